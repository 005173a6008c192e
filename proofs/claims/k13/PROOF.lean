import PyProof.Rows.All
import Wide.All
import OpenK.AllK
import Wide.FinOn
import HandS.ForMost
import HandS.Wide
import HandS.Steps
import HandS.IsInst
import HandS.StrMore
import HandS.Flow
import KE.KDictKeyed
import KE.KDictLaw
import HandS.Dict
import HandS.Iter
import KE.SortData
import KE.KDictList
import HandS.TupAny
import HandS.RaiseMore
import PyProof.ReprRoads
import PyProof.Rows.RegFStrParts
import PyProof.EqAt
import HandS.Style
import KE.DataCmp
import HandS.ForExc
import HandS.ExcInit
import HandS.Text
import PyProof.StrLawsChain
import KE.KDictDisplayH
import HandS.Conv
import KE.KExcIs
import HandS.ExcField
import HandS.ExcIs
import HandS.Lambda
import HandS.Walk
import KE.KDictWalk
import KE.DataMinMax
import KE.KEqDict
import KE.KDictCopyH
import PyProof.NeKinds
import HandS.Deep
import HandS.TupMul
import HandS.HeadHook4
import HandS.HeadWalk
import HandS.Head2
import PySem.Challenge.RW_truestandins_k13_words_that_pacts_let
set_option Elab.async false
set_option linter.all false
set_option maxRecDepth 100000
set_option maxHeartbeats 0
namespace K5
open PySem PySem.Spec PyProof.Rows L2
def topS (i : Nat) : Stmt := PySem.Challenge.pw_truestandins_k13_words_that_pacts_let.main.body.getD (i + 1) (.Pass ⟨0, 0, 0, 0⟩)
abbrev sTake : Stmt := topS 30
abbrev s__law_box : Stmt := topS 29
abbrev s__law_some : Stmt := topS 32
abbrev s_is_integer : Stmt := topS 5
abbrev s_is_worths : Stmt := topS 7
abbrev s_is_name : Stmt := topS 9
abbrev s_is_door : Stmt := topS 10
abbrev s_is_below : Stmt := topS 6
abbrev s_is_answer : Stmt := topS 8
abbrev s_is_tuple : Stmt := topS 11
abbrev s_ascends : Stmt := topS 12
abbrev s_is_outcome : Stmt := topS 19
abbrev s_is_row : Stmt := topS 18
abbrev s_err : Stmt := inClass (topS 0) 0
abbrev s_is_state : Stmt := topS 17
abbrev s_is_pact : Stmt := topS 16
abbrev s_is_letter : Stmt := topS 21
abbrev s_is_word : Stmt := topS 20
abbrev s_outcomes_of : Stmt := topS 22
abbrev s_state_behind : Stmt := topS 23
abbrev s_letters_of : Stmt := topS 26
abbrev s_behind : Stmt := topS 24
abbrev s_word_met : Stmt := topS 27
abbrev s_first_more : Stmt := topS 25
abbrev s__law_letters : Stmt := topS 37
abbrev s__law_outcomes : Stmt := topS 33
abbrev s__law_behind : Stmt := topS 36
abbrev s__law_caught : Stmt := topS 40
abbrev s__law_ring : Stmt := topS 42
abbrev s__law_first_more : Stmt := topS 38
abbrev s__law_pact_drawn : Stmt := topS 34
abbrev s__law_bent : Stmt := topS 35
abbrev s__law_of : Stmt := topS 31
abbrev s__law_word_drawn : Stmt := topS 39
abbrev s__law_right : Stmt := topS 41
abbrev s__law_rings_right : Stmt := topS 43
abbrev s_law : Stmt := topS 44
def oexB (K : PySem.W.Frag) (C : Addr) : Bool := match K.lookup C with
  | some ⟨.type t, _, .cls ⟨_, _, mro, _, _, hd, _, _, _, _, del⟩, sl⟩ => decide (t = "type") && (hd && (!del && ((match mro with
      | .ref c :: bm => decide (c = C) && PySem.HandSPX.refsVE bm
      | _ => false) && (match sl.toList with
      | [_, _, _, _, some (.builtin n), _] => decide (n = "ValueError.__new__")
      | _ => false))))
  | _ => false
theorem oexB_ok {K : PySem.W.Frag} {C : Addr} (h : oexB K C = true) : ∃ nm q N bs bm sn sub ab col dd k0 k1 k2 k3 k5, K.lookup C = some (excClassObj nm q C N bs bm true sn sub ab col dd k0 k1 k2 k3 k5 "ValueError.__new__") ∧ PySem.HandSPX.refsVE bm = true := by
  unfold oexB at h
  split at h
  · rename_i t dd nm bs mro N qn hd sn sub ab col del sl lk
    rw [Bool.and_eq_true, Bool.and_eq_true, Bool.and_eq_true, Bool.and_eq_true] at h
    obtain ⟨h1, h2, h3, h4, h5⟩ := h
    split at h4
    · rename_i c bm
      rw [Bool.and_eq_true] at h4
      split at h5
      · rename_i k0 k1 k2 k3 n k5 e
        have e1 : t = "type" := of_decide_eq_true h1
        have e2 : c = C := of_decide_eq_true h4.1
        have e3 : n = "ValueError.__new__" := of_decide_eq_true h5
        have e4 : hd = true := h2
        have e5 : del = false := by
          cases del
          · rfl
          · cases h3
        have e6 : sl = #[k0, k1, k2, k3, some (.builtin n), k5] := by
          rw [← Array.toList_inj, e]
        subst e1 e2 e3 e4 e5 e6
        exact ⟨nm, qn, N, bs, bm, sn, sub, ab, col, dd, k0, k1, k2, k3, k5, lk, h4.2⟩
      · cases h5
    · cases h4
  · cases h
/-- what else is asked of the classes of errors -/
def errL (K : PySem.W.Frag) (x : Str) : List Bool := [oexB K (He.ga K x), decide (PySem.W.findIn K (.ref (He.ga K x)) "__setattr__" = some (some (.builtin "object.__setattr__"))), decide (PySem.W.subIn K (.ref (He.ga K x)) (.type "BaseException") = some true), decide (PySem.W.typeIn K (.ref (He.ga K x)) = some (.type "type")), PySem.W.keepIn K (.ref (He.ga K x)),
  decide (PySem.W.findIn K (.ref (He.ga K x)) "__init__" = some (some (.ref (He.ma K (He.ga K "WireError") "__init__")))), decide (PySem.W.findIn K (.ref (He.ga K x)) "value" = some none), xfB K (He.ga K x),
  decide (PySem.W.findIn K (.ref (He.ga K x)) "__class__" = some (some (.builtin "object.__class__"))), decide (PySem.W.mroIn K (He.ga K x) (.type "object") = some true), decide (PySem.W.exmOne K (.ref (He.ga K x)) (.ref (He.ga K "WireError")) = some true),
  decide (PySem.W.kitOne K (.ref (He.ga K x)) (.type "ValueError") = some true)]
def exL (K : PySem.W.Frag) : List Bool := [(errL K "BadPact").all id,
  (errL K "BadWord").all id,
  (errL K "BadWorths").all id,
  decide (PySem.W.typeIn K (.ref (He.ma K (He.ga K "WireError") "__init__")) = some (.type "function")),
  decide (PySem.W.specialIn K (.builtin "object.__class__") "__get__" = some (some (.builtin "getset_descriptor.__get__"))),
  decide (PySem.W.takesIn K (.builtin "object.__class__") = some true),
  decide (PySem.W.kitOne K (.ref (He.ga K "BadPact")) (.ref (He.ga K "BadPact")) = some true),
  decide (PySem.W.kitOne K (.ref (He.ga K "BadPact")) (.ref (He.ga K "BadWord")) = some false),
  decide (PySem.W.kitOne K (.ref (He.ga K "BadWord")) (.ref (He.ga K "BadPact")) = some false),
  decide (PySem.W.kitOne K (.ref (He.ga K "BadWord")) (.ref (He.ga K "BadWord")) = some true)]
def exB (K : PySem.W.Frag) : Bool := (exL K).all id
theorem all_at {l : List Bool} (h : l.all id = true) (i : Nat) {b : Bool} (e : l[i]? = some b) : b = true := List.all_eq_true.mp h b (List.mem_of_getElem? e)
def faL : List He.Fa := [
  (.glo "is_integer"),
  (.glo "is_below"),
  (.glo "is_worths"),
  (.glo "is_answer"),
  (.glo "is_name"),
  (.glo "is_door"),
  (.glo "is_tuple"),
  (.glo "ascends"),
  (.glo "is_pact"),
  (.glo "is_state"),
  (.glo "is_row"),
  (.glo "is_outcome"),
  (.glo "is_word"),
  (.glo "is_letter"),
  (.glo "outcomes_of"),
  (.glo "state_behind"),
  (.glo "behind"),
  (.glo "first_more"),
  (.glo "letters_of"),
  (.glo "word_that_met"),
  (.glo "_law_box"),
  (.glo "_law_take"),
  (.glo "_law_of"),
  (.glo "_law_some"),
  (.glo "_law_outcomes"),
  (.glo "_law_pact_drawn"),
  (.glo "_law_bent"),
  (.glo "_law_behind"),
  (.glo "_law_letters"),
  (.glo "_law_first_more"),
  (.glo "_law_word_drawn"),
  (.glo "_law_caught"),
  (.glo "_law_right"),
  (.glo "_law_ring"),
  (.glo "_law_rings_right"),
  (.glo "law"),
  (.glo "WireError"),
  (.glo "BadWorths"),
  (.glo "BadPact"),
  (.glo "BadWord"),
  (.free "int"),
  (.free "len"),
  (.free "abs"),
  (.free "max"),
  (.free "min"),
  (.free "list"),
  (.free "str"),
  (.free "bool"),
  (.free "range"),
  (.free "isinstance"),
  (.free "tuple"),
  (.free "repr"),
  (.free "all"),
  (.free "sorted"),
  (.free "dict"),
  (.int "MOST_STATES" 400),
  (.int "MOST_WORTHS" 4)]
def d0 : He.DefD := ⟨("is_integer", none), "is_integer", "is_integer", defArgs s_is_integer, defBody s_is_integer, defScope s_is_integer, [], []⟩
def d1 : He.DefD := ⟨("is_below", none), "is_below", "is_below", defArgs s_is_below, defBody s_is_below, defScope s_is_below, [], []⟩
def d2 : He.DefD := ⟨("is_worths", none), "is_worths", "is_worths", defArgs s_is_worths, defBody s_is_worths, defScope s_is_worths, [], []⟩
def d3 : He.DefD := ⟨("is_answer", none), "is_answer", "is_answer", defArgs s_is_answer, defBody s_is_answer, defScope s_is_answer, [], []⟩
def d4 : He.DefD := ⟨("is_name", none), "is_name", "is_name", defArgs s_is_name, defBody s_is_name, defScope s_is_name, [], []⟩
def d5 : He.DefD := ⟨("is_door", none), "is_door", "is_door", defArgs s_is_door, defBody s_is_door, defScope s_is_door, [], []⟩
def d6 : He.DefD := ⟨("is_tuple", none), "is_tuple", "is_tuple", defArgs s_is_tuple, defBody s_is_tuple, defScope s_is_tuple, [], []⟩
def d7 : He.DefD := ⟨("ascends", none), "ascends", "ascends", defArgs s_ascends, defBody s_ascends, defScope s_ascends, [], []⟩
def d8 : He.DefD := ⟨("is_pact", none), "is_pact", "is_pact", defArgs s_is_pact, defBody s_is_pact, defScope s_is_pact, [], []⟩
def d9 : He.DefD := ⟨("is_state", none), "is_state", "is_state", defArgs s_is_state, defBody s_is_state, defScope s_is_state, [], []⟩
def d10 : He.DefD := ⟨("is_row", none), "is_row", "is_row", defArgs s_is_row, defBody s_is_row, defScope s_is_row, [], []⟩
def d11 : He.DefD := ⟨("is_outcome", none), "is_outcome", "is_outcome", defArgs s_is_outcome, defBody s_is_outcome, defScope s_is_outcome, [], []⟩
def d12 : He.DefD := ⟨("is_word", none), "is_word", "is_word", defArgs s_is_word, defBody s_is_word, defScope s_is_word, [], []⟩
def d13 : He.DefD := ⟨("is_letter", none), "is_letter", "is_letter", defArgs s_is_letter, defBody s_is_letter, defScope s_is_letter, [], []⟩
def d14 : He.DefD := ⟨("outcomes_of", none), "outcomes_of", "outcomes_of", defArgs s_outcomes_of, defBody s_outcomes_of, defScope s_outcomes_of, [], []⟩
def d15 : He.DefD := ⟨("state_behind", none), "state_behind", "state_behind", defArgs s_state_behind, defBody s_state_behind, defScope s_state_behind, [], []⟩
def d16 : He.DefD := ⟨("behind", none), "behind", "behind", defArgs s_behind, defBody s_behind, defScope s_behind, [], []⟩
def d17 : He.DefD := ⟨("first_more", none), "first_more", "first_more", defArgs s_first_more, defBody s_first_more, defScope s_first_more, [], []⟩
def d18 : He.DefD := ⟨("letters_of", none), "letters_of", "letters_of", defArgs s_letters_of, defBody s_letters_of, defScope s_letters_of, [], []⟩
def d19 : He.DefD := ⟨("word_that_met", none), "word_that_met", "word_that_met", defArgs s_word_met, defBody s_word_met, defScope s_word_met, [], []⟩
def d20 : He.DefD := ⟨("_law_box", none), "_law_box", "_law_box", defArgs s__law_box, defBody s__law_box, defScope s__law_box, [], []⟩
def d21 : He.DefD := ⟨("_law_take", none), "_law_take", "_law_take", defArgs sTake, defBody sTake, defScope sTake, [], []⟩
def d22 : He.DefD := ⟨("_law_of", none), "_law_of", "_law_of", defArgs s__law_of, defBody s__law_of, defScope s__law_of, [], []⟩
def d23 : He.DefD := ⟨("_law_some", none), "_law_some", "_law_some", defArgs s__law_some, defBody s__law_some, defScope s__law_some, [], []⟩
def d24 : He.DefD := ⟨("_law_outcomes", none), "_law_outcomes", "_law_outcomes", defArgs s__law_outcomes, defBody s__law_outcomes, defScope s__law_outcomes, [], []⟩
def d25 : He.DefD := ⟨("_law_pact_drawn", none), "_law_pact_drawn", "_law_pact_drawn", defArgs s__law_pact_drawn, defBody s__law_pact_drawn, defScope s__law_pact_drawn, [], []⟩
def d26 : He.DefD := ⟨("_law_bent", none), "_law_bent", "_law_bent", defArgs s__law_bent, defBody s__law_bent, defScope s__law_bent, [], []⟩
def d27 : He.DefD := ⟨("_law_behind", none), "_law_behind", "_law_behind", defArgs s__law_behind, defBody s__law_behind, defScope s__law_behind, [], []⟩
def d28 : He.DefD := ⟨("_law_letters", none), "_law_letters", "_law_letters", defArgs s__law_letters, defBody s__law_letters, defScope s__law_letters, [], []⟩
def d29 : He.DefD := ⟨("_law_first_more", none), "_law_first_more", "_law_first_more", defArgs s__law_first_more, defBody s__law_first_more, defScope s__law_first_more, [], []⟩
def d30 : He.DefD := ⟨("_law_word_drawn", none), "_law_word_drawn", "_law_word_drawn", defArgs s__law_word_drawn, defBody s__law_word_drawn, defScope s__law_word_drawn, [], []⟩
def d31 : He.DefD := ⟨("_law_caught", none), "_law_caught", "_law_caught", defArgs s__law_caught, defBody s__law_caught, defScope s__law_caught, [], []⟩
def d32 : He.DefD := ⟨("_law_right", none), "_law_right", "_law_right", defArgs s__law_right, defBody s__law_right, defScope s__law_right, [], []⟩
def d33 : He.DefD := ⟨("_law_ring", none), "_law_ring", "_law_ring", defArgs s__law_ring, defBody s__law_ring, defScope s__law_ring, [], []⟩
def d34 : He.DefD := ⟨("_law_rings_right", none), "_law_rings_right", "_law_rings_right", defArgs s__law_rings_right, defBody s__law_rings_right, defScope s__law_rings_right, [], []⟩
def d35 : He.DefD := ⟨("law", none), "law", "law", defArgs s_law, defBody s_law, defScope s_law, [], []⟩
def d36 : He.DefD := ⟨("WireError", some "__init__"), "__init__", "WireError.__init__", defArgs s_err, defBody s_err, defScope s_err, [], []⟩
def fnL : List He.DefD := [d0, d1, d2, d3, d4, d5, d6, d7, d8, d9, d10, d11, d12, d13, d14, d15, d16, d17, d18, d19, d20, d21, d22, d23, d24, d25, d26, d27, d28, d29, d30, d31, d32, d33, d34, d35, d36]
abbrev tfL : List He.Defn := [("_law_right", none)]
abbrev R5 : PySem.W.OpenRow := PySem.W.OpenLaw.row PySem.Challenge.rw_truestandins_k13_words_that_pacts_let
def namesL : List Str := (["__name__", "WireError", "BadWorths", "BadPact", "BadWord", "is_integer", "is_below", "is_worths", "is_answer", "is_name", "is_door", "is_tuple"] : List Str) ++ (["ascends", "MOST_STATES", "MOST_WORTHS", "is_pact", "is_state", "is_row", "is_outcome", "is_word", "is_letter", "outcomes_of", "state_behind", "behind"] : List Str) ++ (["first_more", "letters_of", "word_that_met", "_law_box", "_law_take", "_law_of", "_law_some", "_law_outcomes", "_law_pact_drawn", "_law_bent", "_law_behind", "_law_letters"] : List Str) ++ (["_law_first_more", "_law_word_drawn", "_law_caught", "_law_right", "_law_ring", "_law_rings_right"] : List Str)
abbrev hk5 : PySem.W.Hook := He.hookX 5 faL fnL [] tfL exB
def ob5 (s : PySem.W.SharedT) : He.AlX := He.obsX 5 faL fnL [] tfL exB (HandSHeadRun.getT s)
theorem ob5_eq (s : PySem.W.SharedT) : ob5 s = hk5.obs s.abs := He.obsX_eq (HandSHeadRun.getT_eq s)
theorem run5 (w : World) : HandSHeadRun.RunEq R5 (PySem.W.view R5.prog [45]) hk5 ob5 6000 namesL w := by
  intro os
  kernel_rfl
end K5
namespace K5
open PySem PySem.Spec PyProof.Rows L2
/-! ### values that leave the heap as it is -/
section
variable {X : Cx} {K : PySem.W.Frag} {σ : L2.St} {H : Hp} {ta tb : TE} {i j : Int} {p : Addr} {xs : List V} {v : V}
theorem val_ixL (ha : Val ta σ H (.ref p)) (hb : Val tb σ H (.int i)) (hS : SqL K H p xs) (h : atI xs i = some v) : Val (tOp (rIxL K) ta tb) σ H v :=
  val_op ha hb fun Q q => ⟨p, xs, i, v, rfl, rfl, hS, h, q⟩
theorem val_i0 {g : Int → Int → Int} (ha : Val ta σ H (.int i)) (hb : Val tb σ H (.int j)) : Val (tOp (rI0 fun i j => .int (g i j)) ta tb) σ H (.int (g i j)) :=
  val_op ha hb fun Q q => ⟨i, j, rfl, rfl, q⟩
theorem val_iC {C : Int → Int → Prop} {g : Int → Int → Int} (ha : Val ta σ H (.int i)) (hb : Val tb σ H (.int j)) (hc : C i j) : Val (tOp (rI C fun i j => .int (g i j)) ta tb) σ H (.int (g i j)) :=
  val_op ha hb fun Q q => ⟨i, j, rfl, rfl, hc, q⟩
def rInt1 : List V → Hp → VK → Prop := fun xs H Q => (∃ i, xs = [.int i] ∧ Q (.int i) H) ∨ ∃ k, xs = [.bl k] ∧ Q (.int (if k then 1 else 0)) H
theorem pe_toInt {e : Expr} {te : TE} {p pos : Pos} (hg : Gl X "int") (hm : X.mg "int" = none) (h : PE X e te)
    (he : starEach (e :: []) X.env = (false, eval e X.env) :: starEach [] X.env := by rfl) (hpl : (backTo pos (starEach [] X.env)).any (·.1) = false := by rfl) : PE X (.Call (.Name "int" p) [e] [] pos) (tCB rInt1 (tCons te tNil)) :=
  pe_callTy call_int1 hg hm PyProof.Rows.boot_int (pa_cons h pa_nil he) (he := he) (hpl := hpl)
theorem val_toInt (h : Val ta σ H (.int i)) : Val (tCB rInt1 (tCons ta tNil)) σ H (.int i) := fun Q q => h _ (.inl ⟨i, rfl, q⟩)
theorem val_toIntB {b : Bool} (h : Val ta σ H (.bl b)) : Val (tCB rInt1 (tCons ta tNil)) σ H (.int (if b then 1 else 0)) := fun Q q => h _ (.inr ⟨b, rfl, q⟩)
end
/-! ### the box of draws -/
def bx (p q n : Int) : List V := [.int p, .int q, .int n]
structure Box (p q n : Int) : Prop where
  p0 : 0 ≤ p
  q0 : 0 ≤ q
  q1 : q < 2305843009213693921
  n0 : 0 ≤ n
  n1 : n ≤ 1000000
theorem scTake : FnScope ["_law_box_here", "_law_many", "_law_digit", "_law_big"] ["_law_box_here", "_law_many"] (defScope sTake) := ⟨rfl, rfl, rfl, by decide +kernel, rfl, by decide +kernel, by decide +kernel⟩
/-- a draw: the box goes on, at most one more is counted -/
def spTake : Sp := fun vs H Q _ => ∃ (b : Addr) (m p q n : Int), vs = [.ref b, .int m] ∧ H b = some (.lst (bx p q n)) ∧ Box p q n ∧ n < 1000000 ∧ 0 < m ∧ m < 1000000 ∧
  ∀ d p' n' : Int, 0 ≤ d → d < m → Box p' q n' → n' ≤ n + 1 → Q (.int d) (upd H b (.lst (bx p' q n')))
section
variable {P : Program} {w : World} {K : PySem.W.Frag} {mg : Str → Option Value} {base : Heap}
theorem ok_take {f : Addr} {fd : FuncData} {CX : CXT} (F : Fun K "_law_take" "_law_take" sTake f fd) (mI : mg "int" = none) : FnOk P w K mg base CX0 1 f fd ["_law_box_here", "_law_many"] spTake := by
  refine F.ok scTake (fun vs H Q E h => ?_) (fun cdv A outer s H vs Q E hr h => ?_)
  · obtain ⟨b, m, p, q, n, rfl, _⟩ := h
    rfl
  · obtain ⟨b, m, p, q, n, rfl, hb, B, hn, m0, m1, k⟩ := h
    refine ⟨_, pss_cons (ps_if (pt_cmpR op_gt (pe_ix ix_list (pv 0) pe_int (fun _ _ => rfl)) pe_int (nomark _))
        (pss_cons (ps_set (i := 2) scTake.nd rfl (.inl rfl) (pe_op op_mod (pe_toInt (by rfl) mI (pe_ix ix_list (pv 0) pe_int (fun _ _ => rfl))) (pv 1)))
        (pss_cons (ps_asg (pe_op op_fdiv (pe_ix ix_list (pv 0) pe_int (fun _ _ => rfl)) (pv 1)) (pg_sub (pv 0) pe_int set_list))
        (pss_one (ps_ret (pv 2))))) pss_nil)
      (pss_cons (ps_asg (pe_op op_add (pe_ix ix_list (pv 0) pe_int (fun _ _ => rfl)) pe_int) (pg_sub (pv 0) pe_int set_list))
      (pss_cons (ps_set (i := 3) scTake.nd rfl (.inl rfl) (pe_op op_mod (pe_toInt (by rfl) mI (pe_op op_mul (pe_op op_add (pe_op op_add (pe_ix ix_list (pv 0) pe_int (fun _ _ => rfl)) (pe_op op_mul (pe_op op_mul pe_int (pe_ix ix_list (pv 0) pe_int (fun _ _ => rfl))) (pe_ix ix_list (pv 0) pe_int (fun _ _ => rfl)))) pe_int) pe_int)) pe_int))
      (pss_cons (ps_set (i := 3) scTake.nd rfl (.inl rfl) (pe_op op_mod (pe_toInt (by rfl) mI (pe_op op_mul (pv 3) (pe_op op_add (pe_op op_mod (pe_toInt (by rfl) mI (pv 3)) pe_int) (pe_op op_mul pe_int (pe_ix ix_list (pv 0) pe_int (fun _ _ => rfl)))))) pe_int))
      (pss_one (ps_ret (pe_op op_mod (pe_toInt (by rfl) mI (pe_op op_add (pe_op op_fdiv (pv 3) pe_int) (pe_op op_fdiv (pv 3) pe_int))) (pv 1))))))), ?_⟩
    have hS : SqL K H b (bx p q n) := SqL.of hb
    refine (val_ixL (val_var rfl) val_c hS (atI_nat (j := 0) rfl)) _ ?_
    refine ⟨_, _, rfl, rfl, _, rfl, ite2 (fun e => ?_) (fun e => ?_)⟩
    · refine (val_iC (val_toInt (val_ixL (val_var rfl) val_c hS (atI_nat (j := 0) rfl))) (val_var rfl) m0) _ ?_
      refine (val_iC (val_ixL (val_var rfl) val_c hS (atI_nat (j := 0) rfl)) (val_var rfl) ⟨m0, by omega⟩) _ ?_
      refine ⟨_, rfl, b, _, 0, 0, rfl, rfl, hb, rfl, ?_⟩
      refine ⟨_, rfl, ?_⟩
      have hp : 0 < p := of_decide_eq_true e
      exact k _ _ _ (Int.emod_nonneg _ (by omega)) (Int.emod_lt_of_pos _ m0) ⟨Int.ediv_nonneg B.p0 (by omega), B.q0, B.q1, B.n0, B.n1⟩ (by omega)
    · refine (val_i0 (val_ixL (val_var rfl) val_c hS (atI_nat (j := 2) rfl)) val_c) _ ?_
      refine ⟨_, rfl, b, _, 2, 2, rfl, rfl, hb, rfl, ?_⟩
      have h1 : (upd H b (.lst (bx p q (n + 1)))) b = some (.lst (bx p q (n + 1))) := upd_same
      have hS1 : SqL K (upd H b (.lst (bx p q (n + 1)))) b (bx p q (n + 1)) := SqL.of h1
      refine (val_iC (val_toInt (val_iC (val_i0 (val_i0 (val_ixL (val_var rfl) val_c hS1 (atI_nat (j := 1) rfl)) (val_iC (val_iC val_c (val_ixL (val_var rfl) val_c hS1 (atI_nat (j := 2) rfl)) ?_) (val_ixL (val_var rfl) val_c hS1 (atI_nat (j := 2) rfl)) ?_)) val_c) val_c ?_)) val_c ?_) _ ?_
      · exact .inl ⟨by decide, by decide⟩
      · exact .inr ⟨by have := B.n0; omega, by omega⟩
      · exact .inr ⟨by decide, by decide⟩
      · show (0 : Int) < 2305843009213693921
        decide
      generalize hz : (q + 65543 * (n + 1) * (n + 1) + 41) * 48271 % 2305843009213693921 = z
      have z0 : 0 ≤ z := by rw [← hz]; exact Int.emod_nonneg _ (by decide)
      have z1 : z < 2305843009213693921 := by rw [← hz]; exact Int.emod_lt_of_pos _ (by decide)
      refine (val_iC (val_toInt (val_iC (val_var rfl) (val_i0 (val_iC (val_toInt (val_var rfl)) val_c ?_) (val_iC val_c (val_ixL (val_var rfl) val_c hS1 (atI_nat (j := 2) rfl)) ?_)) ?_)) val_c ?_) _ ?_
      · show (0 : Int) < 1000003
        decide
      · exact .inl ⟨by decide, by decide⟩
      · exact .inl ⟨by omega, by omega⟩
      · show (0 : Int) < 2305843009213693907
        decide
      refine (val_iC (val_toInt (val_i0 (val_iC (val_var rfl) val_c ⟨by decide, by decide⟩) (val_iC (val_var rfl) val_c ⟨by decide, by decide⟩))) (val_var rfl) m0) _ ?_
      exact k _ _ _ (Int.emod_nonneg _ (by omega)) (Int.emod_lt_of_pos _ m0) ⟨B.p0, B.q0, B.q1, by have := B.n0; omega, by omega⟩ (by omega)
end
end K5
namespace K5
open PySem PySem.Spec PyProof.Rows L2
/-- the built-ins' names still are the built-ins' -/
structure Bt (mg : Str → Option Value) : Prop where
  m_int : mg "int" = none
  m_len : mg "len" = none
  m_abs : mg "abs" = none
  m_max : mg "max" = none
  m_min : mg "min" = none
  m_list : mg "list" = none
  m_str : mg "str" = none
  m_bool : mg "bool" = none
  m_range : mg "range" = none
  m_isinstance : mg "isinstance" = none
  m_tuple : mg "tuple" = none
  m_repr : mg "repr" = none
/-- a def of the top -/
structure Df (K : PySem.W.Frag) (mg : Str → Option Value) (x : Str) (st : Stmt) (f : Addr) (fd : FuncData) (ps : List Str) : Prop where
  F : Fun K x x st f fd
  g : mg x = some (.ref f)
  b : Binds K fd ps []
/-- a method -/
structure Mf (K : PySem.W.Frag) (C : Addr) (x qual : Str) (st : Stmt) (f : Addr) (fd : FuncData) (ps : List Str) : Prop where
  F : Fun K x qual st f fd
  m : Meth K C x f
  b : Binds K fd ps []
/-! ### heaps -/
theorem same_upd {H : Hp} {p : Addr} {o : HO} (h : H p = none) : Same H (upd H p o) := fun b x e => by
  rw [upd_ne (ne_of_none e h)]
  exact e
/-- all that was tracked is as it was, but the list at b -/
def SameBut (b : Addr) (H H' : Hp) : Prop := ∀ a o, a ≠ b → H a = some o → H' a = some o
theorem SameBut.of_same {b : Addr} {H H' : Hp} (e : Same H H') : SameBut b H H' := fun a o _ h => e a o h
theorem SameBut.trans {b : Addr} {H H1 H2 : Hp} (x : SameBut b H H1) (y : SameBut b H1 H2) : SameBut b H H2 := fun a o n h => y a o n (x a o n h)
theorem SameBut.upd (b : Addr) (H : Hp) (o : HO) : SameBut b H (upd H b o) := fun a u n h => by
  rw [upd_ne n]
  exact h
/-! ### numbers -/
def CPowB (i j : Int) : Prop := 0 ≤ j ∧ (Builtin.Int.intBits i : Int) * j ≤ 2 ^ 27
theorem op_powB {X : Cx} : OpR X (binaryOp .Pow) (rI CPowB fun i j => .int (i ^ j.toNat)) := opI fun _ _ _ _ _ _ _ hc q => pow_int hc.1 hc.2 q
section
variable {X : Cx} {K : PySem.W.Frag} {σ : L2.St} {H : Hp} {ta tb : TE} {i j : Int} {p : Addr} {xs : List V} {v : V}
theorem val_i0b {g : Int → Int → Bool} (ha : Val ta σ H (.int i)) (hb : Val tb σ H (.int j)) : Val (tOp (rI0 fun i j => .bl (g i j)) ta tb) σ H (.bl (g i j)) :=
  val_op ha hb fun Q q => ⟨i, j, rfl, rfl, q⟩
def rAbs : List V → Hp → VK → Prop := fun xs H Q => ∃ i, xs = [.int i] ∧ Q (.int (if i < 0 then -i else i)) H
theorem val_abs (h : Val ta σ H (.int i)) : Val (tCB rAbs (tCons ta tNil)) σ H (.int (if i < 0 then -i else i)) := fun Q q => h _ ⟨i, rfl, q⟩
def rLenSq (K : PySem.W.Frag) : List V → Hp → VK → Prop := fun xs H Q => ∃ p ys, xs = [.ref p] ∧ (SqL K H p ys ∨ SqT K H p ys) ∧ Q (.int ys.length) H
theorem val_lenL (h : Val ta σ H (.ref p)) (hS : SqL K H p xs) : Val (tCB (rLenSq K) (tCons ta tNil)) σ H (.int xs.length) := fun Q q => h _ ⟨p, xs, rfl, .inl hS, q⟩
end
theorem b01 (b : Bool) : -(2 ^ 64) < (if b = true then (1 : Int) else 0) ∧ (if b = true then (1 : Int) else 0) < 2 ^ 64 := by cases b <;> exact ⟨by decide, by decide⟩
theorem b0 (b : Bool) : 0 ≤ (if b = true then (1 : Int) else 0) := by cases b <;> decide
theorem step_int {te : TE} {σ : L2.St} {H : Hp} {Q : VK} (h : ∃ z : Int, Val te σ H (.int z)) (k : ∀ z : Int, Q (.int z) H) : te σ H Q := by
  obtain ⟨z, hz⟩ := h
  exact hz Q (k z)
/-! ### a fresh box -/
theorem sc__law_box : FnScope ["_law_script", "_law_k", "_law_first", "_law_own"] ["_law_script", "_law_k"] (defScope s__law_box) := ⟨rfl, rfl, rfl, by decide +kernel, rfl, by decide +kernel, by decide +kernel⟩
def spBox (K : PySem.W.Frag) : Sp := fun vs H Q _ => ∃ (a : Addr) (ns : List Int) (k : Int), vs = [.ref a, .int k] ∧ SqL K H a (ns.map V.int) ∧ 0 ≤ k ∧ k < 100 ∧
  ∀ (b : Addr) (p q : Int), H b = none → Box p q 0 → Q (.ref b) (upd H b (.lst (bx p q 0)))
section
variable {P : Program} {w : World} {K : PySem.W.Frag} {mg : Str → Option Value} {base : Heap}
theorem ok_box {f : Addr} {fd : FuncData} (B : Bt mg) (D : Df K mg "_law_box" s__law_box f fd ["_law_script", "_law_k"]) : FnOk P w K mg base CX0 1 f fd ["_law_script", "_law_k"] (spBox K) := by
  refine D.F.ok sc__law_box (fun vs H Q E h => ?_) (fun cdv A outer s H vs Q E hr h => ?_)
  · obtain ⟨a, ns, k, rfl, _⟩ := h
    rfl
  · obtain ⟨a, ns, k, rfl, hS, k0, k1, kk⟩ := h
    have S := sc__law_box
    refine ⟨_, (pss_cons (ps_set (i := 2) S.nd rfl (.inl rfl) (pe_ifExp (pt_cmpR op_lt (pv 1) (pe_callB call_len_seq (by rfl) B.m_len PySem.boot_len (pa_cons (pv 0) pa_nil)) (nomark _)) (pe_ix ix_list (pv 0) (pv 1) (fun _ _ => rfl)) (pe_op op_add (pe_op op_mul pe_int (pv 1)) pe_int)))
      (pss_cons (ps_set (i := 3) S.nd rfl (.inl rfl) (pe_op op_mul (pe_op op_mod (pe_toInt (by rfl) B.m_int (pe_callB call_abs (by rfl) B.m_abs PyProof.Rows.boot_abs (pa_cons (pv 2) pa_nil))) (pe_op op_powB (pe_op op_pow pe_int pe_int) pe_int)) (pe_toInt (by rfl) B.m_int (pe_cmpR op_ge (pe_callB call_abs (by rfl) B.m_abs PyProof.Rows.boot_abs (pa_cons (pv 2) pa_nil)) (pe_op op_pow pe_int pe_int) (nomark _)))))
      (pss_one (ps_ret (pe_lst (pa_cons (pv 3) (pa_cons (pe_op op_mod (pe_toInt (by rfl) B.m_int (pe_op op_add (pe_op op_add (pe_op op_mul (pe_op op_mod (pe_toInt (by rfl) B.m_int (pv 2)) pe_int) pe_int) (pe_op op_mul (pe_op op_mul pe_int (pv 1)) (pv 1))) pe_int)) pe_int) (pa_cons pe_int pa_nil)))))))), ?_⟩
    show tIf _ _ _ _ _ _
    refine step_int ?_ fun z => ?_
    · by_cases hk : k < (ns.map V.int).length
      · have hk' : k.toNat < ns.length := by
          rw [List.length_map] at hk
          omega
        refine ⟨ns[k.toNat], fun Q q => ?_⟩
        refine (val_i0b (val_var rfl) (val_lenL (val_var rfl) hS)) _ ⟨_, rfl, ?_⟩
        rw [decide_eq_true hk]
        refine iteT ((val_ixL (val_var rfl) (val_var rfl) hS (at_of (j := k.toNat) (by omega) ?_)) _ q)
        rw [List.getElem?_map, List.getElem?_eq_getElem hk']
        rfl
      · refine ⟨37 * k + 11, fun Q q => ?_⟩
        refine (val_i0b (val_var rfl) (val_lenL (val_var rfl) hS)) _ ⟨_, rfl, ?_⟩
        rw [decide_eq_false hk]
        exact iteF ((val_i0 (val_iC val_c (val_var rfl) (.inl ⟨by decide, by decide⟩)) val_c) _ q)
    · refine (val_iC (val_iC (val_toInt (val_abs (val_var rfl))) (val_iC (val_iC val_c val_c ⟨by decide, by decide, by decide⟩) val_c ⟨by decide, by decide +kernel⟩) ?_) (val_toIntB (val_i0b (val_abs (val_var rfl)) (val_iC val_c val_c ⟨by decide, by decide, by decide⟩))) ?_) _ ?_
      · show (0 : Int) < (10 ^ (60 : Int).toNat) ^ (4 : Int).toNat
        decide +kernel
      · exact .inr (b01 _)
      generalize hp : (if z < 0 then -z else z) % (10 ^ (60 : Int).toNat) ^ (4 : Int).toNat * (if decide (10 ^ (18 : Int).toNat ≤ if z < 0 then -z else z) = true then 1 else 0) = p
      have p0 : 0 ≤ p := by
        rw [← hp]
        exact Int.mul_nonneg (Int.emod_nonneg _ (by decide +kernel)) (b0 _)
      refine ⟨_, rfl, ?_⟩
      have m1 : 0 ≤ z % 2305843009213693951 := Int.emod_nonneg _ (by decide)
      have m2 : z % 2305843009213693951 < 2305843009213693951 := Int.emod_lt_of_pos _ (by decide)
      refine (val_iC (val_toInt (val_i0 (val_i0 (val_iC (val_iC (val_toInt (val_var rfl)) val_c ?_) val_c ?_) (val_iC (val_iC val_c (val_var rfl) ?_) (val_var rfl) ?_)) val_c)) val_c ?_) _ ?_
      · show (0 : Int) < 2305843009213693951
        decide
      · exact .inr ⟨by decide, by decide⟩
      · exact .inl ⟨by decide, by decide⟩
      · exact .inr ⟨by omega, by omega⟩
      · show (0 : Int) < 2305843009213693921
        decide
      refine ⟨by show 3 ≤ sizeLine; decide, fun b hb => ?_⟩
      exact kk b _ _ hb ⟨p0, Int.emod_nonneg _ (by decide), Int.emod_lt_of_pos _ (by decide), by decide, by decide⟩
end
end K5
namespace K5
open PySem PySem.Spec PyProof.Rows L2
theorem sc__law_some : FnScope ["_law_box_here", "_law_items", "_law_many", "_law_left", "_law_found", "_law_turn"] ["_law_box_here", "_law_items", "_law_many"] (defScope s__law_some) := ⟨rfl, rfl, rfl, by decide +kernel, rfl, by decide +kernel, by decide +kernel⟩
/-- so many of some items, in a drawn sequence: a new list; the box goes on -/
def spSome (K : PySem.W.Frag) : Sp := fun vs H Q _ => ∃ (b l : Addr) (xs : List V) (m : Nat) (p q n : Int), vs = [.ref b, .ref l, .int m] ∧ H b = some (.lst (bx p q n)) ∧ Box p q n ∧ SqL K H l xs ∧ m ≤ xs.length ∧ xs.length ≤ 1000 ∧ n + m < 1000000 ∧
  ∀ (H' : Hp) (r : Addr) (ys rest : List V) (p' n' : Int), SameBut b H H' → H r = none → H' r = some (.lst ys) → H' b = some (.lst (bx p' q n')) → Box p' q n' → n' ≤ n + m → ys.length = m → (ys ++ rest).Perm xs → Q (.ref r) H'
theorem seqIndex_in {n : Nat} {d : Int} (h0 : 0 ≤ d) (h1 : d < n) : seqIndex? d n = some d.toNat := by
  unfold seqIndex?
  simp only []
  split <;> simp_all <;> omega
theorem erase_perm {α : Type} : ∀ {l : List α} {j : Nat} (h : j < l.length), (l[j] :: l.eraseIdx j).Perm l
  | _ :: _, 0, _ => List.Perm.refl _
  | a :: l, j + 1, h => by
    have hj : j < l.length := Nat.lt_of_succ_lt_succ h
    have ih := erase_perm (l := l) (j := j) hj
    show (l[j] :: a :: l.eraseIdx j).Perm (a :: l)
    exact (List.Perm.swap _ _ _).trans (List.Perm.cons a ih)
theorem perm_pick {ys xs l : List V} {j : Nat} {y : V} (h : (ys ++ l).Perm xs) (hj : l[j]? = some y) : (ys ++ [y] ++ l.eraseIdx j).Perm xs := by
  refine List.Perm.trans ?_ h
  rw [List.append_assoc]
  refine List.Perm.append_left ys ?_
  show (y :: l.eraseIdx j).Perm l
  obtain ⟨hl, e⟩ := List.getElem?_eq_some_iff.mp hj
  rw [← e]
  exact erase_perm hl
section
variable {P : Program} {w : World} {K : PySem.W.Frag} {mg : Str → Option Value} {base : Heap}
theorem ok_some {f fT : Addr} {fd fdT : FuncData} (B : Bt mg) (D : Df K mg "_law_some" s__law_some f fd ["_law_box_here", "_law_items", "_law_many"]) (D__law_take : Df K mg "_law_take" sTake fT fdT ["_law_box_here", "_law_many"]) :
    FnOk P w K mg base CX0 2 f fd ["_law_box_here", "_law_items", "_law_many"] (spSome K) := by
  have G__law_take : FnOk P w K mg base CX0 1 fT fdT ["_law_box_here", "_law_many"] spTake := ok_take (CX := CX0) D__law_take.F B.m_int
  refine D.F.ok sc__law_some (fun vs H Q E h => ?_) (fun cdv A outer s H vs Q E hr h => ?_)
  · obtain ⟨b, l, xs, m, p, q, n, rfl, _⟩ := h
    rfl
  · obtain ⟨b, l, xs, m, p, q, n, rfl, hb, Bx, hS, hm, hx, hn, k⟩ := h
    have S := sc__law_some
    refine ⟨_, (pss_cons (ps_par (i := 3) (j := 4) (by rfl) S.nd rfl rfl (by decide) rfl rfl (pa_cons (pe_callTy call_list_of (by rfl) B.m_list PyProof.Rows.boot_list (pa_cons (pv 1) pa_nil)) (pa_cons (pe_lst pa_nil) pa_nil)) (by rfl))
      (pss_cons (ps_for PassesOwn.never rfl (pi_range1 (by rfl) B.m_range (pa_cons (pv 2) pa_nil)) (pg_name (i := 5) S.nd rfl (.inl rfl))
        (pss_one (ps_expr (pe_bm PySem.F.plainAttrs_list PySem.F.slot_list_append PySem.F.type_list_append mt_append (pv 4) (pa_cons (pe_bm PySem.F.plainAttrs_list PySem.F.slot_list_pop PySem.F.type_list_pop mt_popAt (pv 3) (pa_cons (pe_call G__law_take (hr.mono (by decide)) (by rfl) D__law_take.g D__law_take.F.kp D__law_take.b .nil pass0 (pa_cons (pv 0) (pa_cons (pe_callB call_len_seq (by rfl) B.m_len PySem.boot_len (pa_cons (pv 3) pa_nil)) pa_nil))) pa_nil)) pa_nil)))))
      (pss_one (ps_ret (pv 4))))), ?_⟩
    -- left, found
    refine ⟨.ref l, rfl, l, xs, rfl, .inl hS, fun a na => ?_⟩
    refine ⟨Nat.zero_le _, fun r nr => ?_⟩
    have nra : r ≠ a := fun e => by rw [e, upd_same] at nr; cases nr
    have nba : b ≠ a := ne_of_none hb na
    have s1 : Same H (upd H a (.lst xs)) := same_upd na
    have s2 : Same (upd H a (.lst xs)) (upd (upd H a (.lst xs)) r (.lst [])) := same_upd nr
    have nr0 : H r = none := s1.free nr
    refine ⟨_, _, rfl, ?_⟩
    refine ⟨.int m, rfl, m, rfl, by omega, by omega, ?_⟩
    show ∃ W : Nat → Nat → L2.St → Hp → Prop, _
    refine for_range (lo := 0) (n := (m : Int).toNat) (fun i σ H' => ∃ (ys left : List V) (p' n' : Int) (t : Option V), σ = [some (.ref b), some (.ref l), some (.int m), some (.ref a), some (.ref r), t] ∧
        SameBut b H H' ∧ H' b = some (.lst (bx p' q n')) ∧ Box p' q n' ∧ n' ≤ n + i ∧ H' a = some (.lst left) ∧ H' r = some (.lst ys) ∧ ys.length = i ∧ (ys ++ left).Perm xs) ?_ ?_ ?_
    · refine ⟨[], xs, p, n, none, rfl, (SameBut.of_same s1).trans (SameBut.of_same s2), s2 _ _ (s1 _ _ hb), Bx, by omega, ?_, upd_same, rfl, List.Perm.refl _⟩
      rw [upd_ne nra.symm, upd_same]
    · rintro i σ H' hi ⟨ys, left, p', n', t, rfl, sb, hb', Bx', hn', ha', hr', hy, hp⟩
      have hlen : ys.length + left.length = xs.length := by
        have z := hp.length_eq
        rw [List.length_append] at z
        exact z
      have hi' : i < m := by omega
      refine ⟨.ref r, rfl, .inl ⟨rfl, _, SqL.of hr'⟩, .ref a, rfl, .inl ⟨rfl, _, SqL.of ha'⟩, ?_⟩
      refine ⟨.ref b, rfl, .ref a, rfl, a, left, rfl, .inl (SqL.of ha'), ?_⟩
      refine ⟨b, left.length, p', q, n', rfl, hb', Bx', by omega, by omega, by omega, fun d p'' n'' d0 d1 B2 hn2 => ?_⟩
      have nab : a ≠ b := fun e => nba e.symm
      have nrb : r ≠ b := fun e => by rw [e, hb] at nr0; cases nr0
      have ha2 : (upd H' b (.lst (bx p'' q n''))) a = some (.lst left) := by rw [upd_ne nab]; exact ha'
      have hj : d.toNat < left.length := by omega
      refine ⟨a, left, d, d.toNat, left[d.toNat], rfl, rfl, ha2, by omega, by omega, seqIndex_in d0 (by omega), List.getElem?_eq_getElem hj, ?_⟩
      refine ⟨r, ys, left[d.toNat], rfl, rfl, ?_, ?_, ?_⟩
      · rw [upd_ne nra, upd_ne nrb]
        exact hr'
      · exact small1000 (by omega)
      · refine ⟨ys ++ [left[d.toNat]], left.eraseIdx d.toNat, p'', n'', _, rfl, ?_, ?_, B2, by omega, ?_, upd_same, ?_, perm_pick hp (List.getElem?_eq_getElem hj)⟩
        · intro c o nc hc
          have n1 : c ≠ r := ne_of_none hc nr0
          have n2 : c ≠ a := ne_of_none hc na
          rw [upd_ne n1, upd_ne n2, upd_ne nc]
          exact sb c o nc hc
        · rw [upd_ne nrb.symm, upd_ne nba, upd_same]
        · rw [upd_ne nra.symm, upd_same]
        · rw [List.length_append, hy]
          rfl
    · rintro σ H' ⟨ys, left, p', n', t, rfl, sb, hb', Bx', hn', ha', hr', hy, hp⟩
      exact ⟨.ref r, rfl, k H' r ys left p' n' sb nr0 hr' hb' Bx' (by omega) (by omega) hp⟩
end
end K5
namespace K5
open PySem PySem.Spec PyProof.Rows L2
/-! ### kinds of values -/
inductive Kd (H : Hp) : V → String → Prop
  | non : Kd H .non "NoneType"
  | bl (b : Bool) : Kd H (.bl b) "bool"
  | int (i : Int) : Kd H (.int i) "int"
  | str (x : Str) : Kd H (.str x) "str"
  | lst {a : Addr} {xs : List V} (h : H a = some (.lst xs)) : Kd H (.ref a) "list"
  | tup {a : Addr} {xs : List V} (h : H a = some (.tup xs)) : Kd H (.ref a) "tuple"
  | dK {a : Addr} {kvs : List (Key × V)} (h : H a = some (.dK kvs)) : Kd H (.ref a) "dict"
theorem Kd.ty {K : PySem.W.Frag} {H : Hp} {x : V} {T : String} (h : Kd H x T) : TyX K H x (.type T) := by
  cases h with
  | non => exact .base .non
  | bl b => exact .base (.bl b)
  | int i => exact .base (.int i)
  | str x => exact .base (.str x)
  | lst h => exact .base (.lst h)
  | tup h => exact .base (.tup h)
  | dK h => exact .base (.dK h)
theorem Kd.mono {H H' : Hp} {x : V} {T : String} (h : Kd H x T) (e : Same H H') : Kd H' x T := by
  cases h with
  | non => exact .non
  | bl b => exact .bl b
  | int i => exact .int i
  | str x => exact .str x
  | lst h => exact .lst (e _ _ h)
  | tup h => exact .tup (e _ _ h)
  | dK h => exact .dK (e _ _ h)
def isI : V → Bool
  | .int _ => true
  | _ => false
def isIB : V → Bool
  | .int _ => true
  | .bl _ => true
  | _ => false
def isB : V → Bool
  | .bl _ => true
  | _ => false
def isS : V → Bool
  | .str _ => true
  | _ => false
theorem Kd.int_ {H : Hp} {x : V} {T : String} (h : Kd H x T) : kitB T "int" = some (isIB x) := by cases h <;> (simp only [isIB, isB, isS]; decide +kernel)
theorem Kd.bool_ {H : Hp} {x : V} {T : String} (h : Kd H x T) : kitB T "bool" = some (isB x) := by cases h <;> (simp only [isIB, isB, isS]; decide +kernel)
theorem Kd.str_ {H : Hp} {x : V} {T : String} (h : Kd H x T) : kitB T "str" = some (isS x) := by cases h <;> (simp only [isIB, isB, isS]; decide +kernel)
section
variable {X : Cx} {K : PySem.W.Frag} {σ : L2.St} {H : Hp} {ta tb tc : TE} {i j k : Int} {p : Addr} {xs : List V} {v x : V} {a b : Bool}
theorem val_isi {T C : String} (ha : Val ta σ H x) (hx : Kd H x T) (h : kitB T C = some b) : Val (tCB (rIsi K) (tCons ta (tCons (tC (.ty C)) tNil))) σ H (.bl b) := fun Q q =>
  ha _ ⟨x, .ty C, .type T, .type C, b, rfl, .ty C, hx.ty, kit_ty h, q⟩
theorem val_andV (ha : Val ta σ H (.bl a)) (hb : a = true → Val tb σ H (.bl b)) : Val (tAndV ta tb) σ H (.bl (a && b)) := fun Q q => ha _ ⟨a, rfl, by
  cases a with
  | true => exact iteT (hb rfl _ q)
  | false => exact iteF q⟩
theorem val_notV (ha : Val ta σ H (.bl a)) : Val (tNotV ta) σ H (.bl (!a)) := fun Q q => ha _ ⟨a, rfl, q⟩
theorem val_chain {g1 g2 : Int → Int → Bool} (ha : Val ta σ H (.int i)) (hb : Val tb σ H (.int j)) (hc : Val tc σ H (.int k)) :
    Val (tChain (rI0 fun i j => .bl (g1 i j)) (rI0 fun i j => .bl (g2 i j)) ta tb tc) σ H (.bl (g1 i j && g2 j k)) := fun Q q =>
  ha _ (hb _ ⟨i, j, rfl, rfl, g1 i j, rfl, by
    cases e : g1 i j with
    | true =>
      rw [e] at q
      exact iteT (hc _ ⟨j, k, rfl, rfl, q⟩)
    | false =>
      rw [e] at q
      exact iteF q⟩)
theorem pe_tyN {n : String} {y : Str} {pos : Pos} (hv : bootBuiltins y = some (.type n)) (hg : Gl X y) (hm : X.mg y = none) (hn : y ≠ "__name__" := by decide) (hdb : (y == ("__debug__" : Str)) = false := by decide) : PE X (.Name y pos) (tC (.ty n)) := pe_bltn hg hm hv rfl (hn := hn) (hd := hdb)
theorem bt_int : bootBuiltins "int" = some (.type "int") := by decide +kernel
theorem bt_bool : bootBuiltins "bool" = some (.type "bool") := by decide +kernel
theorem bt_str : bootBuiltins "str" = some (.type "str") := by decide +kernel
theorem val_call {sp : Sp} {E : XK} {t : TA} {vs : List V} (h : ∀ Q : List V → Hp → Prop, Q vs H → t σ H Q) (hs : ∀ Q : VK, Q v H → sp vs H Q E) : Val (tCall sp [] E t) σ H v := fun Q q =>
  h _ (by rw [List.append_nil]; exact hs Q q)
theorem va_nil : ∀ Q : List V → Hp → Prop, Q [] H → tNil σ H Q := fun _ q => q
theorem va_cons {t : TA} {vs : List V} (ha : Val ta σ H v) (ht : ∀ Q : List V → Hp → Prop, Q vs H → t σ H Q) : ∀ Q : List V → Hp → Prop, Q (v :: vs) H → tCons ta t σ H Q := fun Q q => ha _ (ht _ q)
def rLenS : List V → Hp → VK → Prop := fun xs H Q => ∃ z, xs = [.str z] ∧ z.length ≤ sizeLine ∧ Q (.int z.length) H
theorem val_lenS {z : Str} (h : Val ta σ H (.str z)) (hz : z.length ≤ sizeLine) : Val (tCB rLenS (tCons ta tNil)) σ H (.int z.length) := fun Q q => h _ ⟨z, rfl, hz, q⟩
theorem val_sb0 {g : Str → Bool} {z : Str} (h : Val ta σ H (.str z)) : Val (tBM0 K "str" (fun x xs H Q => ∃ a, x = .str a ∧ xs = [] ∧ True ∧ Q (.bl (g a)) H) ta) σ H (.bl (g z)) := fun Q q =>
  h _ ⟨rfl, z, rfl, rfl, True.intro, q⟩
end
/-! ### forms -/
def worthsOk : V → Bool
  | .int i => decide (2 ≤ i) && decide (i ≤ 4)
  | _ => false
def isName (z : Str) : Bool := (decide ((1 : Int) ≤ (z.length : Int)) && decide ((z.length : Int) ≤ 8)) && (Txt.isascii z && (Txt.isalpha z && Txt.islower z))
def isDoor (z : Str) : Bool := isName z && !decide (V.str z = V.str "any")
def spIsInt : Sp := fun vs H Q _ => ∃ (x : V) (T : String), vs = [x] ∧ Kd H x T ∧ Q (.bl (isI x)) H
def spIsWorths : Sp := fun vs H Q _ => ∃ (x : V) (T : String), vs = [x] ∧ Kd H x T ∧ Q (.bl (worthsOk x)) H
def spIsName : Sp := fun vs H Q _ => ∃ z : Str, vs = [.str z] ∧ z.length ≤ 10000000 ∧ Q (.bl (isName z)) H
def spIsDoor : Sp := fun vs H Q _ => ∃ z : Str, vs = [.str z] ∧ z.length ≤ 10000000 ∧ Q (.bl (isDoor z)) H
theorem sc_is_integer : FnScope ["value"] ["value"] (defScope s_is_integer) := ⟨rfl, rfl, rfl, by decide +kernel, rfl, by decide +kernel, by decide +kernel⟩
theorem sc_is_worths : FnScope ["value"] ["value"] (defScope s_is_worths) := ⟨rfl, rfl, rfl, by decide +kernel, rfl, by decide +kernel, by decide +kernel⟩
theorem sc_is_name : FnScope ["value"] ["value"] (defScope s_is_name) := ⟨rfl, rfl, rfl, by decide +kernel, rfl, by decide +kernel, by decide +kernel⟩
theorem sc_is_door : FnScope ["value"] ["value"] (defScope s_is_door) := ⟨rfl, rfl, rfl, by decide +kernel, rfl, by decide +kernel, by decide +kernel⟩
theorem big_size {n : Nat} (h : n ≤ 10000000) : n ≤ sizeLine := Nat.le_trans h (by decide)
section
variable {P : Program} {w : World} {K : PySem.W.Frag} {mg : Str → Option Value} {base : Heap}
theorem ok_is_integer {f : Addr} {fd : FuncData} (B : Bt mg) (D : Df K mg "is_integer" s_is_integer f fd ["value"]) : FnOk P w K mg base CX0 1 f fd ["value"] spIsInt := by
  refine D.F.ok sc_is_integer (fun vs H Q E h => ?_) (fun cdv A outer s H vs Q E hr h => ?_)
  · obtain ⟨x, T, rfl, _⟩ := h
    rfl
  · obtain ⟨x, T, rfl, hx, k⟩ := h
    have S := sc_is_integer
    refine ⟨_, (pss_one (ps_ret (pe_and (pe_callB call_isi (by rfl) B.m_isinstance PyProof.Rows.boot_isinstance (pa_cons (pv 0) (pa_cons (pe_tyN bt_int (by rfl) B.m_int) pa_nil))) (pe_one (pe_not (pe_callB call_isi (by rfl) B.m_isinstance PyProof.Rows.boot_isinstance (pa_cons (pv 0) (pa_cons (pe_tyN bt_bool (by rfl) B.m_bool) pa_nil)))))))), ?_⟩
    refine (val_andV (val_isi (val_var rfl) hx hx.int_) fun _ => val_notV (val_isi (val_var rfl) hx hx.bool_)) _ ?_
    have e : (isIB x && !isB x) = isI x := by cases x <;> rfl
    rw [e]
    exact k
theorem ok_is_worths {f fI : Addr} {fd fdI : FuncData} (B : Bt mg) (D : Df K mg "is_worths" s_is_worths f fd ["value"]) (D_is_integer : Df K mg "is_integer" s_is_integer fI fdI ["value"]) : FnOk P w K mg base CX0 2 f fd ["value"] spIsWorths := by
  have G_is_integer : FnOk P w K mg base CX0 1 fI fdI ["value"] spIsInt := ok_is_integer B D_is_integer
  refine D.F.ok sc_is_worths (fun vs H Q E h => ?_) (fun cdv A outer s H vs Q E hr h => ?_)
  · obtain ⟨x, T, rfl, _⟩ := h
    rfl
  · obtain ⟨x, T, rfl, hx, k⟩ := h
    have S := sc_is_worths
    refine ⟨_, (pss_one (ps_ret (pe_and (pe_call G_is_integer (hr.mono (by decide)) (by rfl) D_is_integer.g D_is_integer.F.kp D_is_integer.b .nil pass0 (pa_cons (pv 0) pa_nil)) (pe_one (pe_chain op_le op_le pe_int (pv 0) pe_int))))), ?_⟩
    refine (val_call (va_cons (val_var rfl) va_nil) fun Q q => ⟨x, T, rfl, hx, q⟩) _ ⟨_, rfl, ?_⟩
    cases hx with
    | int i => exact iteT ((val_chain val_c (val_var rfl) val_c) _ k)
    | _ => exact iteF k
theorem ok_is_name {f : Addr} {fd : FuncData} (B : Bt mg) (D : Df K mg "is_name" s_is_name f fd ["value"]) : FnOk P w K mg base CX0 1 f fd ["value"] spIsName := by
  refine D.F.ok sc_is_name (fun vs H Q E h => ?_) (fun cdv A outer s H vs Q E hr h => ?_)
  · obtain ⟨z, rfl, _⟩ := h
    rfl
  · obtain ⟨z, rfl, hz, k⟩ := h
    have S := sc_is_name
    refine ⟨_, (pss_cons (ps_if (pt_not (pt_val (pe_callB call_isi (by rfl) B.m_isinstance PyProof.Rows.boot_isinstance (pa_cons (pv 0) (pa_cons (pe_tyN bt_str (by rfl) B.m_str) pa_nil)))))
        (pss_one (ps_ret pe_bl))
        pss_nil)
      (pss_one (ps_ret (pe_and (pe_chain op_le op_le pe_int (pe_callB call_len_str (by rfl) B.m_len PySem.boot_len (pa_cons (pv 0) pa_nil)) pe_int) (pe_and (pe_bm0 PySem.F.plainAttrs_str PySem.F.slot_str_isascii PySem.F.type_str_isascii mt_isascii (pv 0)) (pe_and (pe_bm0 PySem.F.plainAttrs_str PySem.F.slot_str_isalpha PySem.F.type_str_isalpha mt_isalpha (pv 0)) (pe_one (pe_bm0 PySem.F.plainAttrs_str PySem.F.slot_str_islower PySem.F.type_str_islower mt_islower (pv 0))))))))), ?_⟩
    refine (val_isi (val_var rfl) (.str z) (Kd.str_ (H := H) (.str z))) _ ⟨_, rfl, ?_⟩
    refine iteF ?_
    exact (val_andV (val_chain val_c (val_lenS (val_var rfl) (big_size hz)) val_c) fun _ => val_andV (val_sb0 (val_var rfl)) fun _ => val_andV (val_sb0 (val_var rfl)) fun _ => val_sb0 (val_var rfl)) _ k
theorem ok_is_door {f fN : Addr} {fd fdN : FuncData} (B : Bt mg) (D : Df K mg "is_door" s_is_door f fd ["value"]) (D_is_name : Df K mg "is_name" s_is_name fN fdN ["value"]) : FnOk P w K mg base CX0 2 f fd ["value"] spIsDoor := by
  have G_is_name : FnOk P w K mg base CX0 1 fN fdN ["value"] spIsName := ok_is_name B D_is_name
  refine D.F.ok sc_is_door (fun vs H Q E h => ?_) (fun cdv A outer s H vs Q E hr h => ?_)
  · obtain ⟨z, rfl, _⟩ := h
    rfl
  · obtain ⟨z, rfl, hz, k⟩ := h
    have S := sc_is_door
    refine ⟨_, (pss_one (ps_ret (pe_and (pe_call G_is_name (hr.mono (by decide)) (by rfl) D_is_name.g D_is_name.F.kp D_is_name.b .nil pass0 (pa_cons (pv 0) pa_nil)) (pe_one (pe_cmpR op_ne (pv 0) pe_str (nomark _)))))), ?_⟩
    exact (val_andV (val_call (va_cons (val_var rfl) va_nil) fun Q q => ⟨z, rfl, hz, q⟩) fun _ => val_op (val_var rfl) val_c fun Q q => ⟨rfl, q⟩) _ k
end
end K5
namespace K5
open PySem PySem.Spec PyProof.Rows L2
/-- a tuple of which the very object is known: it has no dict of its own -/
def FT (H : Hp) (a : Addr) (xs : List V) : Prop := ∃ ob : Obj, H a = some (.frz ob (.tup xs)) ∧ ob.dict = none
theorem FT.mono {H H' : Hp} {a : Addr} {xs : List V} (h : FT H a xs) (e : Same H H') : FT H' a xs := by
  obtain ⟨ob, h1, h2⟩ := h
  exact ⟨ob, e _ _ h1, h2⟩
theorem FT.sq {K : PySem.W.Frag} {H : Hp} {a : Addr} {xs : List V} (h : FT H a xs) : SqT K H a xs := by
  obtain ⟨ob, h1, _⟩ := h
  exact .inl (.inr ⟨ob, h1⟩)
/-! ### data in the heap -/
mutual
inductive Tr (H : Hp) : V → PyData → Prop
  | int (i : Int) : Tr H (.int i) (.int i)
  | str (x : Str) : Tr H (.str x) (.str x)
  | tup {a : Addr} {xs : List V} {ds : List PyData} : H a = some (.tup xs) → Trs H xs ds → Tr H (.ref a) (.tuple ds)
inductive Trs (H : Hp) : List V → List PyData → Prop
  | nil : Trs H [] []
  | cons {v : V} {vs : List V} {d : PyData} {ds : List PyData} : Tr H v d → Trs H vs ds → Trs H (v :: vs) (d :: ds)
end
section
variable {H H' : Hp}
mutual
theorem Tr.keep (k : ∀ a zs, H a = some (.tup zs) → H' a = some (.tup zs)) : ∀ {v : V} {d : PyData}, Tr H v d → Tr H' v d
  | _, _, .int i => .int i
  | _, _, .str x => .str x
  | _, _, .tup h r => .tup (k _ _ h) (Trs.keep k r)
theorem Trs.keep (k : ∀ a zs, H a = some (.tup zs) → H' a = some (.tup zs)) : ∀ {vs : List V} {ds : List PyData}, Trs H vs ds → Trs H' vs ds
  | _, _, .nil => .nil
  | _, _, .cons h r => .cons (Tr.keep k h) (Trs.keep k r)
end
theorem Tr.mono {v : V} {d : PyData} (h : Tr H v d) (e : Same H H') : Tr H' v d := h.keep fun _ _ q => e _ _ q
theorem Trs.mono {v : List V} {d : List PyData} (h : Trs H v d) (e : Same H H') : Trs H' v d := h.keep fun _ _ q => e _ _ q
theorem tup_but {o : HO} {b : Addr} (hb : ∀ zs, H b ≠ some (.tup zs)) : ∀ a zs, H a = some (.tup zs) → (upd H b o) a = some (.tup zs) := fun a zs h => by
  have ne : a ≠ b := fun e => hb zs (by rw [← e]; exact h)
  rw [upd_ne ne]
  exact h
theorem Tr.but {o : HO} {b : Addr} {x : V} {d : PyData} (h : Tr H x d) (hb : ∀ zs, H b ≠ some (.tup zs)) : Tr (upd H b o) x d := h.keep (tup_but hb)
theorem Trs.but {o : HO} {b : Addr} {x : List V} {d : List PyData} (h : Trs H x d) (hb : ∀ zs, H b ≠ some (.tup zs)) : Trs (upd H b o) x d := h.keep (tup_but hb)
theorem Trs.len : ∀ {vs : List V} {ds : List PyData}, Trs H vs ds → vs.length = ds.length
  | _, _, .nil => rfl
  | _, _, .cons _ r => congrArg (· + 1) r.len
theorem Trs.get : ∀ {vs : List V} {ds : List PyData} {j : Nat} {d : PyData}, Trs H vs ds → ds[j]? = some d → ∃ v, vs[j]? = some v ∧ Tr H v d
  | _, _, 0, _, .cons h r, e => ⟨_, rfl, by cases e; exact h⟩
  | _, _, j + 1, _, .cons h r, e => r.get (j := j) e
theorem Trs.set {v : V} {d : PyData} (hv : Tr H v d) : ∀ {vs : List V} {ds : List PyData} {j : Nat}, Trs H vs ds → Trs H (vs.set j v) (ds.set j d)
  | _, _, _, .nil => .nil
  | _, _, 0, .cons h r => .cons hv r
  | _, _, j + 1, .cons h r => .cons h (r.set hv)
theorem Trs.app : ∀ {vs ws : List V} {ds es : List PyData}, Trs H vs ds → Trs H ws es → Trs H (vs ++ ws) (ds ++ es)
  | _, _, _, _, .nil, q => q
  | _, _, _, _, .cons h r, q => .cons h (r.app q)
theorem tr2 {a : Addr} {x y : V} {d e : PyData} (h : H a = some (.tup [x, y])) (hx : Tr H x d) (hy : Tr H y e) : Tr H (.ref a) (.tuple [d, e]) := .tup h (.cons hx (.cons hy .nil))
theorem tr1 {a : Addr} {x : V} {d : PyData} (h : H a = some (.tup [x])) (hx : Tr H x d) : Tr H (.ref a) (.tuple [d]) := .tup h (.cons hx .nil)
theorem tr3 {a : Addr} {x y z : V} {d e f : PyData} (h : H a = some (.tup [x, y, z])) (hx : Tr H x d) (hy : Tr H y e) (hz : Tr H z f) : Tr H (.ref a) (.tuple [d, e, f]) := .tup h (.cons hx (.cons hy (.cons hz .nil)))
mutual
theorem Tr.dp {K : PySem.W.Frag} : ∀ {v : V} {d : PyData}, Tr H v d → Dp K H v d
  | _, _, .int i => .int i
  | _, _, .str x => .str x
  | _, _, .tup h r => .tup (SqT.of h) (Trs.dp r)
theorem Trs.dp {K : PySem.W.Frag} : ∀ {vs : List V} {ds : List PyData}, Trs H vs ds → DpAll K H vs ds
  | _, _, .nil => .nil
  | _, _, .cons h r => .cons (Tr.dp h) (Trs.dp r)
end
end
/-- a def whose code object is at c -/
structure FunT (K : PySem.W.Frag) (x qual : Str) (st : Stmt) (f : Addr) (fd : FuncData) (c : Addr) : Prop where
  ex : ∃ (oc : Value) (od : Option Addr) (kV doc pm : Value) (an : Option Addr) (ct : Value) (osl : Array (Option Value)),
    fd = PySem.W.fnOf x qual (defArgs st) (defBody st) (defScope st) .none kV doc pm an (.ref c) ct ∧ K.lookup f = some ⟨oc, od, .func fd, osl⟩ ∧ PySem.W.codeIn K (.ref c) qual = true
  kp : PySem.W.keepIn K (.ref f) = true
theorem FunT.okC {P : Program} {w : World} {K : PySem.W.Frag} {mg : Str → Option Value} {base : Heap} {x qual : Str} {st : Stmt} {f c : Addr} {fd : FuncData} {N ps : List Str} {k : Nat} {sp : Sp} (F : FunT K x qual st f fd c) (S : FnScope N ps (defScope st)) (len : ∀ vs H Q E, sp vs H Q E → vs.length = ps.length)
    (hbody : ∀ (A : Around) (outer : List Env) (s : Shared) (H : Hp) (vs : List V) (Q : VK) (E : XK), Room k (A.deeper (envOfC qual (defScope st) s.heap.objs.size f (.ref c))) → sp vs H Q E →
      ∃ t, PSs (cxOf (L2.CX P w) P w K mg base N qual (defScope st) f (.ref c) A outer s H E) (defBody st) t ∧ t { nx := fun _ H' => Q .non H', rt := Q } (start N vs) H) : FnOk P w K mg base (L2.CX P w) (k + 1) f fd ps sp := by
  obtain ⟨oc, od, kV, doc, pm, an, ct, osl, e, l1, l2⟩ := F.ex
  subst e
  exact fn_of l1 l2 S len hbody
theorem inV_strs (z : Str) : ∀ l : List Str, inV (.str z) (l.map V.str) = decide (z ∈ l)
  | [] => by simp [inV]
  | y :: r => by
    have ih := inV_strs z r
    unfold inV at ih ⊢
    rw [List.map_cons, List.any_cons, ih]
    by_cases h : z = y
    · subst h
      simp [eqV]
    · have h2 : (y == z) = false := by
        rw [beq_eq_false_iff_ne]
        exact fun e => h e.symm
      simp [eqV, h, h2]
theorem flat_strs (l : List Str) : (l.map V.str).all flatV = true := by
  rw [List.all_map, List.all_eq_true]
  intro z _
  rfl
section
variable {X : Cx} {K : PySem.W.Frag} {σ : L2.St} {H : Hp} {ta tb tc : TE} {t u : TT} {i j k : Int} {p : Addr} {xs : List V} {v x : V} {a b : Bool}
theorem val_inT {z : Str} {l : List Str} (ha : Val ta σ H (.str z)) (hb : Val tb σ H (.ref p)) (hS : SqT K H p (l.map V.str)) : Val (tOp (rIn K false) ta tb) σ H (.bl (decide (z ∈ l))) :=
  val_op ha hb fun Q q => ⟨p, _, rfl, .inr hS, rfl, flat_strs l, by
    show Q (.bl (inV (.str z) (l.map V.str))) H
    rw [inV_strs]
    exact q⟩
end
end K5
namespace K5
open PySem PySem.Spec PyProof.Rows L2
/-! ### dicts whose keys are nested tuples of whole numbers and texts -/
mutual
def keyD : PyData → Bool
  | .int _ => true
  | .str _ => true
  | .tuple ds => keyDs ds
  | _ => false
def keyDs : List PyData → Bool
  | [] => true
  | d :: r => keyD d && keyDs r
end
mutual
def nkOf : PyData → NestedKey
  | .int i => .num i
  | .str x => .text x
  | .tuple ds => .tup (nksOf ds)
  | _ => .none
def nksOf : List PyData → List NestedKey
  | [] => []
  | d :: r => nkOf d :: nksOf r
end
mutual
theorem nkOf_inj : ∀ (d e : PyData), keyD d = true → keyD e = true → nkOf d = nkOf e → d = e
  | .int i, e, _, he, h => by
    cases e with
    | int j => simp only [nkOf, NestedKey.num.injEq] at h; rw [h]
    | str _ => simp [nkOf] at h
    | tuple _ => simp [nkOf] at h
    | _ => simp [keyD] at he
  | .str x, e, _, he, h => by
    cases e with
    | int j => simp [nkOf] at h
    | str _ => simp only [nkOf, NestedKey.text.injEq] at h; rw [h]
    | tuple _ => simp [nkOf] at h
    | _ => simp [keyD] at he
  | .tuple ds, e, hd, he, h => by
    cases e with
    | int j => simp [nkOf] at h
    | str _ => simp [nkOf] at h
    | tuple es =>
      simp only [nkOf, NestedKey.tup.injEq] at h
      rw [nksOf_inj ds es (by rw [keyD] at hd; exact hd) (by rw [keyD] at he; exact he) h]
    | _ => simp [keyD] at he
  | .none, _, hd, _, _ => by simp [keyD] at hd
  | .bool _, _, hd, _, _ => by simp [keyD] at hd
  | .list _, _, hd, _, _ => by simp [keyD] at hd
  | .dict _, _, hd, _, _ => by simp [keyD] at hd
theorem nksOf_inj : ∀ (ds es : List PyData), keyDs ds = true → keyDs es = true → nksOf ds = nksOf es → ds = es
  | [], [], _, _, _ => rfl
  | [], e :: es, _, _, h => by simp [nksOf] at h
  | d :: ds, [], _, _, h => by simp [nksOf] at h
  | d :: ds, e :: es, hd, he, h => by
    rw [keyDs, Bool.and_eq_true] at hd he
    simp only [nksOf, List.cons.injEq] at h
    rw [nkOf_inj d e hd.1 he.1 h.1, nksOf_inj ds es hd.2 he.2 h.2]
end
section
variable {X : Cx} {pins : List (Addr × Obj)} {σ : L2.St} {H : Hp} {s : Shared}
mutual
theorem Tr.nested (I : Inv X pins σ H s) : ∀ {v : V} {d : PyData} {u : Value}, Tr H v d → RelV v u → NestedIs s.heap (nkOf d) u
  | _, _, u, .int i, r => by
    obtain ⟨t, rfl⟩ := (show ∃ t, u = Value.int i t from r)
    exact .int i t
  | _, _, u, .str x, r => by
    obtain ⟨t, rfl⟩ := (show ∃ t, u = Value.str x t from r)
    exact .text x t
  | _, _, u, .tup (a := a) ha hr, r => by
    obtain rfl : u = Value.ref a := r
    obtain ⟨us, r1, t1, _⟩ := I.tuple (SqT.of ha)
    obtain ⟨ob, g1, k1, n1, w1⟩ := t1
    exact .tup g1 k1 w1 (by simpa using Trs.nested I hr r1)
theorem Trs.nested (I : Inv X pins σ H s) : ∀ {vs : List V} {ds : List PyData} {us : List Value}, Trs H vs ds → Vals vs us → NestedAll s.heap (nksOf ds) us
  | _, _, _, .nil, r => by
    cases r
    exact .nil
  | _, _, _, .cons h t, r => by
    cases r with
    | cons r1 r2 => exact .cons (Tr.nested I h r1) (Trs.nested I t r2)
end
end
theorem Tr.key {H : Hp} : ∀ {v : V} {d : PyData}, Tr H v d → keyD d = true
  | _, _, .int _ => rfl
  | _, _, .str _ => rfl
  | _, _, .tup _ r => by
    rw [keyD]
    exact all r
where
  all {H : Hp} : ∀ {vs : List V} {ds : List PyData}, Trs H vs ds → keyDs ds = true
  | _, _, .nil => rfl
  | _, _, .cons h t => by
    rw [keyDs, Tr.key h, all t]
    rfl
/-- the entries of the dict at a -/
abbrev NX := List (NestedKey × Addr × Value)
def dctN (P : Program) (w : World) (a : Addr) (xs : NX) : Heap → Prop := fun h => ∃ o es ep, h.get? a = some o ∧ o.ExactDict ∧ o.data = .dict es ep ∧ es.toList = xs.map (entryOfKey (nestedKind P w)) ∧ (xs.map (·.1)).Nodup
/-- a dict at a with the keys ks -/
structure DN {β : Type} (P : Program) (w : World) (enc : β → PyData) (H : Hp) (a : Addr) (ks : List β) (xs : NX) : Prop where
  o : H a = some (.ext (dctN P w a xs))
  ne : (a == sysModules) = false
  ka : Paired (fun (d : β) (q : NestedKey × Addr × Value) => q.1 = nkOf (enc d) ∧ Tr H (.ref q.2.1) (enc d) ∧ (nkOf (enc d)).depth ≤ 8) ks xs
  few : ks.length ≤ 100000
def Inj {β : Type} (enc : β → PyData) : Prop := ∀ k l, enc k = enc l → k = l
section
variable {β : Type} {enc : β → PyData} {P : Program} {w : World} {H H' : Hp} {a : Addr} {ks : List β} {xs : NX}
theorem DN.keep (h : DN P w enc H a ks xs) (ha : H' a = H a) (k : ∀ b zs, H b = some (.tup zs) → H' b = some (.tup zs)) : DN P w enc H' a ks xs :=
  ⟨ha.trans h.o, h.ne, Paired.mapP h.ka fun _ _ z => ⟨z.1, z.2.1.keep k, z.2.2⟩, h.few⟩
theorem DN.mono (h : DN P w enc H a ks xs) (e : Same H H') : DN P w enc H' a ks xs := h.keep ((e _ _ h.o).trans h.o.symm) fun _ _ q => e _ _ q
end
section
variable {β : Type} [DecidableEq β] {enc : β → PyData} {X : Cx} {pins : List (Addr × Obj)} {σ : L2.St} {H : Hp} {s : Shared} {a : Addr} {ks : List β} {xs : NX}
theorem DN.at (D : DN X.prog X.w enc H a ks xs) (I : Inv X pins σ H s) : s.heap.DictOfH (nestedKind X.prog X.w) a xs := by
  obtain ⟨⟨o, es, ep, h1, h2, h3, h4, h5⟩, _, _⟩ := (show ObjOk X.prog X.w H s.heap a (.ext (dctN X.prog X.w a xs)) from I.hok a _ D.o)
  refine ⟨o, es, ep, h1, h2, h3, h4, fun x hx => ?_, h5⟩
  have all : ∀ {l : List β} {m : NX}, Paired (fun (d : β) (q : NestedKey × Addr × Value) => q.1 = nkOf (enc d) ∧ Tr H (.ref q.2.1) (enc d) ∧ (nkOf (enc d)).depth ≤ 8) l m → ∀ x ∈ m, (nestedKind X.prog X.w).is s.heap x.1 x.2.1 := by
    intro l m q
    induction q with
    | nil => intro x hx; cases hx
    | @cons p q ps qs hq t ih =>
      intro x hx
      rcases List.mem_cons.mp hx with e | hx
      · subst e
        rw [hq.1]
        exact ⟨hq.2.1.nested I rfl, hq.2.2⟩
      · exact ih x hx
  exact all D.ka x hx
theorem keys_of (inj : Inj enc) {d : β} (hd : keyD (enc d) = true) : ∀ {l : List β} {m : NX}, Paired (fun (d : β) (q : NestedKey × Addr × Value) => q.1 = nkOf (enc d) ∧ Tr H (.ref q.2.1) (enc d) ∧ (nkOf (enc d)).depth ≤ 8) l m → (atKey m (nkOf (enc d))).isSome = decide (d ∈ l) := by
  intro l m q
  induction q with
  | nil => simp [atKey]
  | @cons p q ps qs hq t ih =>
    by_cases c : p = d
    · subst c
      rw [decide_eq_true (List.mem_cons_self ..)]
      simp [atKey, hq.1]
    · have n1 : ¬ q.1 = nkOf (enc d) := fun e => c (inj _ _ (nkOf_inj _ _ hq.2.1.key hd (hq.1.symm.trans e)))
      have e1 : atKey (q :: qs) (nkOf (enc d)) = atKey qs (nkOf (enc d)) := by simp [atKey, n1]
      rw [e1, ih]
      exact decide_eq_decide.mpr ⟨fun h => List.mem_cons_of_mem _ h, fun h => (List.mem_cons.mp h).resolve_left fun e => c e.symm⟩
end
theorem ext_ok {P : Program} {w : World} {H : Hp} {h : Heap} {a : Addr} {xs : NX} (x : dctN P w a xs h) : ObjOk P w H h a (.ext (dctN P w a xs)) := by
  refine ⟨x, ?_, fun h1 h2 p k => ?_⟩
  · obtain ⟨o, _, _, e, _⟩ := x
    exact ⟨o, e⟩
  · obtain ⟨o, es, ep, e, r⟩ := p
    exact ⟨o, es, ep, k _ e, r⟩
def tDNewN (P : Program) (w : World) : TE := fun _ H Q => ∀ (p : Addr) (H' : Hp), H p = none → Same H H' → H' p = some (.ext (dctN P w p [])) → (p == sysModules) = false → Q (.ref p) H'
theorem pe_dnewN {X : Cx} {pos : Pos} : PE X (.Dict [] [] pos) (tDNewN X.prog X.w) := ⟨fun pins s σ H Q I h =>
  wpAny_Dict_empty ⟨.ref s.heap.objs.size, _, I.laid (a := s.heap.objs.size) (o := .ext (dctN X.prog X.w s.heap.objs.size [])) (t' := s.toks) (fun _ _ q => Heap.get?_push_of_some _ q) (Nat.le_refl _) (ext_ok ⟨_, #[], 0, Heap.get?_push_size _ rfl, ⟨rfl, rfl, rfl⟩, rfl, rfl, List.nodup_nil⟩), rfl,
    h _ _ (I.hok.fresh (Nat.le_refl _)) (same_upd (I.hok.fresh (Nat.le_refl _))) upd_same (beq_eq_false_iff_ne.mpr (Ne.symm (Nat.ne_of_lt I.big)))⟩⟩
theorem dn_new {β : Type} {enc : β → PyData} {P : Program} {w : World} {H : Hp} {p : Addr} (e : H p = some (.ext (dctN P w p []))) (ne : (p == sysModules) = false) : DN P w enc H p [] [] := ⟨e, ne, .nil, Nat.zero_le _⟩
section
variable {β : Type} [DecidableEq β]
/-- y in d -/
def tDInN (P : Program) (w : World) (enc : β → PyData) (ty td : TE) : TE := fun σ H Q => ty σ H fun y H1 => td σ H1 fun x H2 => ∃ (a b : Addr) (d : β) (ks : List β) (xs : NX), x = .ref a ∧ y = .ref b ∧ DN P w enc H2 a ks xs ∧ Tr H2 (.ref b) (enc d) ∧ (nkOf (enc d)).depth ≤ 8 ∧ Q (.bl (decide (d ∈ ks))) H2
def addK (ks : List β) (d : β) : List β := if d ∈ ks then ks else ks ++ [d]
/-- d[y] = any value -/
def sDPutN (P : Program) (w : World) (enc : β → PyData) (td ty tv : TE) : TS := fun D σ H => tv σ H fun v H1 => td σ H1 fun x H2 => ty σ H2 fun y H3 => ∃ (a b : Addr) (d : β) (ks : List β) (xs : NX), x = .ref a ∧ y = .ref b ∧ DN P w enc H3 a ks xs ∧ Tr H3 (.ref b) (enc d) ∧ (nkOf (enc d)).depth ≤ 8 ∧ ks.length < 100000 ∧
  ∀ (xs' : NX) (H' : Hp), (∀ b, b ≠ a → H' b = H3 b) → DN P w enc H' a (addK ks d) xs' → D.nx σ H'
variable {X : Cx} {o i value : Expr} {pos pos' : Pos} {td ty tv : TE} {enc : β → PyData}
theorem room_nk (hu : X.A.units + 10 < cLine) : (nestedKind X.prog X.w).room X.A.in1 := by
  show X.A.units + 1 + 8 < cLine
  omega
theorem pc_dinN (inj : Inj enc) (hu : X.A.units + 10 < cLine) (hi : PE X i ty) (ho : PE X o td) : PC X .In i o (tDInN X.prog X.w enc ty td) := by
  refine ⟨fun pins s σ H Q I h => ?_⟩
  refine thn (hi.run pins s σ H _ I h) fun iv s1 ⟨y, H1, I1, ry, q1⟩ => thn (ho.run pins s1 σ H1 _ I1 q1) fun u s2 ⟨x, H2, I2, rx, a, b, d, ks, xs, ex, ey, D, hd, dp, q2⟩ => ?_
  subst ex ey
  obtain rfl : u = Value.ref a := rx
  obtain rfl : iv = Value.ref b := ry
  refine wpAny_in_heap (room_nk hu) ⟨hd.nested I2 rfl, dp⟩ D.ne (D.at I2) ?_
  rw [keys_of inj hd.key D.ka]
  exact ⟨.bl (decide (d ∈ ks)), H2, I2.tok _, rfl, q2⟩
theorem ps_dputN (inj : Inj enc) (hu : X.A.units + 10 < cLine) (ho : PE X o td) (hi : PE X i ty) (hv : PE X value tv) (hs : swapsWith value (some (.Subscript o i pos')) pos.line X.env = pure false) :
    PS X (.Assign [.Subscript o i pos'] value pos) (sDPutN X.prog X.w enc td ty tv) := by
  refine ⟨fun pins s σ H D I h => ?_⟩
  refine wpAny_Assign_Subscript (thn (hv.run pins s σ H _ I h) fun r s1 ⟨v, H1, I1, rv, q1⟩ => thn (ho.run pins s1 σ H1 _ I1 q1) fun u s2 ⟨x, H2, I2, rx, q2⟩ => thn (hi.run pins s2 σ H2 _ I2 q2) fun iv s3 ⟨y, H3, I3, ry, a, b, d, ks, xs, ex, ey, DD, hd, dp, few, q3⟩ => ?_) hs
  subst ex ey
  obtain rfl : u = Value.ref a := rx
  obtain rfl : iv = Value.ref b := ry
  have l1 : ks.length = xs.length := Paired.length DD.ka
  have l2 := DD.few
  refine wpAny_setItem_heap (hsz := by rw [sizeLine_eq]; omega) (room_nk hu) ⟨hd.nested I3 rfl, dp⟩ (DD.at I3) fun h' dd' hs' => ?_
  obtain ⟨ob, es, ep, hq, h2, h3, h4, _, h5⟩ := dd'
  have I4 := d_write (t' := s3.toks + (nestedKind X.prog X.w).draws (nkOf (enc d))) I3 (ob := .ext (dctN X.prog X.w a (storedH xs (nkOf (enc d)) b r))) (by rw [DD.o]; exact True.intro) hs' ⟨ob, hq⟩ (ext_ok ⟨ob, es, ep, hq, h2, h3, h4, h5⟩)
  refine ⟨σ, _, I4, q3 (storedH xs (nkOf (enc d)) b r) _ (fun b n => upd_ne n) ?_⟩
  have nt : ∀ c zs, H3 c = some (.tup zs) → (upd H3 a (.ext (dctN X.prog X.w a (storedH xs (nkOf (enc d)) b r)))) c = some (.tup zs) := fun c zs e => by
    rw [upd_ne (ne_of e DD.o (fun z => nomatch z))]
    exact e
  refine ⟨upd_same, DD.ne, ?_, ?_⟩
  · generalize (upd H3 a (.ext (dctN X.prog X.w a (storedH xs (nkOf (enc d)) b r)))) = H4 at nt
    have ka : Paired (fun (d : β) (q : NestedKey × Addr × Value) => q.1 = nkOf (enc d) ∧ Tr H4 (.ref q.2.1) (enc d) ∧ (nkOf (enc d)).depth ≤ 8) ks xs := Paired.mapP DD.ka fun _ _ z => ⟨z.1, z.2.1.keep nt, z.2.2⟩
    have hd4 := hd.keep nt
    have mp : ∀ {l : List β} {m : NX}, Paired (fun (d : β) (q : NestedKey × Addr × Value) => q.1 = nkOf (enc d) ∧ Tr H4 (.ref q.2.1) (enc d) ∧ (nkOf (enc d)).depth ≤ 8) l m → Paired (fun (d : β) (q : NestedKey × Addr × Value) => q.1 = nkOf (enc d) ∧ Tr H4 (.ref q.2.1) (enc d) ∧ (nkOf (enc d)).depth ≤ 8) l (m.map (putAt (nkOf (enc d)) r)) := by
      intro l m q
      induction q with
      | nil => exact .nil
      | @cons p q ps qs hq t ih =>
        refine .cons ?_ ih
        unfold putAt
        split
        · exact hq
        · exact hq
    have ap : ∀ {l : List β} {m : NX}, Paired (fun (d : β) (q : NestedKey × Addr × Value) => q.1 = nkOf (enc d) ∧ Tr H4 (.ref q.2.1) (enc d) ∧ (nkOf (enc d)).depth ≤ 8) l m → Paired (fun (d : β) (q : NestedKey × Addr × Value) => q.1 = nkOf (enc d) ∧ Tr H4 (.ref q.2.1) (enc d) ∧ (nkOf (enc d)).depth ≤ 8) (l ++ [d]) (m ++ [(nkOf (enc d), b, r)]) := by
      intro l m q
      induction q with
      | nil => exact .cons ⟨rfl, hd4, dp⟩ .nil
      | cons hq t ih => exact .cons hq ih
    have e := keys_of (H := H4) inj hd4.key ka
    unfold storedH addK
    by_cases c : d ∈ ks
    · rw [decide_eq_true c] at e
      rw [if_pos c, if_pos e]
      exact mp ka
    · rw [decide_eq_false c] at e
      rw [if_neg c, if_neg (by rw [e]; exact Bool.false_ne_true)]
      exact ap ka
  · unfold addK
    split
    · exact l2
    · rw [List.length_append]
      exact few
end
end K5
namespace K5
open PySem PySem.Spec PyProof.Rows L2
/-! ### sorted(d) of a dict whose keys are nested tuples -/
theorem vals_refs : ∀ ts : List Addr, Vals (ts.map V.ref) (ts.map Value.ref)
  | [] => .nil
  | t :: r => .cons rfl (vals_refs r)
def RawD (h : Heap) (d : Addr) (es : Array DictEntry) (ep : Nat) : Prop := ∃ o, h.get? d = some o ∧ o.ExactDict ∧ o.data = .dict es ep
section
variable {prog : Program} {w : World} {A : Around} {d : Addr} {es : Array DictEntry} {ep : Nat}
theorem RawD.at_ {h h' : Heap} (x : RawD h d es ep) (k : ∀ o, h.get? d = some o → h'.get? d = some o) : RawD h' d es ep := let ⟨o, ho, r⟩ := x; ⟨o, k o ho, r⟩
theorem walks_raw (hh : A.handled = none) (I : Addr) (ne : d ≠ I) : Walks prog w A I [I, d] [I] es.size (fun i v => ∃ en, es[i]? = some en ∧ v = en.key) (fun i h => h.IsKeyIter I d i es.size ep ∧ RawD h d es ep) where
  sub := fun b hb => by simp at hb; simp [hb]
  frame := fun _ _ _ st hk => ⟨st.1.at fun o e => hk I (by simp) o e, st.2.at_ fun o e => hk d (by simp) o e⟩
  item := fun i s Q E hi st hQ => by
    obtain ⟨it, o, ho, hc, hd⟩ := st
    refine next_key_item it ho hd rfl (Array.getElem?_eq_getElem hi) fun h' it' sb => ?_
    exact hQ _ h' s.toks ⟨_, Array.getElem?_eq_getElem hi, rfl⟩ ⟨it', o, sb.extBut d o ne ho, hc, hd⟩ fun b o hb e => sb.extBut b o (fun h => hb (by simp [h])) e
  done := fun s Q E st hQ => by
    obtain ⟨it, o, ho, hc, hd⟩ := st
    exact next_key_end hh it ho hd rfl (Nat.le_refl _) fun h' he' => hQ h' s.toks fun b o hb e => he' b o (fun h => hb (by simp [h])) e
  self := fun _ _ _ _ st hQ => wpAny_pyIter_keyiter st.1 hQ
theorem kdl_raw (lo : (d == sysModules) = false) : PySem.W.KdlSrc prog w "dict" d d es.size (fun i v => ∃ en, es[i]? = some en ∧ v = en.key) (fun h => RawD h d es ep) where
  type := fun _ ⟨o, ho, hc, _⟩ => ⟨o, ho, hc.1⟩
  there := fun _ ⟨o, ho, _⟩ => ⟨Heap.lt_size ho, Heap.lt_size ho⟩
  keep := fun _ _ hm hk => hm.at_ fun o e => hk d (.inl rfl) o e
  notList := by decide
  notTuple := by decide
  hint := fun _ _ _ _ ⟨o, ho, hc, _⟩ hq => PySem.W.kdl_hint_dict ⟨o, ho, hc.1⟩ hq
  iter := fun _ s hh hm => by
    obtain ⟨o, ho, hc, hd⟩ := hm
    exact ⟨_, _, (fun _ _ hq => iter_keys lo ho hc hd hq), walks_raw hh _ (Nat.ne_of_lt (Heap.lt_size ho)), ⟨⟨_, Heap.get?_push_size _ rfl, rfl, rfl⟩, o, Heap.get?_push_of_some _ ho, hc, hd⟩⟩
end
section
variable {β : Type} {enc : β → PyData}
def sortB (enc : β → PyData) (ks : List β) : List β := ks.mergeSort (PySem.W.dataLe false enc)
theorem bsN_of {H : Hp} : ∀ {ks : List β} {xs : NX}, Paired (fun (d : β) (q : NestedKey × Addr × Value) => q.1 = nkOf (enc d) ∧ Tr H (.ref q.2.1) (enc d) ∧ (nkOf (enc d)).depth ≤ 8) ks xs →
    ∃ bs : List (β × Addr), bs.map (·.1) = ks ∧ bs.map (·.2) = xs.map (·.2.1) ∧ ∀ b ∈ bs, Tr H (.ref b.2) (enc b.1)
  | _, _, .nil => ⟨[], rfl, rfl, fun b h => nomatch h⟩
  | k :: ks, x :: xs, .cons h t => by
    obtain ⟨bs, c1, c2, c3⟩ := bsN_of t
    refine ⟨(k, x.2.1) :: bs, by rw [List.map_cons, c1], by rw [List.map_cons, List.map_cons, c2], fun b hb => ?_⟩
    rcases List.mem_cons.mp hb with c | c
    · rw [c]
      exact h.2.1
    · exact c3 b c
theorem eachN_refs {H : Hp} : ∀ bs : List (β × Addr), (∀ b ∈ bs, Tr H (.ref b.2) (enc b.1)) → PySem.W.EachIs (fun v (b : β × Addr) => v = Value.ref b.2 ∧ Tr H (.ref b.2) (enc b.1)) (bs.map fun b => Value.ref b.2) bs
  | [], _ => .nil
  | b :: r, h => .cons ⟨rfl, h b (List.mem_cons_self ..)⟩ (eachN_refs r fun c hc => h c (List.mem_cons_of_mem _ hc))
theorem eachN_ts {H : Hp} : ∀ {out : List Value} {cs : List (β × Addr)}, PySem.W.EachIs (fun v (b : β × Addr) => v = Value.ref b.2 ∧ Tr H (.ref b.2) (enc b.1)) out cs →
    ∃ ts : List Addr, out = ts.map Value.ref ∧ Trs H (ts.map V.ref) ((cs.map (·.1)).map enc)
  | _, _, .nil => ⟨[], rfl, .nil⟩
  | _, _, .cons (b := b) h t => by
    obtain ⟨ts, rfl, pr⟩ := eachN_ts t
    exact ⟨b.2 :: ts, by rw [h.1]; rfl, .cons h.2 pr⟩
end
section
variable {X : Cx} {pins : List (Addr × Obj)} {σ : L2.St} {H : Hp} {s : Shared} {h2 : Heap}
mutual
theorem Tr.readsIn (I : Inv X pins σ H s) (k : ∀ b o, s.heap.get? b = some o → h2.get? b = some o) : ∀ {v : V} {d : PyData} {u : Value}, Tr H v d → RelV v u → Reads h2 u d []
  | _, _, u, .int i, r => by
    obtain ⟨t, rfl⟩ := (show ∃ t, u = Value.int i t from r)
    exact .int i t
  | _, _, u, .str x, r => by
    obtain ⟨t, rfl⟩ := (show ∃ t, u = Value.str x t from r)
    exact .str x t
  | _, _, u, .tup (a := a) ha hr, r => by
    obtain rfl : u = Value.ref a := r
    obtain ⟨us, r1, t1, _⟩ := I.tuple (SqT.of ha)
    obtain ⟨ob, g1, k1, n1, w1⟩ := t1
    exact .tuple (k _ _ g1) k1 w1 (by simpa using Trs.readsIn I k hr r1)
theorem Trs.readsIn (I : Inv X pins σ H s) (k : ∀ b o, s.heap.get? b = some o → h2.get? b = some o) : ∀ {vs : List V} {ds : List PyData} {us : List Value}, Trs H vs ds → Vals vs us → ReadsAll h2 us ds []
  | _, _, _, .nil, r => by
    cases r
    exact .nil
  | _, _, _, .cons h t, r => by
    cases r with
    | cons r1 r2 => exact .cons (Tr.readsIn I k h r1) (Trs.readsIn I k t r2)
end
def rSortN (P : Program) (w : World) {β : Type} (enc : β → PyData) : List V → Hp → VK → Prop := fun xs H Q => ∃ (a : Addr) (ks : List β) (ns : NX), xs = [.ref a] ∧ DN P w enc H a ks ns ∧ PySem.W.AllAlike (ks.map enc) ∧ (∀ b, ∃ x r, enc b = .tuple (x :: r)) ∧ (∀ b ∈ ks, (enc b).depth ≤ 8) ∧
    ∀ (ts : List Addr) (p : Addr), Trs H (ts.map V.ref) ((sortB enc ks).map enc) → H p = none → Q (.ref p) (upd H p (.lst (ts.map V.ref)))
theorem call_sortedN {β : Type} [DecidableEq β] {enc : β → PyData} (hcalm : X.calm = true) (hu : X.A.units + 64 < cLine) : CallR X (.builtin "sorted") (rSortN X.prog X.w enc) := by
  intro pins s σ H xs us Q I r q
  obtain ⟨a, ks, ns, ex, D, hal0, tup, dep, q⟩ := q
  subst ex
  obtain ⟨u, eu, rx⟩ := vals1 r
  subst eu
  cases rx
  obtain ⟨o, es, ep, ho, hc, hdt, he, _, nd⟩ := D.at I
  have l1 : es.size = ns.length := size_of_entries he
  have l2 : ks.length = ns.length := Paired.length D.ka
  have few := D.few
  have h16 : es.size ≤ sizeLine := by rw [sizeLine_eq]; omega
  refine Calls.call_function_entry PyProof.Rows.kind_sorted PyProof.Rows.plain_sorted PyProof.Rows.entry_sorted (PyProof.Rows.args_sorted1 _) ?_
  unfold Builtin.«sorted»
  refine wpAny_bind (m := checkCount "sorted" 1 1 _) (wpAny_pure ?_)
  refine wpAny_bind (PySem.W.kdu_collect (A := X.A.in1) (kdl_raw (es := es) (ep := ep) D.ne) (I.ok.hd hcalm) ⟨o, ho, hc, hdt⟩ h16 fun h' tk acc hk hacc => ?_)
  have hal : acc.toList.length = ks.length := by rw [Array.length_toList, hacc.1]; omega
  have I1 : Inv X pins σ H { s with heap := h', toks := tk } := I.kept hk
  refine wpAny_bind (wpAny_newList ?_ (by rw [hal, sizeLine_eq]; omega))
  have hoL : (h'.push (seqObj "list" acc.toList.toArray 0)).get? h'.objs.size = some (seqObj "list" acc.toList.toArray 0) := Heap.get?_push_size _ rfl
  show wpAny _ _ _ _ _ { s with heap := h'.push (seqObj "list" acc.toList.toArray 0), toks := tk }
  obtain ⟨bs, b1, b2, b3⟩ := bsN_of D.ka
  have ea : acc.toList = bs.map fun b => Value.ref b.2 := by
    have e0 : (bs.map fun b => Value.ref b.2) = ns.map fun x => Value.ref x.2.1 := by
      have e1 := congrArg (List.map Value.ref) b2
      rw [List.map_map, List.map_map] at e1
      exact e1
    rw [e0]
    apply List.ext_getElem?
    intro j
    rw [List.getElem?_map]
    cases hj : acc.toList[j]? with
    | none =>
      have h1 := List.getElem?_eq_none_iff.mp hj
      rw [List.getElem?_eq_none (by omega)]
      all_goals rfl
    | some v =>
      obtain ⟨en, hen, hv⟩ := hacc.2 j v (by rw [← Array.getElem?_toList]; exact hj)
      have qe := entry_at he j
      rw [hen] at qe
      cases hb : ns[j]? with
      | none =>
        rw [hb] at qe
        exact nomatch (show some en = none from qe)
      | some b =>
        rw [hb] at qe
        have e2 : en = entryOfKey (nestedKind X.prog X.w) b := Option.some.inj qe
        rw [hv, e2]
        all_goals rfl
  have lb : bs.length = ks.length := by rw [← b1, List.length_map]
  have each : PySem.W.EachIs (fun v (b : β × Addr) => v = .ref b.2 ∧ Tr H (.ref b.2) (enc b.1)) acc.toList bs := by
    rw [ea]
    exact eachN_refs bs b3
  have rd : PySem.W.EachIs (fun v (b : β × Addr) => ∃ as, Reads (h'.push (seqObj "list" acc.toList.toArray 0)) v (enc b.1) as ∧ h'.objs.size ∉ as) acc.toList bs := by
    refine each.mono fun v b ⟨e1, e2⟩ => ?_
    exact ⟨[], Tr.readsIn I1 (fun c o e => Heap.get?_push_of_some _ e) e2 (show RelV (.ref b.2) v from e1), by simp⟩
  refine wpAny_bind (wpAny_holding (PySem.W.list_sort_data (enc := fun b : β × Addr => enc b.1) (s := { s with heap := h'.push (seqObj "list" acc.toList.toArray 0), toks := tk }) hoL each rd ?_ (PySem.W.Sortable.tuples fun b => tup b.1) (by rw [lb, sizeLine_eq]; omega) (fun b hb => ?_) fun out lo2 eo => ?_))
  · have e : (bs.map fun b : β × Addr => enc b.1) = ks.map enc := by rw [← b1, List.map_map]; rfl
    rw [e]
    exact hal0
  · show X.A.units + 1 + 1 + (enc b.1).depth < cLine
    have : (enc b.1).depth ≤ 8 := dep _ (by rw [← b1]; exact List.mem_map.mpr ⟨b, hb, rfl⟩)
    omega
  · obtain ⟨e', he'⟩ := PyProof.Rows.sortedHeap_at (vs := acc.toList) (out := out.toArray) hoL
    have em : (bs.mergeSort (PySem.W.dataLe false fun b : β × Addr => enc b.1)).map (·.1) = sortB enc ks := by
      rw [← b1]
      exact List.map_mergeSort fun _ _ _ _ => rfl
    generalize (bs.mergeSort (PySem.W.dataLe false fun b : β × Addr => enc b.1)) = cs at eo em
    obtain ⟨ts, rfl, pts⟩ := eachN_ts eo
    rw [em] at pts
    have hlen : (ts.map V.ref).length ≤ sizeLine := by
      have := Trs.len pts
      have e3 : (sortB enc ks).length = ks.length := List.length_mergeSort ..
      rw [List.length_map, List.length_map, e3] at this
      rw [List.length_map, sizeLine_eq]
      omega
    refine wpAny_pure ⟨_, rfl, .ref h'.objs.size, upd H h'.objs.size (.lst (ts.map V.ref)), I1.laid (t' := tk) (fun b u e => ?_) (Nat.le_refl _)
      (show ObjOk X.prog X.w _ _ _ (.lst (ts.map V.ref)) from ⟨hlen, ts.map Value.ref, e', vals_refs ts, he'⟩), rfl, q ts _ pts (I1.hok.fresh (Nat.le_refl _))⟩
    have hb : b < h'.objs.size := Heap.lt_size e
    rw [PyProof.Rows.sortedHeap_old (Nat.ne_of_lt hb) (by rw [size_push']; exact Nat.lt_succ_of_lt hb)]
    exact Heap.get?_push_of_some _ e
end
end K5
namespace K5
open PySem PySem.Spec PyProof.Rows L2
/-! ### values of any kind, as data -/
mutual
inductive Dq (H : Hp) : V → PyData → Prop
  | non : Dq H .non .none
  | bl (b : Bool) : Dq H (.bl b) (.bool b)
  | int (i : Int) : Dq H (.int i) (.int i)
  | str (x : Str) : Dq H (.str x) (.str x)
  | lst {a : Addr} {xs : List V} {ds : List PyData} : H a = some (.lst xs) → a ≠ sysModules → DqA H xs ds → Dq H (.ref a) (.list ds)
  | tup {a : Addr} {xs : List V} {ds : List PyData} : H a = some (.tup xs) → DqA H xs ds → Dq H (.ref a) (.tuple ds)
  | dic {a : Addr} : H a = some (.dK []) → Dq H (.ref a) (.dict [])
  | di1 {a : Addr} {z : Str} {v : V} {d : PyData} : H a = some (.dK [(.inr z, v)]) → Dq H v d → Dq H (.ref a) (.dict [(.str z, d)])
inductive DqA (H : Hp) : List V → List PyData → Prop
  | nil : DqA H [] []
  | cons {v : V} {vs : List V} {d : PyData} {ds : List PyData} : Dq H v d → DqA H vs ds → DqA H (v :: vs) (d :: ds)
end
mutual
theorem Dq.mono {H H' : Hp} (e : Same H H') : ∀ {v : V} {d : PyData}, Dq H v d → Dq H' v d
  | _, _, .non => .non
  | _, _, .bl b => .bl b
  | _, _, .int i => .int i
  | _, _, .str x => .str x
  | _, _, .lst h n a => .lst (e _ _ h) n (DqA.mono e a)
  | _, _, .tup h a => .tup (e _ _ h) (DqA.mono e a)
  | _, _, .dic h => .dic (e _ _ h)
  | _, _, .di1 h a => .di1 (e _ _ h) (Dq.mono e a)
theorem DqA.mono {H H' : Hp} (e : Same H H') : ∀ {vs : List V} {ds : List PyData}, DqA H vs ds → DqA H' vs ds
  | _, _, .nil => .nil
  | _, _, .cons a b => .cons (Dq.mono e a) (DqA.mono e b)
end
mutual
theorem Tr.dq {H : Hp} : ∀ {v : V} {d : PyData}, Tr H v d → Dq H v d
  | _, _, .int i => .int i
  | _, _, .str x => .str x
  | _, _, .tup h r => .tup h (Trs.dq r)
theorem Trs.dq {H : Hp} : ∀ {vs : List V} {ds : List PyData}, Trs H vs ds → DqA H vs ds
  | _, _, .nil => .nil
  | _, _, .cons h r => .cons (Tr.dq h) (Trs.dq r)
end
theorem Dq.kd {H : Hp} {v : V} {d : PyData} (h : Dq H v d) : ∃ T, Kd H v T := by
  cases h with
  | non => exact ⟨_, .non⟩
  | bl b => exact ⟨_, .bl b⟩
  | int i => exact ⟨_, .int i⟩
  | str x => exact ⟨_, .str x⟩
  | lst h n a => exact ⟨_, .lst h⟩
  | tup h a => exact ⟨_, .tup h⟩
  | dic h => exact ⟨_, .dK h⟩
  | di1 h a => exact ⟨_, .dK h⟩
theorem DqA.len {H : Hp} : ∀ {vs : List V} {ds : List PyData}, DqA H vs ds → vs.length = ds.length
  | _, _, .nil => rfl
  | _, _, .cons a b => by rw [List.length_cons, List.length_cons, DqA.len b]
theorem DqA.at_ {H : Hp} : ∀ {vs : List V} {ds : List PyData} (i : Nat) {d : PyData}, DqA H vs ds → ds[i]? = some d → ∃ v, vs[i]? = some v ∧ Dq H v d
  | _, _, i, d, .nil, h => by cases h
  | _, _, 0, d, .cons a b, h => by
    have h := Option.some.inj h
    rw [← h]
    exact ⟨_, rfl, a⟩
  | _, _, i + 1, d, .cons a b, h => DqA.at_ i b h
theorem DqA.atV {H : Hp} : ∀ {vs : List V} {ds : List PyData} (i : Nat) {v : V}, DqA H vs ds → vs[i]? = some v → ∃ d, ds[i]? = some d ∧ Dq H v d
  | _, _, i, d, .nil, h => by cases h
  | _, _, 0, d, .cons a b, h => by
    have h := Option.some.inj h
    rw [← h]
    exact ⟨_, rfl, a⟩
  | _, _, i + 1, d, .cons a b, h => DqA.atV i b h
theorem DqA.app {H : Hp} : ∀ {vs us : List V} {ds es : List PyData}, DqA H vs ds → DqA H us es → DqA H (vs ++ us) (ds ++ es)
  | _, _, _, _, .nil, q => q
  | _, _, _, _, .cons h r, q => .cons h (r.app q)
theorem DqA.drop {H : Hp} : ∀ {xs : List V} {ds : List PyData} (k : Nat), DqA H xs ds → DqA H (xs.drop k) (ds.drop k)
  | _, _, 0, h => h
  | _, _, k + 1, .nil => .nil
  | _, _, k + 1, .cons a b => DqA.drop k b
theorem DqA.take {H : Hp} : ∀ {xs : List V} {ds : List PyData} (k : Nat), DqA H xs ds → DqA H (xs.take k) (ds.take k)
  | _, _, 0, h => .nil
  | _, _, k + 1, .nil => .nil
  | _, _, k + 1, .cons a b => .cons a (DqA.take k b)
theorem DqA.rev {H : Hp} {xs : List V} {ds : List PyData} (h : DqA H xs ds) : DqA H xs.reverse ds.reverse := by
  induction ds generalizing xs with
  | nil =>
    cases h
    exact .nil
  | cons d ds ih =>
    cases h with
    | cons a b =>
      rw [List.reverse_cons, List.reverse_cons]
      exact DqA.app (ih b) (.cons a .nil)
section
variable {X : Cx} {pins : List (Addr × Obj)} {σ : L2.St} {H : Hp} {s : Shared}
theorem strk {P : Program} {w : World} {y : Str} {u : Value} (h : (mixKind P w).is (.inr y) u = true) : ∃ t, u = .str y t := by
  have h2 : u.isStrOf y = true := h
  cases u with
  | str x t =>
    refine ⟨t, ?_⟩
    have e : x = y := by simpa [Value.isStrOf] using h2
    rw [e]
  | _ => exact absurd h2 (by simp [Value.isStrOf])
theorem rd_d0 {a : Addr} (I : Inv X pins σ H s) (h : H a = some (.dK [])) : ∃ as, Reads s.heap (.ref a) (.dict []) as ∧ sysModules ∉ as := by
  obtain ⟨_, nm, vs, rel, dd⟩ := dk_of I.hok h
  cases rel
  obtain ⟨o, es, ep, ho, hc, hd, _, ps, _⟩ := dd
  have e0 : es.toList = [] := by
    revert ps
    generalize es.toList = l
    intro ps
    cases ps
    rfl
  have r1 : ReadsAll s.heap (es.toList.map (·.key)) (([] : List (PyData × PyData)).map (·.1)) [] := by
    rw [e0]
    exact .nil
  have r2 : ReadsAll s.heap (es.toList.map (·.val)) (([] : List (PyData × PyData)).map (·.2)) [] := by
    rw [e0]
    exact .nil
  refine ⟨_, Reads.dict ho hc.1 hd r1 r2, fun q => ?_⟩
  have : sysModules = a := by simpa using q
  rw [this] at nm
  simp at nm
theorem rd_d1 {a : Addr} {y : Str} {v : V} {d : PyData} (I : Inv X pins σ H s) (h : H a = some (.dK [(.inr y, v)])) (hv : ∀ u, RelV v u → ∃ as, Reads s.heap u d as ∧ sysModules ∉ as) : ∃ as, Reads s.heap (.ref a) (.dict [(.str y, d)]) as ∧ sysModules ∉ as := by
  obtain ⟨_, nm, vs, rel, dd⟩ := dk_of I.hok h
  obtain ⟨kv, e1, rel2⟩ : ∃ q, vs = [q] ∧ q.1 = (.inr y : Key) ∧ RelV v q.2 := by
    cases rel with
    | cons r1 r2 =>
      cases r2
      exact ⟨_, rfl, r1.1.symm, r1.2⟩
  subst e1
  obtain ⟨o, es, ep, ho, hc, hd, _, ps, _⟩ := dd
  obtain ⟨e, e0, k1, v1⟩ : ∃ e, es.toList = [e] ∧ (mixKind X.prog X.w).is kv.1 e.key = true ∧ e.val = kv.2 := by
    revert ps
    generalize es.toList = l
    intro ps
    cases ps with
    | cons h1 h2 h3 =>
      cases h3
      exact ⟨_, rfl, h1, h2⟩
  rw [rel2.1] at k1
  obtain ⟨t, ht⟩ := strk k1
  obtain ⟨as, ra, na⟩ := hv _ rel2.2
  have r1 : ReadsAll s.heap (es.toList.map (·.key)) (([(PyData.str y, d)] : List (PyData × PyData)).map (·.1)) [] := by
    rw [e0]
    show ReadsAll s.heap [e.key] [.str y] ([] ++ [])
    rw [ht]
    exact .cons (.str y t) .nil
  have r2 : ReadsAll s.heap (es.toList.map (·.val)) (([(PyData.str y, d)] : List (PyData × PyData)).map (·.2)) (as ++ []) := by
    rw [e0]
    show ReadsAll s.heap [e.val] [d] (as ++ [])
    rw [v1]
    exact .cons ra .nil
  refine ⟨_, Reads.dict ho hc.1 hd r1 r2, fun q => ?_⟩
  have : sysModules = a ∨ sysModules ∈ as := by simpa using q
  rcases this with e | e
  · rw [e] at nm
    simp at nm
  · exact na e
mutual
theorem Dq.reads (I : Inv X pins σ H s) : ∀ {v : V} {d : PyData}, Dq H v d → ∀ (u : Value), RelV v u → ∃ as, Reads s.heap u d as ∧ sysModules ∉ as
  | _, _, .non, _, r => by
    cases r
    exact ⟨_, Reads.none, by simp⟩
  | _, _, .bl b, _, r => by
    cases r
    exact ⟨_, Reads.bool b, by simp⟩
  | _, _, .int i, _, r => by
    obtain ⟨t, rfl⟩ := r
    exact ⟨_, Reads.int i t, by simp⟩
  | _, _, .str x, _, r => by
    obtain ⟨t, rfl⟩ := r
    exact ⟨_, Reads.str x t, by simp⟩
  | _, _, .lst (a := a) hs n ha, _, r => by
    cases r
    obtain ⟨its, rv, ⟨o, m, ho, hc, _, hd⟩, _⟩ := I.list (SqL.of (K := X.K) hs)
    obtain ⟨as, hr, hm⟩ := Dq.readsAll I ha its rv
    refine ⟨_, Reads.list ho hc hd hr, fun e => ?_⟩
    rcases List.mem_cons.mp e with e | e
    · exact n e.symm
    · exact hm e
  | _, _, .tup hs ha, _, r => by
    cases r
    obtain ⟨its, rv, ⟨o, ho, hc, n, hd⟩, _⟩ := I.tuple (SqT.of (K := X.K) hs)
    obtain ⟨as, hr, hm⟩ := Dq.readsAll I ha its rv
    exact ⟨_, Reads.tuple ho hc hd hr, hm⟩
  | _, _, .dic h, _, r => by
    cases r
    exact rd_d0 I h
  | _, _, .di1 h a, _, r => by
    cases r
    exact rd_d1 I h fun u ru => Dq.reads I a u ru
theorem Dq.readsAll (I : Inv X pins σ H s) : ∀ {vs : List V} {ds : List PyData}, DqA H vs ds → ∀ (us : List Value), Vals vs us → ∃ as, ReadsAll s.heap us ds as ∧ sysModules ∉ as
  | _, _, .nil, _, r => by
    cases r
    exact ⟨_, ReadsAll.nil, by simp⟩
  | _, _, .cons h1 h2, _, r => by
    cases r with
    | cons r1 r2 =>
      obtain ⟨as, q1, m1⟩ := Dq.reads I h1 _ r1
      obtain ⟨bs, q2, m2⟩ := Dq.readsAll I h2 _ r2
      exact ⟨_, ReadsAll.cons q1 q2, fun m => (List.mem_append.mp m).elim m1 m2⟩
end
end
/-! ### repr of any value -/
structure ShQ (d : PyData) : Prop where
  s : d.showable = true
  z : d.shown.length ≤ sizeLine
  d : d.depth ≤ 50
def rReprQ : List V → Hp → VK → Prop := fun xs H Q => ∃ (x : V) (d : PyData), xs = [x] ∧ Dq H x d ∧ ShQ d ∧ Q (.str d.shown) H
section
variable {X : Cx}
theorem call_reprQ (gu : X.A.guards = some []) (hu : X.A.units + 64 < cLine) : CallR X (.builtin "repr") rReprQ := by
  intro pins s σ H xs us Q I r h
  obtain ⟨x, d, rfl, hd, sh, q⟩ := h
  obtain ⟨u, rfl, ru⟩ := r.one
  have sz := sh.z
  have go : ∀ a : Addr, x = .ref a → wpAny (model X.prog X.w) X.A (call (.builtin "repr") [u]) (EP X pins σ Q) X.xe s := fun a e => by
    subst e
    cases ru
    obtain ⟨as, rd, hm⟩ := Dq.reads I hd _ rfl
    exact repr_of_reads' rd sh.s (fun _ => hm) gu (by have := sh.d; omega) (fun _ _ e => e) (fun h' u tk hk => ⟨.str _, H, I.kept hk, ⟨u, rfl⟩, q⟩) sz
  cases hd with
  | non =>
    obtain rfl : u = Value.none := ru
    exact PySem.P.repr_of_none ⟨.str _, H, I.tok _, ⟨_, rfl⟩, q⟩
  | bl b =>
    obtain rfl : u = Value.bool b := ru
    exact PySem.P.repr_of_bool ⟨.str _, H, I.tok _, ⟨_, rfl⟩, q⟩
  | int i =>
    obtain ⟨t, rfl⟩ := ru
    exact PySem.P.repr_of_int (of_decide_eq_true sh.s) ⟨.str _, H, I.tok _, ⟨_, rfl⟩, q⟩
  | str z =>
    obtain ⟨t, rfl⟩ := ru
    exact PySem.P.repr_of_str ⟨.str _, H, I.tok _, ⟨_, rfl⟩, q⟩ sz
  | lst h n a => exact go _ rfl
  | tup h a => exact go _ rfl
  | dic h => exact go _ rfl
  | di1 h a => exact go _ rfl
theorem val_reprQ {σ : L2.St} {H : Hp} {ta : TE} {x : V} {d : PyData} (ha : Val ta σ H x) (hd : Dq H x d) (s : ShQ d) : Val (tCB rReprQ (tCons ta tNil)) σ H (.str d.shown) := fun Q q => ha _ ⟨x, d, rfl, hd, s, q⟩
end
end K5
namespace PySem.SeqAt
open PySem PySem.Spec PyProof.Rows
theorem dict_eq_declines_tup (l b : Addr) (es : Array DictEntry) (items2 : Array Value) (n n2 : Nat) (dd dd2 : Option Addr) (sl sl2 : Array (Option Value)) :
    Meets (Builtin.«dict.__eq__» ⟨[.ref l, .ref b], []⟩) (fun _ R s => s.heap.get? l = some { cls := .type "dict", dict := dd, data := .dict es n, slots := sl } ∧ s.heap.get? b = some { cls := .type "tuple", dict := dd2, data := .seq items2 n2, slots := sl2 } ∧ R (.ok (.ret .notImplemented)) s) :=
  .of_wp fun prog w A R s h => by obtain ⟨hp, g, d, tk, os⟩ := s; obtain ⟨hl, hb, h⟩ := h; have f1 := F.sub_tuple_dict; wp_walk using wpAny_loadPart' hl, wpAny_loadPart' hb, wpAny_load hb; exact ⟨_, rfl, h⟩
theorem tup_eq_declines_dict (l b : Addr) (items : Array Value) (es : Array DictEntry) (n n2 : Nat) (dd dd2 : Option Addr) (sl sl2 : Array (Option Value)) :
    Meets (Builtin.«tuple.__eq__» ⟨[.ref l, .ref b], []⟩) (fun _ R s => s.heap.get? l = some { cls := .type "tuple", dict := dd, data := .seq items n, slots := sl } ∧ s.heap.get? b = some { cls := .type "dict", dict := dd2, data := .dict es n2, slots := sl2 } ∧ R (.ok (.ret .notImplemented)) s) :=
  .of_wp fun prog w A R s h => by obtain ⟨hp, g, d, tk, os⟩ := s; obtain ⟨hl, hb, h⟩ := h; have f1 := F.sub_dict_tuple; wp_walk using wpAny_loadPart' hl, wpAny_loadPart' hb, wpAny_load hb; exact ⟨_, rfl, h⟩
theorem RcAt.dict_tup {A : Around} {s : Shared} {l b : Addr} {o : Obj} {es : Array DictEntry} {n : Nat} {items2 : Array Value} (ho : s.heap.get? l = some o) (hc : o.cls = .type "dict") (hd : o.data = .dict es n) (hb : s.heap.IsTuple b items2) (hu : A.units < cLine) : RcAt A s (.ref l) (.ref b) false := fun prog w E Q h => by
  obtain ⟨cls, dd, data, sl⟩ := o
  obtain ⟨⟨cls2, dd2, data2, sl2⟩, ho2, hc2, n2, hd2⟩ := id hb
  simp only at hc hd hc2 hd2
  subst hc hd hc2 hd2
  have hne : l ≠ b := fun e => by
    rw [e, ho2] at ho
    have ho := Option.some.inj ho
    injection ho with h1
    injection h1 with h1
    exact absurd h1 (by decide)
  exact (rc_eq_decline_or (k := false) ⟨_, ho, rfl⟩ ⟨_, ho2, rfl⟩ (by decide) F.sub_tuple_dict F.slot_dict_eq F.slot_tuple_eq_refl
    (fun _ hq => call_meets F.slot_dict_eq ⟨_, ho, rfl⟩ F.entry_dict_eq (F.args_dict_eq_2 _ _) (dict_eq_declines_tup l b es items2 n n2 dd dd2 sl sl2) ⟨ho, ho2, hq⟩)
    (fun _ hq => call_meets F.slot_tuple_eq_refl ⟨_, ho2, rfl⟩ F.entry_tuple_eq (F.args_tuple_eq_2 _ _) (tup_eq_declines_dict b l items2 es n2 n dd2 dd sl2 sl) ⟨ho2, ho, hq⟩)
    (fun _ hq => wpAny_isSame_ref_other hne ho ho2 (by simp) hq) (.inr hu) h)
theorem dict_eq_declines_str (l : Addr) (es : Array DictEntry) (n : Nat) (dd : Option Addr) (sl : Array (Option Value)) (b : Str) (u : Tok) :
    Meets (Builtin.«dict.__eq__» ⟨[.ref l, .str b u], []⟩) (fun _ R s => s.heap.get? l = some { cls := .type "dict", dict := dd, data := .dict es n, slots := sl } ∧ R (.ok (.ret .notImplemented)) s) :=
  .of_wp fun prog w A R s h => by obtain ⟨hp, g, d, tk, os⟩ := s; obtain ⟨hl, h⟩ := h; have f1 := F.sub_str_dict; wp_walk using wpAny_loadPart' hl; exact ⟨_, rfl, h⟩
theorem str_eq_declines_dict (b : Str) (u : Tok) (l : Addr) (c : Value) (es : Array DictEntry) (n : Nat) (dd : Option Addr) (sl : Array (Option Value)) :
    Meets (Builtin.«str.__eq__» ⟨[.str b u, .ref l], []⟩) (fun _ R s => s.heap.get? l = some { cls := c, dict := dd, data := .dict es n, slots := sl } ∧ R (.ok (.ret .notImplemented)) s) :=
  .of_wp fun prog w A R s h => by obtain ⟨hp, g, d, tk, os⟩ := s; obtain ⟨hl, h⟩ := h; wp_walk using wpAny_loadPart' hl, wpAny_load hl; exact ⟨_, rfl, h⟩
theorem RcAt.str_dict {A : Around} {s : Shared} {l : Addr} {o : Obj} {es : Array DictEntry} {n : Nat} (b : Str) (u : Tok) (ho : s.heap.get? l = some o) (hc : o.cls = .type "dict") (hd : o.data = .dict es n) (hu : A.units < cLine) : RcAt A s (.str b u) (.ref l) false := fun prog w E Q h => by
  obtain ⟨cls, dd, data, sl⟩ := o
  simp only at hc hd
  subst hc hd
  exact rc_eq_decline_or (k := false) (typeIs_str s b u) ⟨_, ho, rfl⟩ (by decide) F.sub_dict_str F.slot_str_eq F.slot_dict_eq_refl
    (fun _ hq => call_meets F.slot_str_eq (typeIs_str s b u) F.entry_str_eq (F.args_str_eq_2 _ _) (str_eq_declines_dict b u l (.type "dict") es n dd sl) ⟨ho, hq⟩)
    (fun _ hq => call_meets F.slot_dict_eq_refl ⟨_, ho, rfl⟩ F.entry_dict_eq (F.args_dict_eq_2 _ _) (dict_eq_declines_str l es n dd sl b u) ⟨ho, hq⟩)
    (fun _ hq => wpAny_of_eq (rfl : isSame (.str b u) (.ref l) = pure false) hq) (.inr hu) h
theorem EqAt.str_dict {A : Around} {s : Shared} {l : Addr} {o : Obj} {es : Array DictEntry} {n : Nat} (b : Str) (u : Tok) (ho : s.heap.get? l = some o) (hc : o.cls = .type "dict") (hd : o.data = .dict es n) (hu : A.units < cLine) : EqAt A s (.str b u) (.ref l) false := fun prog w E Q h => by
  unfold eqBool
  refine wpAny_holding ?_
  refine wpAny_ite_split (fun hab => absurd (eq_of_beq hab) nofun) (fun _ => ?_)
  exact wpAny_bind (RcAt.str_dict b u ho hc hd hu prog w E _ (wpAny_truthy_bool h))
end PySem.SeqAt
namespace K5
open PySem PySem.Spec PyProof.Rows L2
/-! ### a value of any kind beside () and among texts -/
def isT0 : PyData → Bool
  | .tuple [] => true
  | _ => false
def rEq0 : R2 := fun x y H Q => ∃ (d : PyData) (t : Addr), Dq H x d ∧ y = .ref t ∧ H t = some (.tup []) ∧ Q (.bl (isT0 d)) H
def rNe0 : R2 := fun x y H Q => ∃ (d : PyData) (t : Addr), Dq H x d ∧ y = .ref t ∧ H t = some (.tup []) ∧ Q (.bl (!isT0 d)) H
theorem op_eq0 {X : Cx} (hu : X.A.units < cLine) : OpR X (compareOp .Eq) rEq0 := by
  intro pins s σ H x y v u Q I rx ry h
  obtain ⟨d, t, hx, rfl, ht, q⟩ := h
  cases ry
  obtain ⟨its0, rv0, ist0, _⟩ := I.tuple (SqT.of (K := X.K) ht)
  have e0 : its0 = [] := by
    cases rv0
    rfl
  subst e0
  have fin : ∀ {b : Bool}, b = isT0 d → EP X pins σ Q (.bool b) s := fun e => ⟨.bl _, H, I, rfl, by rw [e]; exact q⟩
  cases hx with
  | non =>
    cases rx
    exact SeqAt.RcAt.none_tuple ist0 hu _ _ _ _ (fin rfl)
  | bl b =>
    cases rx
    exact SeqAt.RcAt.bool_tuple b ist0 hu _ _ _ _ (fin rfl)
  | int i =>
    obtain ⟨t', rfl⟩ := rx
    exact SeqAt.RcAt.int_tuple i t' ist0 hu _ _ _ _ (fin rfl)
  | str w =>
    obtain ⟨t', rfl⟩ := rx
    exact SeqAt.RcAt.str_tuple w t' ist0 hu _ _ _ _ (fin rfl)
  | lst h n a =>
    cases rx
    obtain ⟨its, _, isl, _⟩ := I.list (SqL.of (K := X.K) h)
    obtain ⟨o, n, e1, e2, _, e3⟩ := isl
    exact SeqAt.RcAt.list_tuple ⟨o, e1, e2, n, e3⟩ ist0 hu _ _ _ _ (fin rfl)
  | @tup a0 xs0 ds h a =>
    cases rx
    obtain ⟨its, rv, ist, _⟩ := I.tuple (SqT.of (K := X.K) h)
    refine SeqAt.RcAt.tuples (e := fun _ => true) ist ist0 hu (fun j h1 h2 => absurd h2 (Nat.not_lt_zero j)) _ _ _ _ (fin ?_)
    have l := rv.length
    have l2 := a.len
    cases ds with
    | nil =>
      rw [List.length_nil] at l2
      have : its = [] := List.length_eq_zero_iff.mp (by omega)
      subst this
      rfl
    | cons d ds =>
      rw [List.length_cons] at l2
      show (_ && (its.toArray.size == 0)) = false
      rw [Bool.and_eq_false_iff]
      right
      rw [List.size_toArray, beq_eq_false_iff_ne]
      omega
  | dic h =>
    cases rx
    obtain ⟨_, nm, vs, rel, dd⟩ := dk_of I.hok h
    obtain ⟨o, es, ep, ho, hc, hd, _⟩ := dd
    exact SeqAt.RcAt.dict_tup ho hc.1 hd ist0 hu _ _ _ _ (fin rfl)
  | di1 h a =>
    cases rx
    obtain ⟨_, nm, vs, rel, dd⟩ := dk_of I.hok h
    obtain ⟨o, es, ep, ho, hc, hd, _⟩ := dd
    exact SeqAt.RcAt.dict_tup ho hc.1 hd ist0 hu _ _ _ _ (fin rfl)
/-- x in a tuple of texts -/
def inStrs (zs : List Str) : PyData → Bool
  | .str z => decide (z ∈ zs)
  | _ => false
theorem inV_no {x : V} (hx : ∀ z, x ≠ .str z) (hf : flatV x = true) : ∀ l : List Str, inV x (l.map V.str) = false
  | [] => rfl
  | y :: r => by
    have ih := inV_no hx hf r
    unfold inV at ih ⊢
    rw [List.map_cons, List.any_cons, ih, Bool.or_false]
    cases x with
    | str z => exact absurd rfl (hx z)
    | _ => first | rfl | simp [eqV]
def rInQ (K : PySem.W.Frag) : R2 := fun x y H Q => ∃ (d : PyData) (p : Addr) (zs : List Str), Dq H x d ∧ y = .ref p ∧ SqT K H p (zs.map V.str) ∧ Q (.bl (inStrs zs d)) H
theorem op_inQ {X : Cx} (hu : X.A.units + 2 < cLine) : OpR X (compareOp .In) (rInQ X.K) := by
  intro pins s σ H x y v u Q I rx ry h
  obtain ⟨d, p, zs, hx, rfl, hp, q⟩ := h
  have flat : (zs.map V.str).all flatV = true := by
    rw [List.all_eq_true]
    intro v hv
    obtain ⟨z, _, rfl⟩ := List.mem_map.mp hv
    rfl
  have sc : flatV x = true → inV x (zs.map V.str) = inStrs zs d → wpAny (model X.prog X.w) X.A (compareOp .In v u) (EP X pins σ Q) X.xe s := fun h1 h2 =>
    op_in_seq pins s σ H x (.ref p) v u Q I rx ry ⟨p, _, rfl, .inr hp, h1, flat, by rw [if_neg Bool.false_ne_true, h2]; exact q⟩
  have big : ∀ a : Addr, x = .ref a → inStrs zs d = false → (∀ (z : Str) (t : Tok), SeqAt.EqAt X.A.in1 s (.str z t) (.ref a) false) → wpAny (model X.prog X.w) X.A (compareOp .In v u) (EP X pins σ Q) X.xe s := fun a e1 e2 e3 => by
    subst e1
    cases rx
    cases ry
    obtain ⟨its, rv, ist, _⟩ := I.tuple hp
    refine SeqAt.in_tupleAt (fun _ => false) ist (fun w hw => ?_) ?_
    · obtain ⟨i, hi⟩ := List.getElem?_of_mem (l := its) (a := w) (by simpa using hw)
      obtain ⟨y, hy, ry⟩ : ∃ y, (zs.map V.str)[i]? = some y ∧ RelV y w := by
        clear q e2 e3 flat hp sc ist hw
        generalize zs.map V.str = ys at rv
        induction rv generalizing i with
        | nil => cases hi
        | cons r rs ih =>
          cases i with
          | zero =>
            cases hi
            exact ⟨_, rfl, r⟩
          | succ i => exact ih i hi
      rw [List.getElem?_map, Option.map_eq_some_iff] at hy
      obtain ⟨z, _, rfl⟩ := hy
      obtain ⟨t, rfl⟩ := ry
      exact e3 z t
    · have : its.toArray.any (fun _ => false) = false := by simp
      rw [this]
      exact ⟨.bl false, H, I, rfl, by rw [← e2]; exact q⟩
  have hu1 : X.A.in1.units < cLine := by
    show X.A.units + 1 < cLine
    omega
  cases hx with
  | non => exact sc rfl (inV_no (x := .non) (fun _ e => nomatch e) rfl _)
  | bl b => exact sc rfl (inV_no (x := .bl b) (fun _ e => nomatch e) rfl _)
  | int i => exact sc rfl (inV_no (x := .int i) (fun _ e => nomatch e) rfl _)
  | str z => exact sc rfl (inV_strs z zs)
  | lst h n a =>
    obtain ⟨its, _, isl, _⟩ := I.list (SqL.of (K := X.K) h)
    obtain ⟨o, n, e1, e2, _, e3⟩ := isl
    exact big _ rfl rfl fun z t => SeqAt.EqAt.str_list z t ⟨o, e1, e2, n, e3⟩ hu1
  | tup h a =>
    obtain ⟨its, _, ist, _⟩ := I.tuple (SqT.of (K := X.K) h)
    exact big _ rfl rfl fun z t => SeqAt.EqAt.str_tuple z t ist hu1
  | dic h =>
    obtain ⟨_, nm, vs, rel, dd⟩ := dk_of I.hok h
    obtain ⟨o, es, ep, ho, hc, hd, _⟩ := dd
    exact big _ rfl rfl fun z t => SeqAt.EqAt.str_dict z t ho hc.1 hd hu1
  | di1 h a =>
    obtain ⟨_, nm, vs, rel, dd⟩ := dk_of I.hok h
    obtain ⟨o, es, ep, ho, hc, hd, _⟩ := dd
    exact big _ rfl rfl fun z t => SeqAt.EqAt.str_dict z t ho hc.1 hd hu1
end K5
namespace K5
open PySem PySem.Spec PyProof.Rows L2
section
variable {X : Cx} {K : PySem.W.Frag} {σ : L2.St} {H : Hp} {ta tb tc : TE} {t u : TT} {i j k : Int} {p : Addr} {xs : List V} {v x : V} {a b : Bool}
theorem val_neg (h : Val ta σ H (.int i)) : Val (tUn (rU fun i => .int (-i)) ta) σ H (.int (-i)) := fun Q q => h _ ⟨i, rfl, q⟩
end
theorem val_lenT {K : PySem.W.Frag} {σ : L2.St} {H : Hp} {ta : TE} {p : Addr} {xs : List V} (h : Val ta σ H (.ref p)) (hS : SqT K H p xs) : Val (tCB (rLenSq K) (tCons ta tNil)) σ H (.int xs.length) := fun Q q => h _ ⟨p, xs, rfl, .inr hS, q⟩
theorem val_ixT {K : PySem.W.Frag} {σ : L2.St} {H : Hp} {ta tb : TE} {i : Int} {p : Addr} {xs : List V} {v : V} (ha : Val ta σ H (.ref p)) (hb : Val tb σ H (.int i)) (hS : SqT K H p xs) (h : atI xs i = some v) : Val (tOp (rIxT K) ta tb) σ H v :=
  val_op ha hb fun Q q => ⟨p, xs, i, v, rfl, rfl, hS, h, q⟩
def belowV (m : Int) : V → Bool
  | .int i => decide (0 ≤ i) && decide (i < m)
  | _ => false
def answerV (m : Int) : V → Bool
  | .int i => decide (-2 ≤ i) && decide (i < m)
  | _ => false
def spBelow : Sp := fun vs H Q _ => ∃ (x : V) (T : String) (m : Int), vs = [x, .int m] ∧ Kd H x T ∧ Q (.bl (belowV m x)) H
def spAnswer : Sp := fun vs H Q _ => ∃ (x : V) (T : String) (m : Int), vs = [x, .int m] ∧ Kd H x T ∧ Q (.bl (answerV m x)) H
theorem sc_is_below : FnScope ["value", "many"] ["value", "many"] (defScope s_is_below) := ⟨rfl, rfl, rfl, by decide +kernel, rfl, by decide +kernel, by decide +kernel⟩
theorem sc_is_answer : FnScope ["value", "worths"] ["value", "worths"] (defScope s_is_answer) := ⟨rfl, rfl, rfl, by decide +kernel, rfl, by decide +kernel, by decide +kernel⟩
theorem sc_is_tuple : FnScope ["value", "size"] ["value", "size"] (defScope s_is_tuple) := ⟨rfl, rfl, rfl, by decide +kernel, rfl, by decide +kernel, by decide +kernel⟩
theorem bt_tuple : bootBuiltins "tuple" = some (.type "tuple") := by decide +kernel
theorem kit_tt : kitB "tuple" "tuple" = some true := by decide +kernel
def isTupN (n : Nat) : PyData → Bool
  | .tuple ds => decide (ds.length = n)
  | _ => false
def belowD (m : Int) : PyData → Bool
  | .int i => decide (0 ≤ i) && decide (i < m)
  | _ => false
def answerD (m : Int) : PyData → Bool
  | .int i => decide (-2 ≤ i) && decide (i < m)
  | _ => false
def isIntD : PyData → Bool
  | .int _ => true
  | _ => false
theorem dq_below {H : Hp} {x : V} {d : PyData} (m : Int) (h : Dq H x d) : belowV m x = belowD m d := by cases h <;> rfl
theorem dq_answer {H : Hp} {x : V} {d : PyData} (m : Int) (h : Dq H x d) : answerV m x = answerD m d := by cases h <;> rfl
theorem dq_isI {H : Hp} {x : V} {d : PyData} (h : Dq H x d) : isI x = isIntD d := by cases h <;> rfl
def isTupD : PyData → Bool
  | .tuple _ => true
  | _ => false
theorem kt_no : kitB "NoneType" "tuple" = some false ∧ kitB "bool" "tuple" = some false ∧ kitB "int" "tuple" = some false ∧ kitB "str" "tuple" = some false ∧ kitB "list" "tuple" = some false ∧ kitB "dict" "tuple" = some false := by decide +kernel
theorem val_isTup {K : PySem.W.Frag} {σ : L2.St} {H : Hp} {ta : TE} {x : V} {d : PyData} (ha : Val ta σ H x) (h : Dq H x d) : Val (tCB (rIsi K) (tCons ta (tCons (tC (.ty "tuple")) tNil))) σ H (.bl (isTupD d)) := by
  cases h with
  | non => exact val_isi ha .non kt_no.1
  | bl b => exact val_isi ha (.bl b) kt_no.2.1
  | int i => exact val_isi ha (.int i) kt_no.2.2.1
  | str z => exact val_isi ha (.str z) kt_no.2.2.2.1
  | lst h n a => exact val_isi ha (.lst h) kt_no.2.2.2.2.1
  | tup h a => exact val_isi ha (.tup h) kit_tt
  | dic h => exact val_isi ha (.dK h) kt_no.2.2.2.2.2
  | di1 h a => exact val_isi ha (.dK h) kt_no.2.2.2.2.2
theorem dq_tup {H : Hp} {x : V} {ds : List PyData} (h : Dq H x (.tuple ds)) : ∃ a xs, x = .ref a ∧ H a = some (.tup xs) ∧ DqA H xs ds := by
  cases h with
  | tup h a => exact ⟨_, _, rfl, h, a⟩
theorem dqa_cons {H : Hp} {xs : List V} {d : PyData} {ds : List PyData} (h : DqA H xs (d :: ds)) : ∃ v vs, xs = v :: vs ∧ Dq H v d ∧ DqA H vs ds := by
  cases h with
  | cons a b => exact ⟨_, _, rfl, a, b⟩
theorem dqa_nil {H : Hp} {xs : List V} (h : DqA H xs []) : xs = [] := by
  cases h
  rfl
theorem isTupD_eq {d : PyData} (h : isTupD d = true) : ∃ ds, d = .tuple ds := by
  cases d with
  | tuple ds => exact ⟨_, rfl⟩
  | _ => exact nomatch h
theorem isTupN_eq {n : Nat} {d : PyData} (h : isTupN n d = true) : ∃ ds, d = .tuple ds ∧ ds.length = n := by
  cases d with
  | tuple ds => exact ⟨_, rfl, of_decide_eq_true h⟩
  | _ => exact nomatch h
theorem len_two {ds : List PyData} (h : ds.length = 2) : ∃ a b, ds = [a, b] := by
  match ds, h with
  | [a, b], _ => exact ⟨a, b, rfl⟩
def spIsTupQ : Sp := fun vs H Q _ => ∃ (x : V) (d : PyData) (n : Nat), vs = [x, .int (n : Nat)] ∧ Dq H x d ∧ Q (.bl (isTupN n d)) H
section
variable {P : Program} {w : World} {K : PySem.W.Frag} {mg : Str → Option Value} {base : Heap}
theorem ok_is_below {f fI : Addr} {fd fdI : FuncData} (B : Bt mg) (D : Df K mg "is_below" s_is_below f fd ["value", "many"]) (D_is_integer : Df K mg "is_integer" s_is_integer fI fdI ["value"]) : FnOk P w K mg base CX0 2 f fd ["value", "many"] spBelow := by
  have G_is_integer : FnOk P w K mg base CX0 1 fI fdI ["value"] spIsInt := ok_is_integer B D_is_integer
  refine D.F.ok sc_is_below (fun vs H Q E h => ?_) (fun cdv A outer s H vs Q E hr h => ?_)
  · obtain ⟨x, T, m, rfl, _⟩ := h
    rfl
  · obtain ⟨x, T, m, rfl, hx, k⟩ := h
    have S := sc_is_below
    refine ⟨_, (pss_one (ps_ret (pe_and (pe_call G_is_integer (hr.mono (by decide)) (by rfl) D_is_integer.g D_is_integer.F.kp D_is_integer.b .nil pass0 (pa_cons (pv 0) pa_nil)) (pe_one (pe_chain op_le op_lt pe_int (pv 0) (pv 1)))))), ?_⟩
    refine (val_call (va_cons (val_var rfl) va_nil) fun Q q => ⟨x, T, rfl, hx, q⟩) _ ⟨_, rfl, ?_⟩
    cases hx with
    | int i => exact iteT ((val_chain val_c (val_var rfl) (val_var rfl)) _ k)
    | _ => exact iteF k
theorem ok_is_answer {f fI : Addr} {fd fdI : FuncData} (B : Bt mg) (D : Df K mg "is_answer" s_is_answer f fd ["value", "worths"]) (D_is_integer : Df K mg "is_integer" s_is_integer fI fdI ["value"]) : FnOk P w K mg base CX0 2 f fd ["value", "worths"] spAnswer := by
  have G_is_integer : FnOk P w K mg base CX0 1 fI fdI ["value"] spIsInt := ok_is_integer B D_is_integer
  refine D.F.ok sc_is_answer (fun vs H Q E h => ?_) (fun cdv A outer s H vs Q E hr h => ?_)
  · obtain ⟨x, T, m, rfl, _⟩ := h
    rfl
  · obtain ⟨x, T, m, rfl, hx, k⟩ := h
    have S := sc_is_answer
    refine ⟨_, (pss_one (ps_ret (pe_and (pe_call G_is_integer (hr.mono (by decide)) (by rfl) D_is_integer.g D_is_integer.F.kp D_is_integer.b .nil pass0 (pa_cons (pv 0) pa_nil)) (pe_one (pe_chain op_le op_lt (pe_un un_neg pe_int) (pv 0) (pv 1)))))), ?_⟩
    refine (val_call (va_cons (val_var rfl) va_nil) fun Q q => ⟨x, T, rfl, hx, q⟩) _ ⟨_, rfl, ?_⟩
    cases hx with
    | int i => exact iteT ((val_chain (val_neg val_c) (val_var rfl) (val_var rfl)) _ k)
    | _ => exact iteF k
theorem ok_is_tupQ {f : Addr} {fd : FuncData} (B : Bt mg) (D : Df K mg "is_tuple" s_is_tuple f fd ["value", "size"]) : FnOk P w K mg base CX0 1 f fd ["value", "size"] spIsTupQ := by
  refine D.F.ok sc_is_tuple (fun vs H Q E h => ?_) (fun cdv A outer s H vs Q E hr h => ?_)
  · obtain ⟨x, d, n, rfl, _⟩ := h
    rfl
  · obtain ⟨x, d, n, rfl, hx, k⟩ := h
    have S := sc_is_tuple
    refine ⟨_, (pss_one (ps_ret (pe_and (pe_callB call_isi (by rfl) B.m_isinstance PyProof.Rows.boot_isinstance (pa_cons (pv 0) (pa_cons (pe_tyN bt_tuple (by rfl) B.m_tuple) pa_nil))) (pe_one (pe_cmpR op_eq (pe_callB call_len_seq (by rfl) B.m_len PySem.boot_len (pa_cons (pv 0) pa_nil)) (pv 1) (nomark _)))))), ?_⟩
    refine (val_isTup (val_var rfl) hx) _ ⟨_, rfl, ?_⟩
    cases c : isTupD d with
    | false =>
      refine iteF ?_
      have : isTupN n d = false := by
        cases d with
        | tuple ds => exact nomatch c
        | _ => rfl
      rw [this] at k
      exact k
    | true =>
      obtain ⟨ds, rfl⟩ := isTupD_eq c
      obtain ⟨p, xs, rfl, hp, ha⟩ := dq_tup hx
      have e : decide (V.int (xs.length : Nat) = V.int (n : Nat)) = decide (xs.length = n) := decide_eq_decide.mpr ⟨fun e => by injection e with e; omega, fun e => by rw [e]⟩
      have kk : Q (.bl (decide (xs.length = n))) H := by
        rw [ha.len]
        exact k
      exact iteT ((val_op (z := .bl (decide (xs.length = n))) (val_lenT (val_var rfl) (SqT.of hp)) (val_var rfl) fun Q q => ⟨rfl, by rw [e]; exact q⟩) _ kk)
end
theorem kit_tuple : kitB "NoneType" "tuple" = some false ∧ kitB "bool" "tuple" = some false ∧ kitB "int" "tuple" = some false ∧ kitB "str" "tuple" = some false ∧ kitB "list" "tuple" = some false ∧ kitB "tuple" "tuple" = some true ∧ kitB "dict" "tuple" = some false := by decide +kernel
theorem truT {K : PySem.W.Frag} {H : Hp} {p : Addr} {xs : List V} (h : SqT K H p xs) : TruV K (.ref p) H (!xs.isEmpty) := .inr (.inl ⟨_, h, rfl⟩)
theorem paired_at {α β : Type} {R : α → β → Prop} : ∀ {l : List α} {m : List β} (i : Nat) {a : α}, Paired R l m → l[i]? = some a → ∃ b, m[i]? = some b ∧ R a b
  | _, _, _, _, .nil, h => by cases h
  | _, _, 0, _, .cons (b := b) x r, h => ⟨b, rfl, by
    injection h with h
    exact h ▸ x⟩
  | _, _, i + 1, _, .cons x r, h => paired_at i r h
theorem paired_app {α β : Type} {R : α → β → Prop} : ∀ {l : List α} {m : List β} {a : α} {b : β}, Paired R l m → R a b → Paired R (l ++ [a]) (m ++ [b])
  | _, _, _, _, .nil, h => .cons h .nil
  | _, _, _, _, .cons x r, h => .cons x (paired_app r h)
end K5
namespace K5
open PySem PySem.Spec PyProof.Rows L2
/-! ### rows that ascend -/
def rLtD : R2 := fun x y H Q => ∃ d e : PyData, Dq H x d ∧ Dq H y e ∧ PySem.W.alike d e = true ∧ d ≠ .none ∧ d.depth ≤ 10 ∧ Q (.bl (PySem.W.dataLt d e)) H
theorem op_ltD {X : Cx} (hu : X.A.units + 64 < cLine) : OpR X (compareOp .Lt) rLtD := by
  intro pins s σ H x y v u Q I rx ry h
  obtain ⟨d, e, hd, he, al, nn, dp, q⟩ := h
  obtain ⟨as, ra, _⟩ := Dq.reads I hd _ rx
  obtain ⟨bs, rb, _⟩ := Dq.reads I he _ ry
  exact PySem.W.lt_data ra rb al nn (by omega) ⟨.bl _, H, I, rfl, q⟩
theorem dqA_at {H : Hp} : ∀ {xs : List V} {ds : List PyData} {i : Nat} {x : V}, DqA H xs ds → xs[i]? = some x → ∃ d, ds[i]? = some d ∧ Dq H x d
  | _, _, _, _, .nil, h => by cases h
  | _, _, 0, _, .cons a r, h => by
    injection h with h
    exact ⟨_, rfl, h ▸ a⟩
  | _, _, i + 1, _, .cons a r, h => dqA_at (i := i) r h
def AscD (ds : List PyData) : Prop := ds.Pairwise fun a b => PySem.W.alike a b = true ∧ a ≠ .none ∧ a.depth ≤ 10 ∧ PySem.W.dataLt a b = true
def spAsc : Sp := fun vs H Q _ => ∃ (l : Addr) (xs : List V) (ds : List PyData), vs = [.ref l] ∧ H l = some (.lst xs) ∧ DqA H xs ds ∧ AscD ds ∧ xs.length ≤ 100 ∧ ∀ H', Same H H' → Q (.bl true) H'
theorem sc_ascends : FnScope ["rows", "at"] ["rows"] (defScope s_ascends) := ⟨rfl, rfl, rfl, by decide +kernel, rfl, by decide +kernel, by decide +kernel⟩
section
variable {P : Program} {w : World} {K : PySem.W.Frag} {mg : Str → Option Value} {base : Heap}
theorem ok_ascends {f : Addr} {fd : FuncData} (B : Bt mg) (m_all : mg "all" = none) (D : Df K mg "ascends" s_ascends f fd ["rows"]) : FnOk P w K mg base CX0 1 f fd ["rows"] spAsc := by
  refine D.F.ok sc_ascends (fun vs H Q E h => ?_) (fun cdv A outer s H vs Q E hr h => ?_)
  · obtain ⟨l, xs, ds, rfl, _⟩ := h
    rfl
  · obtain ⟨l, xs, ds, rfl, hl, hd, pw, few, k⟩ := h
    have S := sc_ascends
    have hu := hr.units
    refine ⟨_, (pss_one (ps_ret (pe_callB (cr_all rfl) (by rfl) m_all (by decide +kernel) (pa_cons (pe_lc (own := [("at", 1)]) (g := gName 1) (tt := tYes) rfl S.nd (pi_range1 (by rfl) B.m_range (pa_cons (pe_op op_sub (pe_callB call_len_seq (by rfl) B.m_len PySem.boot_len (pa_cons (pv 0) pa_nil)) pe_int) pa_nil)) (blkOk_by (own := [("at", 1)]) (N := ["rows", "at"]) (sc := defScope s_ascends) (by decide +kernel)) (fun _ _ _ _ _ => pg_name (i := 1) S.nd rfl (Or.inl rfl)) (fun _ _ _ _ _ => pts_nil)
      (fun _ _ _ _ _ => pe_cmpR (op_ltD (by exact hu)) (pe_ix (r := rIxL K) ix_list (pv 0) (pv 1) (fun _ _ => rfl)) (pe_ix (r := rIxL K) ix_list (pv 0) (pe_op op_add (pv 1) pe_int) (fun _ _ => rfl)) (nomark _))) pa_nil)))), ?_⟩
    dsimp only [tRet, tCB, tCons, tNil, tLc, iRng1]
    refine (val_i0 (val_lenL (val_var rfl) (SqL.of hl)) val_c) _ ?_
    refine ⟨_, rfl, by omega, by omega, fun M nM => ?_⟩
    refine lc_range (lo := 0) (n := ((xs.length : Int) - 1).toNat) (fun t H2 => Same H H2 ∧ H2 M = some (.lst ((List.replicate t true).map V.bl))) ⟨same_upd nM, upd_same⟩ (fun t H2 ht hI => ?_) fun H2 hI => ?_
    · obtain ⟨s2, hM⟩ := hI
      refine ⟨rfl, ?_⟩
      dsimp only [tYes]
      rw [if_pos rfl]
      have t1 : t + 1 < xs.length := by omega
      obtain ⟨x, hx⟩ : ∃ x, xs[t]? = some x := ⟨_, List.getElem?_eq_getElem (by omega)⟩
      obtain ⟨y, hy⟩ : ∃ y, xs[t + 1]? = some y := ⟨_, List.getElem?_eq_getElem t1⟩
      obtain ⟨d, hdx, qx⟩ := dqA_at hd hx
      obtain ⟨e, hey, qy⟩ := dqA_at hd hy
      obtain ⟨i1, e1⟩ := List.getElem?_eq_some_iff.mp hdx
      obtain ⟨i2, e2⟩ := List.getElem?_eq_some_iff.mp hey
      have p := List.pairwise_iff_getElem.mp pw t (t + 1) i1 i2 (Nat.lt_succ_self _)
      rw [e1, e2] at p
      rw [show (0 : Int) + ((t : Nat) : Int) = ((t : Nat) : Int) by omega]
      have hy' : atI xs ((t : Nat) + 1 : Int) = some y := by
        have := atI_nat hy
        rw [show ((t + 1 : Nat) : Int) = ((t : Nat) : Int) + 1 by omega] at this
        exact this
      refine val_op (x := x) (y := y) (z := .bl true) (val_ixL (val_var rfl) (val_var rfl) (SqL.of (s2 _ _ hl)) (atI_nat hx)) (val_ixL (val_var rfl) (val_i0 (val_var rfl) val_c) (SqL.of (s2 _ _ hl)) hy') (fun Q q => ⟨d, e, Dq.mono s2 qx, Dq.mono s2 qy, p.1, p.2.1, p.2.2.1, by rw [p.2.2.2]; exact q⟩) _ ?_
      refine ⟨_, hM, by rw [List.length_map, List.length_replicate]; exact Nat.lt_of_lt_of_le (show t < 100 by omega) (by decide), fun b o e => ?_, ?_⟩
      · rw [upd_ne (ne_of_none e nM)]
        exact s2 _ _ e
      · rw [upd_same, List.replicate_succ', List.map_append]
        rfl
    · obtain ⟨s2, hM⟩ := hI
      refine ⟨M, _, rfl, SqL.of hM, ?_⟩
      have : ∀ n : Nat, (List.replicate n true).all id = true := fun n => by
        rw [List.all_eq_true]
        intro b hb
        rw [(List.mem_replicate.mp hb).2]
        rfl
      rw [this]
      exact k H2 s2
end
end K5
namespace K5
open PySem PySem.Spec PyProof.Rows L2
def OsAt (H : Hp) (ts : List Addr) (os : List (Int × Int)) : Prop := Paired (fun (t : Addr) (o : Int × Int) => H t = some (.tup [.int o.1, .int o.2])) ts os
theorem OsAt.len {H : Hp} {ts : List Addr} {os : List (Int × Int)} (h : OsAt H ts os) : ts.length = os.length := Paired.length h
abbrev RwD := (Str × Nat) × List (Int × Int)
def OuAt (H : Hp) (o : Addr) (os : List (Int × Int)) : Prop := ∃ ts : List Addr, H o = some (.tup (ts.map V.ref)) ∧ OsAt H ts os
def RowD (H : Hp) (t : Addr) (r : RwD) : Prop := ∃ o, H t = some (.tup [.str r.1.1, .int r.1.2, .ref o]) ∧ OuAt H o r.2
def StD (H : Hp) (p : Addr) (rs : List RwD) : Prop := ∃ ts : List Addr, H p = some (.tup (ts.map V.ref)) ∧ Paired (RowD H) ts rs
def TKeep (H H' : Hp) : Prop := ∀ b xs, H b = some (.tup xs) → H' b = some (.tup xs)
theorem TKeep.same {H H' : Hp} (s : Same H H') : TKeep H H' := fun b xs h => s _ _ h
theorem TKeep.but {H H' : Hp} {b : Addr} {l : List V} (s : SameBut b H H') (h : H b = some (.lst l)) : TKeep H H' := fun c xs hc => s _ _ (fun e => by rw [e, h] at hc; cases hc) hc
theorem OuAt.mono {H H' : Hp} (k : TKeep H H') {o : Addr} {os : List (Int × Int)} (h : OuAt H o os) : OuAt H' o os := by
  obtain ⟨ts, h1, h2⟩ := h
  exact ⟨ts, k _ _ h1, Paired.mapP h2 fun t q e => k _ _ e⟩
theorem RowD.mono {H H' : Hp} (k : TKeep H H') {t : Addr} {r : RwD} (h : RowD H t r) : RowD H' t r := by
  obtain ⟨o, h1, h2⟩ := h
  exact ⟨o, k _ _ h1, h2.mono k⟩
theorem StD.mono {H H' : Hp} (k : TKeep H H') {p : Addr} {rs : List RwD} (h : StD H p rs) : StD H' p rs := by
  obtain ⟨ts, h1, h2⟩ := h
  exact ⟨ts, k _ _ h1, Paired.mapP h2 fun t q e => e.mono k⟩
def SLt (a b : Str) : Prop := a.cps.toList < b.cps.toList
def RLt (a b : Str × Nat) : Prop := SLt a.1 b.1 ∨ (a.1 = b.1 ∧ a.2 < b.2)
def RowX (m w : Nat) (r : (Str × Nat) × List (Int × Int)) : Prop := r.1.2 < m ∧ 0 < r.2.length ∧ (r.2.map (·.1)).Pairwise (· < ·) ∧ ∀ o ∈ r.2, -2 ≤ o.1 ∧ o.1 < (m : Int) ∧ 0 ≤ o.2 ∧ o.2 < (w : Int)
def StX (m w : Nat) (s : List ((Str × Nat) × List (Int × Int))) : Prop := (s.map (·.1)).Pairwise RLt ∧ ∀ r ∈ s, RowX m w r
theorem pw_snoc {α : Type} {R : α → α → Prop} {l : List α} {x : α} (h : l.Pairwise R) (k : ∀ y ∈ l, R y x) : (l ++ [x]).Pairwise R :=
  List.pairwise_append.mpr ⟨h, List.pairwise_singleton _ _, fun a ha b hb => by rw [List.mem_singleton.mp hb]; exact k a ha⟩
def OsX (m n : Nat) (os : List (Int × Int)) : Prop := 0 < os.length ∧ (os.map (·.1)).Pairwise (· < ·) ∧ ∀ o ∈ os, -2 ≤ o.1 ∧ o.1 < (m : Int) ∧ 0 ≤ o.2 ∧ o.2 < (n : Int)
def encK (k : Str × Int) : PyData := .tuple [.str k.1, .int k.2]
theorem dq_pairs {H : Hp} : ∀ {ts : List Addr} {bs : List (Int × Int)}, Paired (fun (t : Addr) (q : Int × Int) => H t = some (.tup [.int q.1, .int q.2])) ts bs → DqA H (ts.map V.ref) (bs.map fun q => .tuple [.int q.1, .int q.2])
  | _, _, .nil => .nil
  | _, _, .cons h r => .cons (.tup h (.cons (.int _) (.cons (.int _) .nil))) (dq_pairs r)
def KLt (a b : Str × Int) : Prop := SLt a.1 b.1 ∨ (a.1 = b.1 ∧ a.2 < b.2)
theorem SLt.ne {a b : Str} (h : SLt a b) : a ≠ b := fun e => by
  rw [e] at h
  exact List.lt_irrefl _ h
theorem klt_data {a b : Str × Int} (h : KLt a b) : PySem.W.dataLt (encK a) (encK b) = true := by
  unfold encK
  rw [PySem.W.dataLt_pair (by simp [PySem.W.alike]) (by simp [PySem.W.alike]), PySem.W.dataLt_int, PySem.W.dataLt_str]
  simp only [PyData.eqv, beq_iff_eq]
  rcases h with h | ⟨h1, h2⟩
  · rw [if_neg h.ne]
    exact decide_eq_true h
  · rw [if_pos h1, if_neg (by omega)]
    exact decide_eq_true h2
def pairD (o : Int × Int) : PyData := .tuple [.int o.1, .int o.2]
def rwD (r : RwD) : PyData := .tuple [.str r.1.1, .int r.1.2, .tuple (r.2.map pairD)]
def keyR (r : RwD) : Str × Int := (r.1.1, (r.1.2 : Int))
def datD (sts : List (List RwD)) : PyData := .tuple (sts.map fun rs => .tuple (rs.map rwD))
theorem keys_asc {m w : Nat} {rs : List RwD} (h : StX m w rs) : (rs.map keyR).Pairwise KLt := by
  refine List.pairwise_map.mpr ((List.pairwise_map.mp h.1).imp fun {a b} h => ?_)
  rcases h with h | ⟨h1, h2⟩
  · exact .inl h
  · exact .inr ⟨h1, Int.ofNat_lt.mpr h2⟩
def poolD : List Str := ["get", "state", "b", "put"]
theorem pool_wd : ∀ z ∈ poolD, isDoor z = true ∧ z.length ≤ 10000000 := by decide +kernel
def RowOk (r : RwD) : Prop := r.1.1 ∈ poolD ∧ r.1.2 < 4 ∧ r.2.length ≤ 6
end K5
namespace K5
open PySem PySem.Spec PyProof.Rows L2
/-! ### is_outcome of an outcome -/
def spOutcome : Sp := fun vs H Q _ => ∃ (m n a b : Int) (t : Addr), vs = [.int m, .int n, .ref t] ∧ H t = some (.tup [.int a, .int b]) ∧ -2 ≤ a ∧ a < m ∧ 0 ≤ b ∧ b < n ∧ Q (.bl true) H
theorem sc_is_outcome : FnScope ["worths", "many", "value"] ["worths", "many", "value"] (defScope s_is_outcome) := ⟨rfl, rfl, rfl, by decide +kernel, rfl, by decide +kernel, by decide +kernel⟩
section
variable {P : Program} {w : World} {K : PySem.W.Frag} {mg : Str → Option Value} {base : Heap}
theorem ok_is_outcome {f fT fA fB fI : Addr} {fd dT dA dB dI : FuncData} (B : Bt mg) (D : Df K mg "is_outcome" s_is_outcome f fd ["worths", "many", "value"]) (DT : Df K mg "is_tuple" s_is_tuple fT dT ["value", "size"]) (DA : Df K mg "is_answer" s_is_answer fA dA ["value", "worths"]) (DB : Df K mg "is_below" s_is_below fB dB ["value", "many"]) (DI : Df K mg "is_integer" s_is_integer fI dI ["value"]) :
    FnOk P w K mg base CX0 3 f fd ["worths", "many", "value"] spOutcome := by
  have GT : FnOk P w K mg base CX0 1 fT dT ["value", "size"] spIsTupQ := ok_is_tupQ B DT
  have GA : FnOk P w K mg base CX0 2 fA dA ["value", "worths"] spAnswer := ok_is_answer B DA DI
  have GB : FnOk P w K mg base CX0 2 fB dB ["value", "many"] spBelow := ok_is_below B DB DI
  refine D.F.ok sc_is_outcome (fun vs H Q E h => ?_) (fun cdv A outer s H vs Q E hr h => ?_)
  · obtain ⟨m, n, a, b, t, rfl, _⟩ := h
    rfl
  · obtain ⟨m, n, a, b, t, rfl, ht, a0, a1, b0, b1, k⟩ := h
    have S := sc_is_outcome
    refine ⟨_, (pss_one (ps_ret (pe_and (pe_call GT (hr.mono (by decide)) (by rfl) DT.g DT.F.kp DT.b .nil pass0 (pa_cons (pv 2) (pa_cons pe_int pa_nil))) (pe_and (pe_call GA (hr.mono (by decide)) (by rfl) DA.g DA.F.kp DA.b .nil pass0 (pa_cons (pe_ix (r := rIxT K) ix_tup (pv 2) pe_int (fun _ _ => rfl)) (pa_cons (pv 0) pa_nil))) (pe_one (pe_call GB (hr.mono (by decide)) (by rfl) DB.g DB.F.kp DB.b .nil pass0 (pa_cons (pe_ix (r := rIxT K) ix_tup (pv 2) pe_int (fun _ _ => rfl)) (pa_cons (pv 1) pa_nil)))))))), ?_⟩
    have vx : ∀ {σ : L2.St} {j : Nat} {v : V}, σ[2]? = some (some (.ref t)) → ([V.int a, V.int b] : List V)[j]? = some v → Val (tOp (rIxT K) (tVar 2) (tC (.int (j : Nat)))) σ H v := fun hs hj => val_op (val_var hs) val_c fun Q q => ⟨t, _, _, _, rfl, rfl, SqT.of ht, atI_nat hj, q⟩
    refine (val_call (va_cons (val_var rfl) (va_cons val_c va_nil)) fun Q q => ⟨.ref t, .tuple [.int a, .int b], 2, rfl, .tup ht (.cons (.int _) (.cons (.int _) .nil)), q⟩) _ ⟨_, rfl, ?_⟩
    refine iteT ?_
    refine (val_call (va_cons (vx (j := 0) rfl rfl) (va_cons (val_var rfl) va_nil)) fun Q q => ⟨.int a, _, m, rfl, .int a, q⟩) _ ⟨_, rfl, ?_⟩
    have e1 : answerV m (.int a) = true := by
      show (decide (-2 ≤ a) && decide (a < m)) = true
      rw [decide_eq_true a0, decide_eq_true a1]
      rfl
    have e2 : belowV n (.int b) = true := by
      show (decide (0 ≤ b) && decide (b < n)) = true
      rw [decide_eq_true b0, decide_eq_true b1]
      rfl
    rw [e1]
    refine iteT ?_
    refine (val_call (va_cons (vx (j := 1) rfl rfl) (va_cons (val_var rfl) va_nil)) fun Q q => ⟨.int b, _, n, rfl, .int b, q⟩) _ ?_
    rw [e2]
    exact k
end
end K5
namespace K5
open PySem PySem.Spec PyProof.Rows L2
/-! ### is_row of a row -/
def spIsRow : Sp := fun vs H Q _ => ∃ (m n : Nat) (t o : Addr) (ts : List Addr) (d : Str) (w : Nat) (os : List (Int × Int)), vs = [.int m, .int n, .ref t] ∧ H t = some (.tup [.str d, .int w, .ref o]) ∧ isDoor d = true ∧ d.length ≤ 10000000 ∧ w < m ∧ H o = some (.tup (ts.map V.ref)) ∧ OsAt H ts os ∧ os.length ≤ 6 ∧ OsX m n os ∧
  ∀ H', Same H H' → Q (.bl true) H'
abbrev nmRow : List Str := ["worths", "many", "value", "door", "worth", "outcomes", "outcome", "answer", "_"]
theorem sc_is_row : FnScope nmRow ["worths", "many", "value"] (defScope s_is_row) := ⟨rfl, rfl, rfl, by decide +kernel, rfl, by decide +kernel, by decide +kernel⟩
section
variable {P : Program} {w : World} {K : PySem.W.Frag} {mg : Str → Option Value} {base : Heap}
theorem ok_is_row {f fT fA fB fI fD fN fO fS : Addr} {fd dT dA dB dI dD dN dO dS : FuncData} (B : Bt mg) (m_all : mg "all" = none) (D : Df K mg "is_row" s_is_row f fd ["worths", "many", "value"]) (DT : Df K mg "is_tuple" s_is_tuple fT dT ["value", "size"]) (DA : Df K mg "is_answer" s_is_answer fA dA ["value", "worths"]) (DB : Df K mg "is_below" s_is_below fB dB ["value", "many"]) (DI : Df K mg "is_integer" s_is_integer fI dI ["value"])
    (DD : Df K mg "is_door" s_is_door fD dD ["value"]) (DN : Df K mg "is_name" s_is_name fN dN ["value"]) (DO : Df K mg "is_outcome" s_is_outcome fO dO ["worths", "many", "value"]) (DS : Df K mg "ascends" s_ascends fS dS ["rows"]) :
    FnOk P w K mg base CX0 4 f fd ["worths", "many", "value"] spIsRow := by
  have GT : FnOk P w K mg base CX0 1 fT dT ["value", "size"] spIsTupQ := ok_is_tupQ B DT
  have GB : FnOk P w K mg base CX0 2 fB dB ["value", "many"] spBelow := ok_is_below B DB DI
  have GD : FnOk P w K mg base CX0 2 fD dD ["value"] spIsDoor := ok_is_door B DD DN
  have GO : FnOk P w K mg base CX0 3 fO dO ["worths", "many", "value"] spOutcome := ok_is_outcome B DO DT DA DB DI
  have GS : FnOk P w K mg base CX0 1 fS dS ["rows"] spAsc := ok_ascends B m_all DS
  refine D.F.ok sc_is_row (fun vs H Q E h => ?_) (fun cdv A outer s H vs Q E hr h => ?_)
  · obtain ⟨m, n, t, o, ts, d, w, os, rfl, _⟩ := h
    rfl
  · obtain ⟨m, n, t, o, ts, d, wd, os, rfl, ht, dd, dl, wm, ho, a, ol, ox, k⟩ := h
    have S := sc_is_row
    refine ⟨_, (pss_cons (ps_if (pt_not (pt_val (pe_call GT (hr.mono (by decide)) (by rfl) DT.g DT.F.kp DT.b .nil pass0 (pa_cons (pv 2) (pa_cons pe_int pa_nil))))) (pss_one (ps_ret pe_bl)) pss_nil)
      (pss_cons (ps_asg (pv 2) (pg_tup (by rfl) (pgs_cons (pg_name (i := 3) S.nd rfl (.inl rfl)) (pgs_cons (pg_name (i := 4) S.nd rfl (.inl rfl)) (pgs_cons (pg_name (i := 5) S.nd rfl (.inl rfl)) pgs_nil)))))
      (pss_cons (ps_if (pt_not (PW.pt (pw_and (pt_val (pe_call GD (hr.mono (by decide)) (by rfl) DD.g DD.F.kp DD.b .nil pass0 (pa_cons (pv 3) pa_nil))) (pw_and (pt_val (pe_call GB (hr.mono (by decide)) (by rfl) DB.g DB.F.kp DB.b .nil pass0 (pa_cons (pv 4) (pa_cons (pv 0) pa_nil)))) (pw_and (pt_val (pe_callB call_isi (by rfl) B.m_isinstance PyProof.Rows.boot_isinstance (pa_cons (pv 5) (pa_cons (pe_tyN bt_tuple (by rfl) B.m_tuple) pa_nil)))) (pw_and1 (pt_truth (pv 5) (by intro _; rfl)))))))) (pss_one (ps_ret pe_bl)) pss_nil)
      (pss_cons (ps_if (pt_not (pt_val (pe_callB (cr_all rfl) (by rfl) m_all (by decide +kernel) (pa_cons (pe_lc (own := [("outcome", 6)]) (g := gName 6) (tt := tYes) rfl S.nd (pi_tup (pv 5)) (blkOk_by (own := [("outcome", 6)]) (N := nmRow) (sc := defScope s_is_row) (by decide +kernel)) (fun _ _ _ _ _ => pg_name (i := 6) S.nd rfl (Or.inl rfl)) (fun _ _ _ _ _ => pts_nil)
          (fun _ _ _ _ _ => pe_call GO (hr.mono (by decide)) (by rfl) DO.g DO.F.kp DO.b .nil pass0 (pa_cons (pv 0) (pa_cons (pv 1) (pa_cons (pv 6) pa_nil))))) pa_nil)))) (pss_one (ps_ret pe_bl)) pss_nil)
      (pss_one (ps_ret (pe_call GS (hr.mono (by decide)) (by rfl) DS.g DS.F.kp DS.b .nil pass0 (pa_cons (pe_lc (own := [("answer", 7), ("_", 8)]) (g := gTup K 2 (gCons (gName 7) (gCons (gName 8) gNil))) (tt := tYes) rfl S.nd (pi_tup (pv 5)) (blkOk_by (own := [("answer", 7), ("_", 8)]) (N := nmRow) (sc := defScope s_is_row) (by decide +kernel))
          (fun _ _ _ _ _ => pg_tup (by rfl) (pgs_cons (pg_name (i := 7) S.nd rfl (Or.inl rfl)) (pgs_cons (pg_name (i := 8) S.nd rfl (Or.inl rfl)) pgs_nil))) (fun _ _ _ _ _ => pts_nil) (fun _ _ _ _ _ => pv 7)) pa_nil)))))))), ?_⟩
    have dqO : Dq H (.ref o) (.tuple (os.map fun q => .tuple [.int q.1, .int q.2])) := .tup ho (dq_pairs a)
    dsimp only [tSeq, tIfS, tNot, tB]
    refine (val_call (va_cons (val_var rfl) (va_cons val_c va_nil)) fun Q q => ⟨.ref t, .tuple [.str d, .int wd, .tuple (os.map fun q => .tuple [.int q.1, .int q.2])], 3, rfl, .tup ht (.cons (.str _) (.cons (.int _) (.cons dqO .nil))), q⟩) _ ⟨_, rfl, ?_⟩
    refine iteF ?_
    dsimp only [tNext, tSeq, tAsg]
    refine (val_var rfl) _ ?_
    refine ⟨t, _, rfl, SqT.of ht, rfl, _, _, rfl, _, _, rfl, _, _, rfl, rfl, ?_⟩
    try dsimp only [gName, List.set]
    dsimp only [tSeq, tIfS, tNot, tAnd, tB]
    have e2 : belowV m (.int wd) = true := by
      show (decide ((0 : Int) ≤ (wd : Int)) && decide ((wd : Int) < (m : Int))) = true
      rw [decide_eq_true (by omega), decide_eq_true (by omega)]
      rfl
    refine (val_call (va_cons (val_var rfl) va_nil) fun Q q => ⟨d, rfl, dl, q⟩) _ ⟨_, rfl, ?_⟩
    rw [dd]
    refine iteT ?_
    refine (val_call (va_cons (val_var rfl) (va_cons (val_var rfl) va_nil)) fun Q q => ⟨.int wd, _, m, rfl, .int _, q⟩) _ ⟨_, rfl, ?_⟩
    rw [e2]
    refine iteT ?_
    refine (val_isi (val_var rfl) (Kd.tup ho) kit_tuple.2.2.2.2.2.1) _ ⟨_, rfl, ?_⟩
    refine iteT ?_
    have ne : (!(ts.map V.ref).isEmpty) = true := by
      cases ts with
      | nil =>
        have h1 := a.len
        have h2 := ox.1
        rw [← h1] at h2
        exact absurd h2 (by decide)
      | cons => rfl
    refine (val_var (v := .ref o) rfl) _ ⟨_, truT (SqT.of ho), ?_⟩
    rw [ne]
    refine iteF ?_
    dsimp only [tNext, tSeq, tIfS, tNot, tB, tCB, tCons, tNil, tLc, iTup]
    refine (val_var rfl) _ ⟨o, rfl, ⟨_, SqT.of ho⟩, fun M nM => ?_⟩
    have tl := a.len
    refine lc_tup (xs := ts.map V.ref) (fun j H2 => Same H H2 ∧ H2 M = some (.lst ((List.replicate j true).map V.bl))) ⟨same_upd nM, upd_same⟩ (fun j H2 _ ⟨s2, _⟩ => SqT.of (s2 _ _ ho)) (fun j x H2 hj hI => ?_) fun H2 hI => ?_
    · obtain ⟨s2, hM⟩ := hI
      obtain ⟨t', et, rfl⟩ : ∃ t, ts[j]? = some t ∧ x = .ref t := by
        rw [List.getElem?_map] at hj
        cases e : ts[j]? with
        | none => rw [e] at hj; cases hj
        | some i => rw [e] at hj; exact ⟨i, rfl, (Option.some.inj hj).symm⟩
      obtain ⟨q0, eq, hq⟩ := paired_at j a et
      have jlt := (List.getElem?_eq_some_iff.mp eq).1
      have qb := ox.2.2 q0 (List.mem_of_getElem? eq)
      refine ⟨rfl, ?_⟩
      dsimp only [tYes]
      rw [if_pos rfl]
      refine (val_call (va_cons (val_var rfl) (va_cons (val_var rfl) (va_cons (val_var rfl) va_nil))) fun Q q => ⟨m, n, q0.1, q0.2, t', rfl, s2 _ _ hq, qb.1, qb.2.1, qb.2.2.1, qb.2.2.2, q⟩) _ ?_
      refine ⟨_, hM, by rw [List.length_map, List.length_replicate]; exact Nat.lt_of_lt_of_le (show j < 100 by omega) (by decide), fun b o e => ?_, ?_⟩
      · rw [upd_ne (ne_of_none e nM)]
        exact s2 _ _ e
      · rw [upd_same, List.replicate_succ', List.map_append]
        rfl
    · obtain ⟨s2, hM⟩ := hI
      have al : ∀ n : Nat, (List.replicate n true).all id = true := fun n => by
        rw [List.all_eq_true]
        intro b hb
        rw [(List.mem_replicate.mp hb).2]
        rfl
      refine ⟨M, _, rfl, SqL.of hM, ?_⟩
      rw [al]
      refine ⟨true, rfl, iteF ?_⟩
      dsimp only [tNext, tRet, tCall, tCons, tNil, tLc, iTup]
      refine (val_var rfl) _ ⟨o, rfl, ⟨_, SqT.of (s2 _ _ ho)⟩, fun N nN => ?_⟩
      refine lc_tup (xs := ts.map V.ref) (fun j H3 => Same H2 H3 ∧ H3 N = some (.lst ((os.take j).map fun q => V.int q.1))) ⟨same_upd nN, upd_same⟩ (fun j H3 _ ⟨s3, _⟩ => SqT.of (s3 _ _ (s2 _ _ ho))) (fun j x H3 hj hI => ?_) fun H3 hI => ?_
      · obtain ⟨s3, hN⟩ := hI
        obtain ⟨t', et, rfl⟩ : ∃ t, ts[j]? = some t ∧ x = .ref t := by
          rw [List.getElem?_map] at hj
          cases e : ts[j]? with
          | none => rw [e] at hj; cases hj
          | some i => rw [e] at hj; exact ⟨i, rfl, (Option.some.inj hj).symm⟩
        obtain ⟨q0, eq, hq⟩ := paired_at j a et
        have jlt := (List.getElem?_eq_some_iff.mp eq).1
        refine ⟨t', _, rfl, SqT.of (s3 _ _ (s2 _ _ hq)), rfl, _, _, rfl, _, _, rfl, rfl, ?_⟩
        refine ⟨rfl, ?_⟩
        dsimp only [tYes]
        rw [if_pos rfl]
        refine (val_var rfl) _ ⟨_, hN, by rw [List.length_map, List.length_take]; exact Nat.lt_of_lt_of_le (show min j os.length < 100 by omega) (by decide), fun b o e => ?_, ?_⟩
        · rw [upd_ne (ne_of_none e nN)]
          exact s3 _ _ e
        · rw [upd_same, List.take_add_one, eq, List.map_append]
          rfl
      · obtain ⟨s3, hN⟩ := hI
        rw [List.length_map, tl, List.take_length] at hN
        have dqa : ∀ l : List (Int × Int), DqA H3 (l.map fun q => V.int q.1) (l.map fun q => PyData.int q.1) := fun l => by
          induction l with
          | nil => exact .nil
          | cons q r ih => exact .cons (.int _) ih
        refine ⟨N, _, os.map fun q => PyData.int q.1, rfl, hN, dqa os, ?_, by rw [List.length_map]; omega, fun H' s' => k H' ((s2.trans s3).trans s')⟩
        refine List.pairwise_map.mpr ((List.pairwise_map.mp ox.2.1).imp fun {a b} h => ⟨by simp [PySem.W.alike], (fun e => by cases e), by simp [PyData.depth], by rw [PySem.W.dataLt_int]; exact decide_eq_true h⟩)
end
end K5
namespace K5
open PySem PySem.Spec PyProof.Rows L2
/-! ### errors -/
/-- the error x's class at C, its __init__ at fI -/
structure Er (K : PySem.W.Frag) (mg : Str → Option Value) (x : Str) (C fI : Addr) : Prop where
  O : OexC K C
  g : mg x = some (.ref C)
  iC : PySem.W.findIn K (.ref C) "__init__" = some (some (.ref fI))
  tI : PySem.W.typeIn K (.ref fI) = some (.type "function")
  nv : PySem.W.findIn K (.ref C) "value" = some none
/-- an error of the class at C with this value lies behind H -/
def ErrK (C : Addr) (v : V) (H : Hp) (E : XK) : Prop := ∀ (d : Addr) (H' : Hp), Same H H' → H d = none → H' d = some (.xd [(("value" : Str), v)]) → E (.ref C) (some d) H'
theorem ErrK.mono {C : Addr} {v : V} {H H1 : Hp} {E : XK} (h : ErrK C v H E) (e : Same H H1) : ErrK C v H1 E := fun d H' e2 nd hd => h d H' (e.trans e2) (e.free nd) hd
def spErr (K : PySem.W.Frag) : Sp := fun vs H Q _ => ∃ (a C : Addr) (v : V), vs = [.ref a, v] ∧ OexC K C ∧ PySem.W.findIn K (.ref C) "value" = some none ∧ H a = some (exo a C none) ∧
  ∀ dx, H dx = none → dx ≠ a → Q .non (upd (upd H dx (exd dx [(("value" : Str), v)])) a (exo a C (some dx)))
theorem sc_err : FnScope ["self", "value"] ["self", "value"] (defScope s_err) := ⟨rfl, rfl, rfl, by decide +kernel, rfl, by decide +kernel, by decide +kernel⟩
section
variable {P : Program} {w : World} {K : PySem.W.Frag} {mg : Str → Option Value} {base : Heap}
theorem ok_err {f : Addr} {fd : FuncData} (F : Fun K "__init__" "WireError.__init__" s_err f fd) : FnOk P w K mg base CX0 1 f fd ["self", "value"] (spErr K) := by
  refine F.ok sc_err (fun vs H Q E h => ?_) (fun cdv A outer s H vs Q E hr h => ?_)
  · obtain ⟨a, C, v, rfl, _⟩ := h
    rfl
  · obtain ⟨a, C, v, rfl, T, hn, ha, k⟩ := h
    refine ⟨_, pss_one (ps_ost (pv 0) (pv 1)), ?_⟩
    exact ⟨v, rfl, .ref a, rfl, a, C, rfl, T, hn, .inl ⟨ha, fun dx nd ne => k dx nd ne⟩⟩
end
/-- raise X(e), the value of e known -/
theorem raise_run {K : PySem.W.Frag} {C : Addr} {ta : TE} {σ : L2.St} {H : Hp} {v : V} {Q : XK} (T : OexC K C) (hn : PySem.W.findIn K (.ref C) "value" = some none) (hv : Val ta σ H v) (h : ErrK C v H Q) :
    tMkO C (spErr K) [] (tCons ta tNil) σ H Q := by
  refine hv _ ⟨by show 1 ≤ 1000; decide, fun a na => ?_⟩
  refine ⟨a, C, v, rfl, T, hn, upd_same, fun dx nd ne => ⟨rfl, dx, [(("value" : Str), v)], upd_same, ?_, ?_, ?_⟩⟩
  · rw [upd_ne ne, upd_same]
  · rw [upd_ne ne] at nd
    exact nd
  · have nd' : H dx = none := by
      rw [upd_ne ne] at nd
      exact nd
    refine h dx _ (fun b o e => ?_) nd' upd_same
    have n1 : b ≠ dx := ne_of_none e nd'
    have n2 : b ≠ a := ne_of_none e na
    rw [upd_ne n1, del_ne n2, upd_ne n2, upd_ne n1, upd_ne n2]
    exact e
end K5
namespace K5
open PySem PySem.Spec PyProof.Rows L2
/-! ### is_state of a state -/
def spIsState : Sp := fun vs H Q _ => ∃ (m n : Nat) (p : Addr) (rs : List RwD), vs = [.int m, .int n, .ref p] ∧ StD H p rs ∧ StX m n rs ∧ (∀ r ∈ rs, RowOk r) ∧ rs.length ≤ 12 ∧ ∀ H', Same H H' → Q (.bl true) H'
abbrev nmState : List Str := ["worths", "many", "value", "row"]
theorem sc_is_state : FnScope nmState ["worths", "many", "value"] (defScope s_is_state) := ⟨rfl, rfl, rfl, by decide +kernel, rfl, by decide +kernel, by decide +kernel⟩
theorem all_true : ∀ n : Nat, (List.replicate n true).all id = true := fun n => by
  rw [List.all_eq_true]
  intro b hb
  rw [(List.mem_replicate.mp hb).2]
  rfl
theorem OuAt.same {H H' : Hp} (s : Same H H') {o : Addr} {os : List (Int × Int)} (h : OuAt H o os) : OuAt H' o os := h.mono (TKeep.same s)
section
variable {P : Program} {w : World} {K : PySem.W.Frag} {mg : Str → Option Value} {base : Heap}
theorem ok_is_state {f fR fS : Addr} {fd dR dS : FuncData} (B : Bt mg) (m_all : mg "all" = none) (D : Df K mg "is_state" s_is_state f fd ["worths", "many", "value"]) (DR : Df K mg "is_row" s_is_row fR dR ["worths", "many", "value"]) (GR : FnOk P w K mg base CX0 4 fR dR ["worths", "many", "value"] spIsRow) (DS : Df K mg "ascends" s_ascends fS dS ["rows"]) :
    FnOk P w K mg base CX0 5 f fd ["worths", "many", "value"] spIsState := by
  have GS : FnOk P w K mg base CX0 1 fS dS ["rows"] spAsc := ok_ascends B m_all DS
  refine D.F.ok sc_is_state (fun vs H Q E h => ?_) (fun cdv A outer s H vs Q E hr h => ?_)
  · obtain ⟨m, n, p, rs, rfl, _⟩ := h
    rfl
  · obtain ⟨m, n, p, rs, rfl, hp, hx, ok, few, k⟩ := h
    obtain ⟨ts, h1, h2⟩ := hp
    have S := sc_is_state
    refine ⟨_, (pss_cons (ps_if (PW.pt (pw_or (pt_not (pt_val (pe_callB call_isi (by rfl) B.m_isinstance PyProof.Rows.boot_isinstance (pa_cons (pv 2) (pa_cons (pe_tyN bt_tuple (by rfl) B.m_tuple) pa_nil))))) (pw_or1 (pt_not (pt_val (pe_callB (cr_all rfl) (by rfl) m_all (by decide +kernel) (pa_cons (pe_lc (own := [("row", 3)]) (g := gName 3) (tt := tYes) rfl S.nd (pi_tup (pv 2)) (blkOk_by (own := [("row", 3)]) (N := nmState) (sc := defScope s_is_state) (by decide +kernel)) (fun _ _ _ _ _ => pg_name (i := 3) S.nd rfl (Or.inl rfl)) (fun _ _ _ _ _ => pts_nil)
        (fun _ _ _ _ _ => pe_call GR (hr.mono (by decide)) (by rfl) DR.g DR.F.kp DR.b .nil pass0 (pa_cons (pv 0) (pa_cons (pv 1) (pa_cons (pv 3) pa_nil))))) pa_nil))))))) (pss_one (ps_ret pe_bl)) pss_nil)
      (pss_one (ps_ret (pe_call GS (hr.mono (by decide)) (by rfl) DS.g DS.F.kp DS.b .nil pass0 (pa_cons (pe_lc (own := [("row", 3)]) (g := gName 3) (tt := tYes) rfl S.nd (pi_tup (pv 2)) (blkOk_by (own := [("row", 3)]) (N := nmState) (sc := defScope s_is_state) (by decide +kernel))
        (fun _ _ _ _ _ => pg_name (i := 3) S.nd rfl (Or.inl rfl)) (fun _ _ _ _ _ => pts_nil) (fun _ _ _ _ _ => pe_slice (r := rSlT K) sl_tup (pv 3) po_none (po_some pe_int))) pa_nil))))), ?_⟩
    have tl : ts.length = rs.length := Paired.length h2
    dsimp only [tSeq, tIfS, tOr, tNot, tB]
    refine (val_isi (val_var rfl) (Kd.tup h1) kit_tuple.2.2.2.2.2.1) _ ⟨_, rfl, ?_⟩
    refine iteF ?_
    dsimp only [tCB, tCons, tNil, tLc, iTup]
    refine (val_var rfl) _ ⟨p, rfl, ⟨_, SqT.of h1⟩, fun M nM => ?_⟩
    refine lc_tup (xs := ts.map V.ref) (fun j H2 => Same H H2 ∧ H2 M = some (.lst ((List.replicate j true).map V.bl))) ⟨same_upd nM, upd_same⟩ (fun j H2 _ ⟨s2, _⟩ => SqT.of (s2 _ _ h1)) (fun j x H2 hj hI => ?_) fun H2 hI => ?_
    · obtain ⟨s2, hM⟩ := hI
      obtain ⟨t', et, rfl⟩ : ∃ t, ts[j]? = some t ∧ x = .ref t := by
        rw [List.getElem?_map] at hj
        cases e : ts[j]? with
        | none => rw [e] at hj; cases hj
        | some i => rw [e] at hj; exact ⟨i, rfl, (Option.some.inj hj).symm⟩
      obtain ⟨r0, eq, hq⟩ := paired_at j h2 et
      have jlt := (List.getElem?_eq_some_iff.mp eq).1
      have mem := List.mem_of_getElem? eq
      obtain ⟨xw, xo⟩ := hx.2 r0 mem
      obtain ⟨od, ow, oo⟩ := ok r0 mem
      obtain ⟨o, q1, us, q2, q3⟩ := hq
      refine ⟨rfl, ?_⟩
      dsimp only [tYes]
      rw [if_pos rfl]
      refine (va_cons (val_var rfl) (va_cons (val_var rfl) (va_cons (val_var rfl) va_nil))) _ ⟨m, n, t', o, us, r0.1.1, r0.1.2, r0.2, rfl, s2 _ _ q1, (pool_wd _ od).1, (pool_wd _ od).2, xw, s2 _ _ q2, Paired.mapP q3 fun _ _ e => s2 _ _ e, oo, xo, fun H3 s3 => ?_⟩
      have hM3 := s3 _ _ hM
      refine ⟨_, hM3, by rw [List.length_map, List.length_replicate]; exact Nat.lt_of_lt_of_le (show j < 100 by omega) (by decide), fun b o e => ?_, ?_⟩
      · rw [upd_ne (ne_of_none e nM)]
        exact s3 _ _ (s2 _ _ e)
      · rw [upd_same, List.replicate_succ', List.map_append]
        rfl
    · obtain ⟨s2, hM⟩ := hI
      refine ⟨M, _, rfl, SqL.of hM, ?_⟩
      rw [all_true]
      refine ⟨true, rfl, ?_⟩
      refine iteF ?_
      dsimp only [tNext, tRet, tCall, tCons, tNil, tLc, iTup]
      refine (val_var rfl) _ ⟨p, rfl, ⟨_, SqT.of (s2 _ _ h1)⟩, fun N nN => ?_⟩
      refine lc_tup (xs := ts.map V.ref) (fun j H3 => ∃ us : List Addr, Same H2 H3 ∧ H3 N = some (.lst (us.map V.ref)) ∧ Paired (fun (u : Addr) (r : RwD) => H3 u = some (.tup [.str r.1.1, .int r.1.2])) us (rs.take j)) ⟨[], same_upd nN, upd_same, .nil⟩ (fun j H3 _ ⟨us, s3, _⟩ => SqT.of (s3 _ _ (s2 _ _ h1))) (fun j x H3 hj hI => ?_) fun H3 hI => ?_
      · obtain ⟨us, s3, hN, pu⟩ := hI
        obtain ⟨t', et, rfl⟩ : ∃ t, ts[j]? = some t ∧ x = .ref t := by
          rw [List.getElem?_map] at hj
          cases e : ts[j]? with
          | none => rw [e] at hj; cases hj
          | some i => rw [e] at hj; exact ⟨i, rfl, (Option.some.inj hj).symm⟩
        obtain ⟨r0, eq, hq⟩ := paired_at j h2 et
        have jlt := (List.getElem?_eq_some_iff.mp eq).1
        obtain ⟨o, q1, _⟩ := hq
        refine ⟨rfl, ?_⟩
        dsimp only [tYes]
        rw [if_pos rfl]
        dsimp only [tSl, tNoPart, tPart]
        refine (val_var rfl) _ ?_
        refine val_c _ ⟨2, rfl, ?_⟩
        refine ⟨t', _, rfl, SqT.of (s3 _ _ (s2 _ _ q1)), (fun e => absurd e.2 (show ¬ (HT.sIx 3 3 (some 2) = 3) by decide)), fun u nu => ?_⟩
        have s4 := same_upd (o := .tup (cutV [V.str r0.1.1, V.int r0.1.2, V.ref o] none (some 2))) nu
        have hN4 := s4 _ _ hN
        have ul := Paired.length pu
        have uN : u ≠ N := fun e => by rw [e, hN] at nu; cases nu
        refine ⟨us.map V.ref, hN4, by rw [List.length_map, ul, List.length_take]; exact Nat.lt_of_lt_of_le (show min j rs.length < 100 by omega) (by decide), us ++ [u], fun b o e => ?_, ?_, ?_⟩
        · rw [upd_ne (ne_of_none e nN)]
          exact s4 _ _ (s3 _ _ e)
        · rw [upd_same, List.map_append]
          rfl
        · rw [List.take_add_one, eq]
          have nb : ∀ v xs, H3 v = some (.tup xs) → v ≠ N := fun v xs e c => by rw [c, hN] at e; cases e
          refine paired_app (Paired.mapP pu fun v r e => ?_) ?_
          · rw [upd_ne (nb _ _ e)]
            exact s4 _ _ e
          · rw [upd_ne uN, upd_same]
            rfl
      · obtain ⟨us, s3, hN, pu⟩ := hI
        rw [List.length_map, tl, List.take_length] at pu
        have dqa : ∀ {us : List Addr} {l : List RwD}, Paired (fun (u : Addr) (r : RwD) => H3 u = some (.tup [.str r.1.1, .int r.1.2])) us l → DqA H3 (us.map V.ref) (l.map fun r => encK (keyR r)) := fun h => by
          induction h with
          | nil => exact .nil
          | cons e _ ih => exact .cons (.tup e (.cons (.str _) (.cons (.int _) .nil))) ih
        have ul := Paired.length pu
        refine ⟨N, _, rs.map fun r => encK (keyR r), rfl, hN, dqa pu, ?_, by rw [List.length_map, ul]; omega, fun H' s' => k H' ((s2.trans s3).trans s')⟩
        have ka := keys_asc hx
        refine List.pairwise_map.mpr ((List.pairwise_map.mp ka).imp fun {a b} h => ⟨by simp [encK, PySem.W.alike, PySem.W.alikeAll], (fun e => by cases e), by simp [encK, PyData.depth, PyData.depthAll], klt_data h⟩)
end
end K5
namespace K5
open PySem PySem.Spec PyProof.Rows L2
/-! ### is_pact of a pact -/
structure Mg (mg : Str → Option Value) : Prop where
  m : ∃ t, mg "MOST_STATES" = some (.int 400 t)
def spIsPact : Sp := fun vs H Q _ => ∃ (m : Nat) (p : Addr) (ps : List Addr) (sts : List (List RwD)), vs = [.int m, .ref p] ∧ 2 ≤ m ∧ m ≤ 4 ∧ H p = some (.tup (ps.map V.ref)) ∧ Paired (StD H) ps sts ∧ (∀ s ∈ sts, StX m sts.length s ∧ s.length ≤ 12 ∧ ∀ r ∈ s, RowOk r) ∧ 0 < sts.length ∧ sts.length ≤ 90 ∧ ∀ H', Same H H' → Q (.bl true) H'
abbrev nmIsPact : List Str := ["worths", "value", "state"]
theorem sc_is_pact : FnScope nmIsPact ["worths", "value"] (defScope s_is_pact) := ⟨rfl, rfl, rfl, by decide +kernel, rfl, by decide +kernel, by decide +kernel⟩
section
variable {P : Program} {w : World} {K : PySem.W.Frag} {mg : Str → Option Value} {base : Heap} {CW fE fW fS : Addr} {dE dW dS : FuncData}
theorem ok_is_pact {f : Addr} {fd : FuncData} (B : Bt mg) (m_all : mg "all" = none) (G : Mg mg) (TW : Er K mg "BadWorths" CW fE) (GE : FnOk P w K mg base CX0 1 fE dE ["self", "value"] (spErr K)) (bE : Binds K dE ["self", "value"] [])
    (Dw : Df K mg "is_worths" s_is_worths fW dW ["value"]) (Gw : FnOk P w K mg base CX0 2 fW dW ["value"] spIsWorths) (DS : Df K mg "is_state" s_is_state fS dS ["worths", "many", "value"]) (GS : FnOk P w K mg base CX0 5 fS dS ["worths", "many", "value"] spIsState)
    (D : Df K mg "is_pact" s_is_pact f fd ["worths", "value"]) : FnOk P w K mg base (L2.CX P w) 7 f fd ["worths", "value"] spIsPact := by
  refine D.F.okX sc_is_pact (fun vs H Q E h => ?_) (fun cdv A0 outer s H vs Q E hr h => ?_)
  · obtain ⟨m, p, ps, sts, rfl, _⟩ := h
    rfl
  · obtain ⟨m, p, ps, sts, rfl, m2, m4, hp, pp, ok, l0, l4, k⟩ := h
    have S := sc_is_pact
    obtain ⟨tm, gM⟩ := G.m
    refine ⟨_, (pss_cons (ps_if (pt_not (pt_val (pe_call Gw (hr.mono (by decide)) (by rfl) Dw.g Dw.F.kp Dw.b .nil pass0 (pa_cons (pv 0) pa_nil))))
        (pss_one (ps_raise rfl (takes_of rfl rfl rfl rfl) (pmk_oex TW.O TW.iC TW.tI GE (hr.mono (by decide)) bE .nil pass0 (by rfl) TW.g (pa_cons (pv 0) pa_nil))))
        pss_nil)
      (pss_cons (ps_if (PW.pt (pw_or (pt_not (pt_val (pe_callB call_isi (by rfl) B.m_isinstance PyProof.Rows.boot_isinstance (pa_cons (pv 1) (pa_cons (pe_tyN bt_tuple (by rfl) B.m_tuple) pa_nil))))) (pw_or1 (pt_not (pt_chain op_le op_le pe_int (pe_callB (r := rLenSq K) call_len_seq (by rfl) B.m_len PySem.boot_len (pa_cons (pv 1) pa_nil)) (pe_glob (v := .int 400) (by rfl) gM ⟨_, rfl⟩)))))) (pss_one (ps_ret pe_bl)) pss_nil)
      (pss_one (ps_ret (pe_callB (cr_all rfl) (by rfl) m_all (by decide +kernel) (pa_cons (pe_lc (own := [("state", 2)]) (g := gName 2) (tt := tYes) rfl S.nd (pi_tup (pv 1)) (blkOk_by (own := [("state", 2)]) (N := nmIsPact) (sc := defScope s_is_pact) (by decide +kernel)) (fun _ _ _ _ _ => pg_name (i := 2) S.nd rfl (Or.inl rfl)) (fun _ _ _ _ _ => pts_nil)
        (fun _ _ _ _ _ => pe_call GS (hr.mono (by decide)) (by rfl) DS.g DS.F.kp DS.b .nil pass0 (pa_cons (pv 0) (pa_cons (pe_callB (r := rLenSq K) call_len_seq (by rfl) B.m_len PySem.boot_len (pa_cons (pv 1) pa_nil)) (pa_cons (pv 2) pa_nil))))) pa_nil)))))), ?_⟩
    have pl : ps.length = sts.length := Paired.length pp
    have hw : worthsOk (.int (m : Nat)) = true := by
      show (decide ((2 : Int) ≤ (m : Int)) && decide ((m : Int) ≤ 4)) = true
      rw [decide_eq_true (by omega), decide_eq_true (by omega)]
      rfl
    dsimp only [tSeq, tIfS, tNot, tB]
    refine (val_call (va_cons (val_var rfl) va_nil) fun Q q => ⟨.int m, _, rfl, .int _, q⟩) _ ⟨_, rfl, ?_⟩
    rw [hw]
    refine iteF ?_
    dsimp only [tNext, tSeq, tIfS, tOr, tNot, tB]
    refine (val_isi (val_var rfl) (Kd.tup hp) kit_tuple.2.2.2.2.2.1) _ ⟨_, rfl, ?_⟩
    refine iteF ?_
    refine (val_chain val_c (val_lenT (val_var rfl) (SqT.of hp)) val_c) _ ⟨_, rfl, ?_⟩
    rw [List.length_map, pl, decide_eq_true (show (1 : Int) ≤ (sts.length : Nat) by omega), decide_eq_true (show ((sts.length : Nat) : Int) ≤ 400 by omega)]
    refine iteF ?_
    dsimp only [tNext, tRet, tCB, tCons, tNil, tLc, iTup]
    refine (val_var rfl) _ ⟨p, rfl, ⟨_, SqT.of hp⟩, fun M nM => ?_⟩
    refine lc_tup (xs := ps.map V.ref) (fun j H2 => Same H H2 ∧ H2 M = some (.lst ((List.replicate j true).map V.bl))) ⟨same_upd nM, upd_same⟩ (fun j H2 _ ⟨s2, _⟩ => SqT.of (s2 _ _ hp)) (fun j x H2 hj hI => ?_) fun H2 hI => ?_
    · obtain ⟨s2, hM⟩ := hI
      obtain ⟨t', et, rfl⟩ : ∃ t, ps[j]? = some t ∧ x = .ref t := by
        rw [List.getElem?_map] at hj
        cases e : ps[j]? with
        | none => rw [e] at hj; cases hj
        | some i => rw [e] at hj; exact ⟨i, rfl, (Option.some.inj hj).symm⟩
      obtain ⟨rs, eq, hq⟩ := paired_at j pp et
      have jlt := (List.getElem?_eq_some_iff.mp eq).1
      obtain ⟨o1, o2, o3⟩ := ok rs (List.mem_of_getElem? eq)
      refine ⟨rfl, ?_⟩
      dsimp only [tYes]
      rw [if_pos rfl]
      refine (va_cons (val_var rfl) (va_cons (val_lenT (val_var rfl) (SqT.of (s2 _ _ hp))) (va_cons (val_var rfl) va_nil))) _ ⟨m, sts.length, t', rs, by rw [List.length_map, pl]; all_goals rfl, hq.mono (TKeep.same s2), o1, o3, o2, fun H3 s3 => ?_⟩
      have hM3 := s3 _ _ hM
      refine ⟨_, hM3, by rw [List.length_map, List.length_replicate]; exact Nat.lt_of_lt_of_le (show j < 100 by omega) (by decide), fun b o e => ?_, ?_⟩
      · rw [upd_ne (ne_of_none e nM)]
        exact s3 _ _ (s2 _ _ e)
      · rw [upd_same, List.replicate_succ', List.map_append]
        rfl
    · obtain ⟨s2, hM⟩ := hI
      refine ⟨M, _, rfl, SqL.of hM, ?_⟩
      rw [all_true]
      exact k H2 s2
end
end K5
namespace K5
open PySem PySem.Spec PyProof.Rows L2
/-! ### is_letter, is_word of any value -/
def doorD : PyData → Bool
  | .str z => isDoor z
  | _ => false
def letB : PyData → Bool
  | .tuple [a, b, c] => doorD a && (belowD 4 b && answerD 4 c)
  | _ => false
def wordB : PyData → Bool
  | .tuple ds => ds.all letB
  | _ => false
/-- where a first thing stands, it is a text -/
def Strs0 : PyData → Prop
  | .tuple [a, _, _] => ∃ z, a = .str z ∧ z.length ≤ 10000000
  | _ => True
def spIsLet : Sp := fun vs H Q _ => ∃ (x : V) (d : PyData), vs = [x] ∧ Dq H x d ∧ Strs0 d ∧ Q (.bl (letB d)) H
def spIsWord : Sp := fun vs H Q _ => ∃ (x : V) (d : PyData), vs = [x] ∧ Dq H x d ∧ (∀ ds, d = .tuple ds → ds.length ≤ 100 ∧ ∀ e ∈ ds, Strs0 e) ∧ ∀ H', Same H H' → Q (.bl (wordB d)) H'
theorem sc_is_letter : FnScope ["value"] ["value"] (defScope s_is_letter) := ⟨rfl, rfl, rfl, by decide +kernel, rfl, by decide +kernel, by decide +kernel⟩
abbrev nmWord : List Str := ["value", "letter"]
theorem sc_is_word : FnScope nmWord ["value"] (defScope s_is_word) := ⟨rfl, rfl, rfl, by decide +kernel, rfl, by decide +kernel, by decide +kernel⟩
theorem len_three {ds : List PyData} (h : ds.length = 3) : ∃ a b c, ds = [a, b, c] := by
  match ds, h with
  | [a, b, c], _ => exact ⟨a, b, c, rfl⟩
section
variable {P : Program} {w : World} {K : PySem.W.Frag} {mg : Str → Option Value} {base : Heap}
theorem ok_is_letter {f fT fA fB fI fD fN : Addr} {fd dT dA dB dI dD dN : FuncData} (B : Bt mg) (gM : ∃ t, mg "MOST_WORTHS" = some (.int 4 t)) (D : Df K mg "is_letter" s_is_letter f fd ["value"]) (DT : Df K mg "is_tuple" s_is_tuple fT dT ["value", "size"]) (DA : Df K mg "is_answer" s_is_answer fA dA ["value", "worths"]) (DB : Df K mg "is_below" s_is_below fB dB ["value", "many"]) (DI : Df K mg "is_integer" s_is_integer fI dI ["value"])
    (DD : Df K mg "is_door" s_is_door fD dD ["value"]) (DN : Df K mg "is_name" s_is_name fN dN ["value"]) : FnOk P w K mg base CX0 3 f fd ["value"] spIsLet := by
  have GT : FnOk P w K mg base CX0 1 fT dT ["value", "size"] spIsTupQ := ok_is_tupQ B DT
  have GA : FnOk P w K mg base CX0 2 fA dA ["value", "worths"] spAnswer := ok_is_answer B DA DI
  have GB : FnOk P w K mg base CX0 2 fB dB ["value", "many"] spBelow := ok_is_below B DB DI
  have GD : FnOk P w K mg base CX0 2 fD dD ["value"] spIsDoor := ok_is_door B DD DN
  obtain ⟨tM, gM⟩ := gM
  refine D.F.ok sc_is_letter (fun vs H Q E h => ?_) (fun cdv A outer s H vs Q E hr h => ?_)
  · obtain ⟨x, d, rfl, _⟩ := h
    rfl
  · obtain ⟨x, d, rfl, hx, st, k⟩ := h
    have S := sc_is_letter
    refine ⟨_, (pss_cons (ps_if (pt_not (pt_val (pe_call GT (hr.mono (by decide)) (by rfl) DT.g DT.F.kp DT.b .nil pass0 (pa_cons (pv 0) (pa_cons pe_int pa_nil)))))
        (pss_one (ps_ret pe_bl))
        pss_nil)
      (pss_one (ps_ret (pe_and (pe_call GD (hr.mono (by decide)) (by rfl) DD.g DD.F.kp DD.b .nil pass0 (pa_cons (pe_ix (r := rIxT K) ix_tup (pv 0) pe_int (fun _ _ => rfl)) pa_nil)) (pe_and (pe_call GB (hr.mono (by decide)) (by rfl) DB.g DB.F.kp DB.b .nil pass0 (pa_cons (pe_ix (r := rIxT K) ix_tup (pv 0) pe_int (fun _ _ => rfl)) (pa_cons (pe_glob (v := .int 4) (by rfl) gM ⟨_, rfl⟩) pa_nil))) (pe_one (pe_call GA (hr.mono (by decide)) (by rfl) DA.g DA.F.kp DA.b .nil pass0 (pa_cons (pe_ix (r := rIxT K) ix_tup (pv 0) pe_int (fun _ _ => rfl)) (pa_cons (pe_glob (v := .int 4) (by rfl) gM ⟨_, rfl⟩) pa_nil))))))))), ?_⟩
    dsimp only [tSeq, tIfS, tNot, L2.tB]
    refine (val_call (va_cons (val_var rfl) (va_cons val_c va_nil)) fun Q q => ⟨x, d, 3, rfl, hx, q⟩) _ ⟨_, rfl, ?_⟩
    cases c : isTupN 3 d with
    | false =>
      refine iteT ?_
      have : letB d = false := by
        unfold letB
        split
        · rename_i a b e
          exact absurd c (by show ¬ decide (3 = 3) = false; decide)
        · rfl
      rw [this] at k
      exact k
    | true =>
      refine iteF ?_
      obtain ⟨ds, rfl, hl⟩ := isTupN_eq c
      obtain ⟨d0, d1, d2, rfl⟩ := len_three hl
      obtain ⟨p, xs, rfl, hp, ha⟩ := dq_tup hx
      obtain ⟨x0, xs, rfl, h0, ha⟩ := dqa_cons ha
      obtain ⟨x1, xs, rfl, h1, ha⟩ := dqa_cons ha
      obtain ⟨x2, xs, rfl, h2, ha⟩ := dqa_cons ha
      obtain rfl := dqa_nil ha
      obtain ⟨z, rfl, zl⟩ := st
      have e0 : x0 = .str z := by
        cases h0
        rfl
      subst e0
      have vx : ∀ {σ : L2.St} {j : Nat} {v : V}, σ[0]? = some (some (.ref p)) → ([V.str z, x1, x2] : List V)[j]? = some v → Val (tOp (rIxT K) (tVar 0) (tC (.int (j : Nat)))) σ H v := fun hs hj => val_ixT (val_var hs) val_c (SqT.of hp) (atI_nat hj)
      obtain ⟨T1, k1⟩ := h1.kd
      obtain ⟨T2, k2⟩ := h2.kd
      dsimp only [tNext, tRet]
      have vD : Val (tCall spIsDoor [] E0 (tCons (tOp (rIxT K) (tVar 0) (tC (.int 0))) tNil)) (start ["value"] [.ref p]) H (.bl (doorD (.str z))) := val_call (va_cons (vx (j := 0) rfl rfl) va_nil) fun Q q => ⟨z, rfl, zl, q⟩
      have vB : Val (tCall spBelow [] E0 (tCons (tOp (rIxT K) (tVar 0) (tC (.int 1))) (tCons (tC (.int 4)) tNil))) (start ["value"] [.ref p]) H (.bl (belowD 4 d1)) := by
        have := val_call (sp := spBelow) (E := E0) (va_cons (vx (σ := start ["value"] [.ref p]) (j := 1) rfl rfl) (va_cons (val_c (v := .int 4)) va_nil)) (v := .bl (belowV 4 x1)) fun Q q => ⟨x1, T1, 4, rfl, k1, q⟩
        rwa [dq_below 4 h1] at this
      have vA : Val (tCall spAnswer [] E0 (tCons (tOp (rIxT K) (tVar 0) (tC (.int 2))) (tCons (tC (.int 4)) tNil))) (start ["value"] [.ref p]) H (.bl (answerD 4 d2)) := by
        have := val_call (sp := spAnswer) (E := E0) (va_cons (vx (σ := start ["value"] [.ref p]) (j := 2) rfl rfl) (va_cons (val_c (v := .int 4)) va_nil)) (v := .bl (answerV 4 x2)) fun Q q => ⟨x2, T2, 4, rfl, k2, q⟩
        rwa [dq_answer 4 h2] at this
      exact (val_andV vD fun _ => val_andV vB fun _ => vA) _ k
theorem ok_is_word {f fL : Addr} {fd dL : FuncData} (B : Bt mg) (m_all : mg "all" = none) (D : Df K mg "is_word" s_is_word f fd ["value"]) (DL : Df K mg "is_letter" s_is_letter fL dL ["value"]) (GL : FnOk P w K mg base CX0 3 fL dL ["value"] spIsLet) : FnOk P w K mg base CX0 4 f fd ["value"] spIsWord := by
  refine D.F.ok sc_is_word (fun vs H Q E h => ?_) (fun cdv A outer s H vs Q E hr h => ?_)
  · obtain ⟨x, d, rfl, _⟩ := h
    rfl
  · obtain ⟨x, d, rfl, hx, st, k⟩ := h
    have S := sc_is_word
    refine ⟨_, (pss_one (ps_ret (pe_and (pe_callB call_isi (by rfl) B.m_isinstance PyProof.Rows.boot_isinstance (pa_cons (pv 0) (pa_cons (pe_tyN bt_tuple (by rfl) B.m_tuple) pa_nil))) (pe_one (pe_callB (cr_all rfl) (by rfl) m_all (by decide +kernel) (pa_cons (pe_lc (own := [("letter", 1)]) (g := gName 1) (tt := tYes) rfl S.nd (pi_tup (pv 0)) (blkOk_by (own := [("letter", 1)]) (N := nmWord) (sc := defScope s_is_word) (by decide +kernel)) (fun _ _ _ _ _ => pg_name (i := 1) S.nd rfl (Or.inl rfl)) (fun _ _ _ _ _ => pts_nil) (fun _ _ _ _ _ => (pe_call GL (hr.mono (by decide)) (by rfl) DL.g DL.F.kp DL.b .nil pass0 (pa_cons (pv 1) pa_nil)))) pa_nil)))))), ?_⟩
    dsimp only [tRet]
    refine (val_isTup (val_var rfl) hx) _ ⟨_, rfl, ?_⟩
    cases c : isTupD d with
    | false =>
      refine iteF ?_
      have : wordB d = false := by
        cases d with
        | tuple ds => exact nomatch c
        | _ => rfl
      rw [this] at k
      exact k H (Same.refl _)
    | true =>
      refine iteT ?_
      obtain ⟨ds, rfl⟩ := isTupD_eq c
      obtain ⟨p, xs, rfl, hp, ha⟩ := dq_tup hx
      obtain ⟨few, st⟩ := st ds rfl
      have hl := ha.len
      dsimp only [tCB, tCons, tNil, tLc, iTup]
      refine (val_var rfl) _ ⟨p, rfl, ⟨_, SqT.of hp⟩, fun M nM => ?_⟩
      refine lc_tup (xs := xs) (fun j H2 => Same H H2 ∧ H2 M = some (.lst (((ds.take j).map letB).map V.bl))) ⟨same_upd nM, upd_same⟩ (fun j H2 _ ⟨s2, _⟩ => SqT.of (s2 _ _ hp)) (fun j x H2 hj hI => ?_) fun H2 hI => ?_
      · obtain ⟨s2, hM⟩ := hI
        obtain ⟨e, he, hq⟩ := ha.atV j hj
        have jlt := (List.getElem?_eq_some_iff.mp he).1
        refine ⟨rfl, ?_⟩
        dsimp only [tYes]
        rw [if_pos rfl]
        refine (val_call (va_cons (val_var rfl) va_nil) fun Q q => ⟨x, e, rfl, hq.mono s2, st e (List.mem_of_getElem? he), q⟩) _ ?_
        refine ⟨_, hM, by rw [List.length_map, List.length_map, List.length_take]; exact Nat.lt_of_lt_of_le (show min j ds.length < 100 by omega) (by decide), fun b o z => ?_, ?_⟩
        · rw [upd_ne (ne_of_none z nM)]
          exact s2 _ _ z
        · rw [upd_same, List.take_add_one, he, List.map_append, List.map_append]
          rfl
      · obtain ⟨s2, hM⟩ := hI
        rw [hl, List.take_length] at hM
        refine ⟨M, _, rfl, SqL.of hM, ?_⟩
        rw [List.all_map]
        exact k H2 s2
end
end K5
namespace K5
open PySem PySem.Spec PyProof.Rows L2
/-! ### what a call may bring -/
theorem forV {K : PySem.W.Frag} {σ : L2.St} {H : Hp} {D0 : L2.Ends} {g : TG} {tb : TS} {u : TS} {te : TE} {xs : List V} (Pv : Nat → L2.St → Hp → Prop) (p : Addr)
    (hv : ∀ Q : VK, (∀ H1, H1 p = some (.tup xs) → Same H H1 → Q (.ref p) H1) → te σ H Q)
    (h0 : ∀ H1, Same H H1 → H1 p = some (.tup xs) → Pv 0 σ H1) (hl : ∀ i σ H, i ≤ xs.length → Pv i σ H → SqT K H p xs) (hs : ∀ i x σ H, xs[i]? = some x → Pv i σ H → g x σ H fun σ2 H2 => tb { D0 with nx := Pv (i + 1), ct := Pv (i + 1), bk := u D0 } σ2 H2) (hd : ∀ σ H, Pv xs.length σ H → u D0 σ H) :
    tSeq (tFor (iTup K te) g tb) u D0 σ H := by
  show tFor (iTup K te) g tb { D0 with nx := u D0 } σ H
  unfold tFor iTup
  refine hv _ fun H1 hp s => ?_
  exact ⟨p, rfl, ⟨_, SqT.of hp⟩, for_tup (K := K) (a := p) (xs := xs) (D := { D0 with nx := u D0 }) Pv (h0 H1 s hp) hl hs hd⟩
theorem forT_any {K : PySem.W.Frag} {σ : L2.St} {H : Hp} {D0 : L2.Ends} {g : TG} {tb : TS} {u : TS} {te : TE} (R : Addr → List V → Hp → Prop) (hv : ∀ Q : VK, (∀ p xs H1, H1 p = some (.tup xs) → R p xs H1 → Q (.ref p) H1) → te σ H Q)
    (h : ∀ p xs H1, H1 p = some (.tup xs) → R p xs H1 → ∃ Pv : Nat → L2.St → Hp → Prop, Pv 0 σ H1 ∧ (∀ i σ H, i ≤ xs.length → Pv i σ H → SqT K H p xs) ∧ (∀ i x σ H, xs[i]? = some x → Pv i σ H → g x σ H fun σ2 H2 => tb { D0 with nx := Pv (i + 1), ct := Pv (i + 1), bk := u D0 } σ2 H2) ∧ ∀ σ H, Pv xs.length σ H → u D0 σ H) :
    tSeq (tFor (iTup K te) g tb) u D0 σ H := by
  show tFor (iTup K te) g tb { D0 with nx := u D0 } σ H
  unfold tFor iTup
  refine hv _ fun p xs H1 hp r => ?_
  obtain ⟨Pv, h0, hl, hs, hd⟩ := h p xs H1 hp r
  exact ⟨p, rfl, ⟨_, SqT.of hp⟩, for_tup (K := K) (a := p) (xs := xs) (D := { D0 with nx := u D0 }) Pv h0 hl hs hd⟩
def outsR (rs : List RwD) (d : Str) (w : Int) : List (Int × Int) := match rs.find? fun r => decide (r.1.1 = d) && decide ((r.1.2 : Int) = w) with
  | some r => r.2
  | none => []
def behR (rs : List RwD) (d : Str) (w a : Int) : Option Int := ((outsR rs d w).find? fun o => decide (o.1 = a)).map (·.2)
def optV : Option Int → V
  | some i => .int i
  | none => .non
def spOutsOf : Sp := fun vs H Q _ => ∃ (p : Addr) (rs : List RwD) (d : Str) (w : Int), vs = [.ref p, .str d, .int w] ∧ StD H p rs ∧ ∀ (H' : Hp) (o : Addr), Same H H' → OuAt H' o (outsR rs d w) → Q (.ref o) H'
def spStBeh : Sp := fun vs H Q _ => ∃ (p : Addr) (rs : List RwD) (d : Str) (w a : Int), vs = [.ref p, .str d, .int w, .int a] ∧ StD H p rs ∧ ∀ (H' : Hp), Same H H' → Q (optV (behR rs d w a)) H'
abbrev nmOut : List Str := ["state", "door", "worth", "row"]
theorem sc_outcomes_of : FnScope nmOut ["state", "door", "worth"] (defScope s_outcomes_of) := ⟨rfl, rfl, rfl, by decide +kernel, rfl, by decide +kernel, by decide +kernel⟩
abbrev nmBeh : List Str := ["state", "door", "worth", "answer", "given", "number"]
theorem sc_state_behind : FnScope nmBeh ["state", "door", "worth", "answer"] (defScope s_state_behind) := ⟨rfl, rfl, rfl, by decide +kernel, rfl, by decide +kernel, by decide +kernel⟩
theorem deqS {x y : Str} : decide (V.str x = V.str y) = decide (x = y) := decide_eq_decide.mpr ⟨fun e => by injection e, fun e => by rw [e]⟩
theorem deqI {x y : Int} : decide (V.int x = V.int y) = decide (x = y) := decide_eq_decide.mpr ⟨fun e => by injection e, fun e => by rw [e]⟩
theorem find_no {α : Type} {f : α → Bool} : ∀ {l : List α} {i : Nat} {x : α}, (∀ y ∈ l.take i, f y = false) → l[i]? = some x → f x = true → l.find? f = some x
  | [], _, _, _, h, _ => by cases h
  | y :: l, 0, x, _, h, e => by
    injection h with h
    subst h
    rw [List.find?_cons_of_pos e]
  | y :: l, i + 1, x, n, h, e => by
    have fy : f y = false := n y (by rw [List.take_succ_cons]; exact List.mem_cons_self)
    rw [List.find?_cons_of_neg (by rw [fy]; exact Bool.false_ne_true)]
    exact find_no (fun z hz => n z (by rw [List.take_succ_cons]; exact List.mem_cons_of_mem _ hz)) h e
theorem find_none {α : Type} {f : α → Bool} {l : List α} (h : ∀ y ∈ l.take l.length, f y = false) : l.find? f = none := by
  rw [List.take_length] at h
  exact List.find?_eq_none.mpr fun y hy => by rw [h y hy]; exact Bool.false_ne_true
theorem take_no {α : Type} {f : α → Bool} {l : List α} {i : Nat} {x : α} (h : ∀ y ∈ l.take i, f y = false) (e : l[i]? = some x) (n : f x = false) : ∀ y ∈ l.take (i + 1), f y = false := fun y hy => by
  rw [List.take_add_one, e] at hy
  rcases List.mem_append.mp hy with hy | hy
  · exact h y hy
  · rw [List.mem_singleton.mp hy]
    exact n
section
variable {P : Program} {w : World} {K : PySem.W.Frag} {mg : Str → Option Value} {base : Heap}
theorem ok_outcomes_of {f : Addr} {fd : FuncData} (D : Df K mg "outcomes_of" s_outcomes_of f fd ["state", "door", "worth"]) : FnOk P w K mg base CX0 1 f fd ["state", "door", "worth"] spOutsOf := by
  refine D.F.ok sc_outcomes_of (fun vs H Q E h => ?_) (fun cdv A outer s H vs Q E hr h => ?_)
  · obtain ⟨p, rs, d, w, rfl, _⟩ := h
    rfl
  · obtain ⟨p, rs, d, wt, rfl, st, k⟩ := h
    have S := sc_outcomes_of
    refine ⟨_, (pss_cons (ps_for PassesOwn.never rfl (pi_tup (pv 0)) (pg_name (i := 3) S.nd rfl (.inl rfl))
        (pss_one (ps_if (PW.pt (pw_and (pt_cmpR op_eq (pe_ix (r := rIxT K) ix_tup (pv 3) pe_int (fun _ _ => rfl)) (pv 1) (nomark _)) (pw_and1 (pt_cmpR op_eq (pe_ix (r := rIxT K) ix_tup (pv 3) pe_int (fun _ _ => rfl)) (pv 2) (nomark _)))))
        (pss_one (ps_ret (pe_ix (r := rIxT K) ix_tup (pv 3) pe_int (fun _ _ => rfl))))
        pss_nil)))
      (pss_one (ps_ret (pe_tup pa_nil)))), ?_⟩
    obtain ⟨ts, hp, pr⟩ := id st
    refine forV (xs := ts.map V.ref) (fun i σ H' => Same H H' ∧ (∃ v, σ = [some (.ref p), some (.str d), some (.int wt), v]) ∧ ∀ r ∈ rs.take i, (decide (r.1.1 = d) && decide ((r.1.2 : Int) = wt)) = false) p (fun Q q => (val_var rfl) _ (q H hp (Same.refl _))) ?_ ?_ ?_ ?_
    · exact fun H1 s1 _ => ⟨s1, ⟨none, rfl⟩, fun r hr => by rw [List.take_zero] at hr; cases hr⟩
    · rintro i σ H' _ ⟨s1, _, _⟩
      exact SqT.of (s1 _ _ hp)
    · rintro i x σ H' hx ⟨s1, ⟨v, rfl⟩, no⟩
      obtain ⟨t', et, rfl⟩ : ∃ t, ts[i]? = some t ∧ x = .ref t := by
        rw [List.getElem?_map] at hx
        cases e : ts[i]? with
        | none => rw [e] at hx; cases hx
        | some i => rw [e] at hx; exact ⟨i, rfl, (Option.some.inj hx).symm⟩
      obtain ⟨r0, eq, o, ht, ho⟩ := paired_at i pr et
      have ht := s1 _ _ ht
      dsimp only [gName, tIfS, tAnd, tTest]
      refine (val_op (z := .bl (decide (r0.1.1 = d))) (val_ixT (val_var rfl) val_c (SqT.of ht) (atI_nat (j := 0) rfl)) (val_var rfl) fun Q q => ⟨rfl, by rw [deqS]; exact q⟩) _ ⟨_, rfl, ?_⟩
      cases c1 : decide (r0.1.1 = d) with
      | false =>
        refine iteF (iteF ?_)
        exact ⟨s1, ⟨_, rfl⟩, take_no no eq (by rw [c1]; rfl)⟩
      | true =>
        refine iteT ?_
        refine (val_op (z := .bl (decide ((r0.1.2 : Int) = wt))) (val_ixT (val_var rfl) val_c (SqT.of ht) (atI_nat (j := 1) rfl)) (val_var rfl) fun Q q => ⟨rfl, by rw [deqI]; exact q⟩) _ ⟨_, rfl, ?_⟩
        cases c2 : decide ((r0.1.2 : Int) = wt) with
        | false =>
          refine iteF ?_
          exact ⟨s1, ⟨_, rfl⟩, take_no no eq (by rw [c1, c2]; rfl)⟩
        | true =>
          refine iteT ?_
          dsimp only [tRet]
          refine (val_ixT (val_var rfl) val_c (SqT.of ht) (atI_nat (j := 2) rfl)) _ (k H' o s1 ?_)
          have : outsR rs d wt = r0.2 := by
            unfold outsR
            rw [find_no no eq (by rw [c1, c2]; rfl)]
          rw [this]
          exact ho.mono (TKeep.same s1)
    · rintro σ H' ⟨s1, ⟨v, rfl⟩, no⟩
      have len := Paired.length pr
      rw [List.length_map, len] at no
      dsimp only [tRet, tTup, tNil]
      refine ⟨Nat.zero_le _, fun t nt => k _ t (s1.trans (same_upd nt)) ?_⟩
      have : outsR rs d wt = [] := by
        unfold outsR
        rw [find_none no]
      rw [this]
      exact ⟨[], upd_same, .nil⟩
theorem ok_state_behind {f fO : Addr} {fd dO : FuncData} (D : Df K mg "state_behind" s_state_behind f fd ["state", "door", "worth", "answer"]) (DO : Df K mg "outcomes_of" s_outcomes_of fO dO ["state", "door", "worth"]) : FnOk P w K mg base CX0 2 f fd ["state", "door", "worth", "answer"] spStBeh := by
  have GO : FnOk P w K mg base CX0 1 fO dO ["state", "door", "worth"] spOutsOf := ok_outcomes_of DO
  refine D.F.ok sc_state_behind (fun vs H Q E h => ?_) (fun cdv A outer s H vs Q E hr h => ?_)
  · obtain ⟨p, rs, d, w, a, rfl, _⟩ := h
    rfl
  · obtain ⟨p, rs, d, wt, a, rfl, st, k⟩ := h
    have S := sc_state_behind
    refine ⟨_, (pss_cons (ps_for PassesOwn.never rfl (pi_tup (pe_call GO (hr.mono (by decide)) (by rfl) DO.g DO.F.kp DO.b .nil pass0 (pa_cons (pv 0) (pa_cons (pv 1) (pa_cons (pv 2) pa_nil))))) (pg_tup (by rfl) (pgs_cons (pg_name (i := 4) S.nd rfl (.inl rfl)) (pgs_cons (pg_name (i := 5) S.nd rfl (.inl rfl)) pgs_nil)))
        (pss_one (ps_if (pt_cmpR op_eq (pv 4) (pv 3) (nomark _))
        (pss_one (ps_ret (pv 5)))
        pss_nil)))
      (pss_one (ps_ret pe_non))), ?_⟩
    refine forT_any (fun o xs H1 => Same H H1 ∧ ∃ ts : List Addr, xs = ts.map V.ref ∧ OsAt H1 ts (outsR rs d wt)) (fun Q kq => ?_) (fun o xs H1 hp h1 => ?_)
    · dsimp only [tCall, tCons, tNil]
      refine (val_var rfl) _ ((val_var rfl) _ ((val_var rfl) _ ⟨p, rs, d, wt, rfl, st, fun H1 o s1 ho => ?_⟩))
      obtain ⟨ts, hp, pr⟩ := ho
      exact kq o _ H1 hp ⟨s1, ts, rfl, pr⟩
    obtain ⟨s1, ts, rfl, pr⟩ := h1
    have len := Paired.length pr
    refine ⟨fun i σ H' => Same H1 H' ∧ (∃ v u, σ = [some (.ref p), some (.str d), some (.int wt), some (.int a), v, u]) ∧ ∀ r ∈ (outsR rs d wt).take i, decide (r.1 = a) = false, ⟨Same.refl _, ⟨none, none, rfl⟩, fun r hr => by rw [List.take_zero] at hr; cases hr⟩, ?_, ?_, ?_⟩
    · rintro i σ H' _ ⟨s2, _, _⟩
      exact SqT.of (s2 _ _ hp)
    · rintro i x σ H' hx ⟨s2, ⟨v, u, rfl⟩, no⟩
      obtain ⟨t', et, rfl⟩ : ∃ t, ts[i]? = some t ∧ x = .ref t := by
        rw [List.getElem?_map] at hx
        cases e : ts[i]? with
        | none => rw [e] at hx; cases hx
        | some i => rw [e] at hx; exact ⟨i, rfl, (Option.some.inj hx).symm⟩
      obtain ⟨o0, eq, ht⟩ := paired_at i pr et
      refine ⟨t', _, rfl, SqT.of (s2 _ _ ht), rfl, _, _, rfl, _, _, rfl, rfl, ?_⟩
      dsimp only [gName, tIfS, tTest]
      refine (val_op (z := .bl (decide (o0.1 = a))) (val_var (v := .int o0.1) rfl) (val_var rfl) fun Q q => ⟨rfl, by rw [deqI]; exact q⟩) _ ⟨_, rfl, ?_⟩
      cases c1 : decide (o0.1 = a) with
      | false =>
        refine iteF ?_
        exact ⟨s2, ⟨_, _, rfl⟩, take_no no eq c1⟩
      | true =>
        refine iteT ?_
        dsimp only [tRet]
        refine (val_var (v := .int o0.2) rfl) _ ?_
        have : behR rs d wt a = some o0.2 := by
          unfold behR
          rw [find_no no eq c1]
          rfl
        have kk := k H' (s1.trans s2)
        rw [this] at kk
        exact kk
    · rintro σ H' ⟨s2, ⟨v, u, rfl⟩, no⟩
      rw [List.length_map, len] at no
      dsimp only [tRet]
      have : behR rs d wt a = none := by
        unfold behR
        rw [find_none no]
        rfl
      have kk := k H' (s1.trans s2)
      rw [this] at kk
      exact val_c _ kk
end
end K5
namespace K5
open PySem PySem.Spec PyProof.Rows L2
/-! ### the letters of a state -/
theorem itt_w {K : PySem.W.Frag} {a : Addr} {xs : List V} {body : V → Hp → (Hp → Prop) → Prop} {Qd : Hp → Prop} {H1 : Hp} (Pv : Nat → Hp → Prop) (h0 : Pv 0 H1) (hl : ∀ i H, i ≤ xs.length → Pv i H → SqT K H a xs)
    (hs : ∀ i x H, xs[i]? = some x → Pv i H → body x H fun H' => Pv (i + 1) H') (hd : ∀ H, Pv xs.length H → Qd H) :
    ∃ W : Nat → Nat → Hp → Prop, (∃ m, W 0 m H1) ∧ ∀ i m H, W i m H →
      ((Itt K a).stop i H ∧ Qd H) ∨ ((Itt K a).go i H ∧ ∃ Nx : Hp → Prop, (∀ H', Nx H' → ∃ m', m' < m ∧ W (i + 1) m' H') ∧ ∀ x H', (Itt K a).yld i H x H' → body x H' Nx) := by
  refine ⟨fun i m H => m = xs.length - i ∧ i ≤ xs.length ∧ Pv i H, ⟨xs.length, by simp, Nat.zero_le _, h0⟩, ?_⟩
  rintro i m H ⟨rfl, hi, p⟩
  have q := hl i H hi p
  by_cases hlt : i < xs.length
  · refine .inr ⟨⟨xs, xs[i], q, by simp [hlt]⟩, Pv (i + 1), fun H' p' => ⟨xs.length - (i + 1), by omega, rfl, hlt, p'⟩, fun x H' y => ?_⟩
    obtain ⟨e, y⟩ := y
    subst e
    exact hs i x _ (y xs q) p
  · have e : i = xs.length := by omega
    subst e
    exact .inl ⟨⟨xs, q, Nat.le_refl _⟩, hd H p⟩
/-- a letter: door, worth, answer -/
abbrev Lt := (Str × Nat) × Int
def LtAt (H : Hp) (l : Addr) (x : Lt) : Prop := H l = some (.tup [.str x.1.1, .int x.1.2, .int x.2])
/-- a letter and the next state -/
def LnAt (H : Hp) (t : Addr) (e : Lt × Int) : Prop := ∃ l, H t = some (.tup [.ref l, .int e.2]) ∧ LtAt H l e.1
theorem LnAt.mono {H H' : Hp} (k : TKeep H H') {t : Addr} {e : Lt × Int} (h : LnAt H t e) : LnAt H' t e := by
  obtain ⟨l, h1, h2⟩ := h
  exact ⟨l, k _ _ h1, k _ _ h2⟩
def letR (r : RwD) : List (Lt × Int) := r.2.map fun o => ((r.1, o.1), o.2)
def letsR (rs : List RwD) : List (Lt × Int) := rs.flatMap letR
theorem lets_snoc {rs : List RwD} {i : Nat} {r : RwD} (e : rs[i]? = some r) : letsR (rs.take (i + 1)) = letsR (rs.take i) ++ letR r := by
  rw [List.take_add_one, e]
  unfold letsR
  rw [Option.toList_some, List.flatMap_append, List.flatMap_singleton]
def spLetters : Sp := fun vs H Q _ => ∃ (p : Addr) (rs : List RwD), vs = [.ref p] ∧ StD H p rs ∧ rs.length ≤ 12 ∧ (∀ r ∈ rs, r.2.length ≤ 6) ∧
  ∀ (H' : Hp) (M : Addr) (ts : List Addr), Same H H' → H M = none → H' M = some (.lst (ts.map V.ref)) → Paired (LnAt H') ts (letsR rs) → Q (.ref M) H'
abbrev nmLets : List Str := ["state", "door", "worth", "outcomes", "answer", "number"]
theorem sc_letters_of : FnScope nmLets ["state"] (defScope s_letters_of) := ⟨rfl, rfl, rfl, by decide +kernel, rfl, by decide +kernel, by decide +kernel⟩
theorem lets_few {rs : List RwD} (h : ∀ r ∈ rs, r.2.length ≤ 6) : (letsR rs).length ≤ 6 * rs.length := by
  induction rs with
  | nil => exact Nat.le_refl _
  | cons r rs ih =>
    have h1 := ih fun x hx => h x (List.mem_cons_of_mem _ hx)
    have h2 := h r List.mem_cons_self
    show (letR r ++ letsR rs).length ≤ _
    rw [List.length_append, List.length_cons]
    unfold letR
    rw [List.length_map]
    omega
section
variable {P : Program} {w : World} {K : PySem.W.Frag} {mg : Str → Option Value} {base : Heap}
theorem ok_letters_of {f : Addr} {fd : FuncData} (D : Df K mg "letters_of" s_letters_of f fd ["state"]) : FnOk P w K mg base CX0 1 f fd ["state"] spLetters := by
  refine D.F.ok sc_letters_of (fun vs H Q E h => ?_) (fun cdv A outer s H vs Q E hr h => ?_)
  · obtain ⟨p, rs, rfl, _⟩ := h
    rfl
  · obtain ⟨p, rs, rfl, st, rl, ol, k⟩ := h
    have S := sc_letters_of
    refine ⟨_, (pss_one (ps_ret (pe_lc2 (own := [("door", 1), ("worth", 2), ("outcomes", 3), ("answer", 4), ("number", 5)]) (vs1 := [4, 5]) (wi1 := iTup K (tVar 3)) (g := (gTup K 3 (gCons (gName 1) (gCons (gName 2) (gCons (gName 3) gNil))))) (tt := tYes) (g1 := (gTup K 2 (gCons (gName 4) (gCons (gName 5) gNil)))) (tt1 := tYes) rfl S.nd (pi_tup (pv 0)) (blkOk_by (own := [("door", 1), ("worth", 2), ("outcomes", 3), ("answer", 4), ("number", 5)]) (N := nmLets) (sc := defScope s_letters_of) (by decide +kernel)) (by decide) (fun _ _ _ _ _ => (pg_tup (by rfl) (pgs_cons (pg_name (i := 1) S.nd rfl (Or.inl rfl)) (pgs_cons (pg_name (i := 2) S.nd rfl (Or.inl rfl)) (pgs_cons (pg_name (i := 3) S.nd rfl (Or.inl rfl)) pgs_nil))))) (fun _ _ _ _ _ => pts_nil) (fun _ _ _ _ _ => (pi_tup (pv 3))) (fun _ _ _ _ _ => (pg_tup (by rfl) (pgs_cons (pg_name (i := 4) S.nd rfl (Or.inl rfl)) (pgs_cons (pg_name (i := 5) S.nd rfl (Or.inl rfl)) pgs_nil)))) (fun _ _ _ _ _ => pts_nil) (fun _ _ _ _ _ => (pe_tup (pa_cons (pe_tup (pa_cons (pv 1) (pa_cons (pv 2) (pa_cons (pv 4) pa_nil)))) (pa_cons (pv 5) pa_nil))))))), ?_⟩
    obtain ⟨ts, hp, pr⟩ := id st
    have len := Paired.length pr
    show tLc2 _ _ _ _ _ _ _ _ _ _ _ _
    unfold tLc2
    dsimp only [iTup]
    refine (val_var rfl) _ ⟨p, rfl, ⟨_, SqT.of hp⟩, fun M nM => ?_⟩
    refine itt_w (xs := ts.map V.ref) (fun i H' => ∃ ls : List Addr, Same H H' ∧ H' M = some (.lst (ls.map V.ref)) ∧ Paired (LnAt H') ls (letsR (rs.take i))) ⟨[], same_upd nM, upd_same, .nil⟩ (fun i H' _ ⟨_, s1, _⟩ => SqT.of (s1 _ _ hp)) (fun i x H' hx hI => ?_) fun H' hI => ?_
    · obtain ⟨ls, s1, hM, pl⟩ := hI
      obtain ⟨t', et, rfl⟩ : ∃ t, ts[i]? = some t ∧ x = .ref t := by
        rw [List.getElem?_map] at hx
        cases e : ts[i]? with
        | none => rw [e] at hx; cases hx
        | some i => rw [e] at hx; exact ⟨i, rfl, (Option.some.inj hx).symm⟩
      obtain ⟨r0, eq, o, ht, us, ho, po⟩ := paired_at i pr et
      have leno := Paired.length po
      refine ⟨t', _, rfl, SqT.of (s1 _ _ ht), rfl, _, _, rfl, _, _, rfl, _, _, rfl, rfl, rfl, ?_⟩
      try dsimp only [tYes]
      rw [if_pos rfl]
      try dsimp only [iTup]
      refine (val_var rfl) _ ⟨o, rfl, ⟨_, SqT.of (s1 _ _ ho)⟩, ?_⟩
      refine itt_w (xs := us.map V.ref) (fun j H2 => ∃ ls : List Addr, Same H H2 ∧ H2 M = some (.lst (ls.map V.ref)) ∧ Paired (LnAt H2) ls (letsR (rs.take i) ++ (letR r0).take j)) ⟨ls, s1, hM, by rw [List.take_zero, List.append_nil]; exact pl⟩ (fun j H2 _ ⟨_, s2, _⟩ => SqT.of (s2 _ _ ho)) (fun j y H2 hy hJ => ?_) fun H2 hJ => ?_
      · obtain ⟨ls2, s2, hM2, pl2⟩ := hJ
        obtain ⟨t2, et2, rfl⟩ : ∃ t, us[j]? = some t ∧ y = .ref t := by
          rw [List.getElem?_map] at hy
          cases e : us[j]? with
          | none => rw [e] at hy; cases hy
          | some i => rw [e] at hy; exact ⟨i, rfl, (Option.some.inj hy).symm⟩
        obtain ⟨o0, eq2, ht2⟩ := paired_at j po et2
        refine ⟨t2, _, rfl, SqT.of (s2 _ _ ht2), rfl, _, _, rfl, _, _, rfl, rfl, rfl, ?_⟩
        rw [if_pos rfl]
        dsimp only [tTup, tCons, tNil]
        refine (val_var (v := .str r0.1.1) rfl) _ ((val_var (v := .int r0.1.2) rfl) _ ((val_var (v := .int o0.1) rfl) _ ⟨by show 3 ≤ sizeLine; decide, fun l nl => (val_var (v := .int o0.2) rfl) _ ⟨by show 2 ≤ sizeLine; decide, fun t3 n3 => ?_⟩⟩))
        have s3 := same_upd (o := .tup [.str r0.1.1, .int r0.1.2, .int o0.1]) nl
        have s4 := same_upd (o := .tup [.ref l, .int o0.2]) n3
        have hM4 := s4 _ _ (s3 _ _ hM2)
        have lenls := Paired.length pl2
        have t3M : t3 ≠ M := fun e => by
          rw [e, s3 _ _ hM2] at n3
          cases n3
        have lM : l ≠ M := fun e => by
          rw [e, hM2] at nl
          cases nl
        have tk : TKeep (upd (upd H2 l (.tup [.str r0.1.1, .int r0.1.2, .int o0.1])) t3 (.tup [.ref l, .int o0.2])) (upd (upd (upd H2 l (.tup [.str r0.1.1, .int r0.1.2, .int o0.1])) t3 (.tup [.ref l, .int o0.2])) M (.lst (ls2.map V.ref ++ [.ref t3]))) := fun b zs e => by
          rw [upd_ne (fun z => by rw [z, hM4] at e; cases e)]
          exact e
        refine ⟨_, hM4, ?_, ls2 ++ [t3], fun b oo e => ?_, ?_, ?_⟩
        · rw [List.length_map, lenls, List.length_append, List.length_take]
          have q1 := lets_few (rs := rs.take i) fun r hr => ol r (List.mem_of_mem_take hr)
          have q2 : (rs.take i).length ≤ 12 := by rw [List.length_take]; omega
          have q3 : (letR r0).length ≤ 6 := by
            unfold letR
            rw [List.length_map]
            exact ol r0 (List.mem_of_getElem? eq)
          exact Nat.lt_of_lt_of_le (show _ < 100 by omega) (by decide)
        · rw [upd_ne (ne_of_none e nM)]
          exact s4 _ _ (s3 _ _ (s2 _ _ e))
        · rw [upd_same, List.map_append]
          rfl
        · have er : (letR r0)[j]? = some ((r0.1, o0.1), o0.2) := by
            unfold letR
            rw [List.getElem?_map, eq2]
            rfl
          rw [List.take_add_one, er, ← List.append_assoc]
          refine paired_app (Paired.mapP pl2 fun t e h => (h.mono (TKeep.same (s3.trans s4))).mono tk) ⟨l, ?_, ?_⟩
          · rw [upd_ne t3M]
            exact upd_same
          · show upd _ M _ l = _
            rw [upd_ne lM]
            exact s4 _ _ upd_same
      · obtain ⟨ls2, s2, hM2, pl2⟩ := hJ
        have e : (letR r0).take (us.map V.ref).length = letR r0 := by
          rw [List.take_of_length_le]
          unfold letR
          rw [List.length_map, List.length_map]
          omega
        rw [e, ← lets_snoc eq] at pl2
        exact ⟨ls2, s2, hM2, pl2⟩
    · obtain ⟨ls, s1, hM, pl⟩ := hI
      rw [List.length_map, len, List.take_length] at pl
      exact k H' M ls s1 nM hM pl
end
end K5
namespace K5
open PySem PySem.Spec PyProof.Rows L2
/-! ### what is no pact; a pact or none -/
theorem ok_or {P : Program} {w : World} {K : PySem.W.Frag} {mg : Str → Option Value} {base : Heap} {CX : CXT} {k : Nat} {f : Addr} {fd : FuncData} {ps : List Str} {s1 s2 : Sp} (F : FnOk P w K mg base CX k f fd ps s1) (G : FnOk P w K mg base CX k f fd ps s2) : FnOk P w K mg base CX k f fd ps fun vs H Q E => s1 vs H Q E ∨ s2 vs H Q E :=
  ⟨fun vs H Q E h => h.elim (F.len vs H Q E) (G.len vs H Q E), fun A outer s H args us vs Q E hr he hb hv h => h.elim (F.run A outer s H args us vs Q E hr he hb hv) (G.run A outer s H args us vs Q E hr he hb hv)⟩
def PcAt (H : Hp) (p : Addr) (sts : List (List RwD)) : Prop := ∃ ps : List Addr, H p = some (.tup (ps.map V.ref)) ∧ Paired (StD H) ps sts
theorem PcAt.mono {H H' : Hp} (k : TKeep H H') {p : Addr} {sts : List (List RwD)} (h : PcAt H p sts) : PcAt H' p sts := by
  obtain ⟨ps, h1, h2⟩ := h
  exact ⟨ps, k _ _ h1, Paired.mapP h2 fun _ _ e => e.mono k⟩
structure PcX (sts : List (List RwD)) : Prop where
  ok : ∀ s ∈ sts, StX 4 sts.length s ∧ s.length ≤ 12 ∧ ∀ r ∈ s, RowOk r
  l0 : 0 < sts.length
  l1 : sts.length ≤ 90
def oddP : PyData → Bool
  | .tuple [] => true
  | .tuple [.int _] => true
  | .tuple _ => false
  | _ => true
def spState0 : Sp := fun vs H Q _ => ∃ (m n : Int) (x : V) (d : PyData), vs = [.int m, .int n, x] ∧ Dq H x d ∧ isTupD d = false ∧ Q (.bl false) H
def spPact0 : Sp := fun vs H Q _ => ∃ (x : V) (d : PyData), vs = [.int 4, x] ∧ Dq H x d ∧ oddP d = true ∧ ∀ H', Same H H' → Q (.bl false) H'
def spPactQ : Sp := fun vs H Q _ => (∃ (p : Addr) (sts : List (List RwD)), vs = [.int 4, .ref p] ∧ PcAt H p sts ∧ PcX sts ∧ ∀ H', Same H H' → Q (.bl true) H') ∨ ∃ (x : V) (d : PyData), vs = [.int 4, x] ∧ Dq H x d ∧ oddP d = true ∧ ∀ H', Same H H' → Q (.bl false) H'
section
variable {P : Program} {w : World} {K : PySem.W.Frag} {mg : Str → Option Value} {base : Heap} {CW fE fW fS : Addr} {dE dW dS : FuncData}
theorem ok_is_state0 {f fR fS : Addr} {fd dR dS : FuncData} (B : Bt mg) (m_all : mg "all" = none) (D : Df K mg "is_state" s_is_state f fd ["worths", "many", "value"]) (DR : Df K mg "is_row" s_is_row fR dR ["worths", "many", "value"]) (GR : FnOk P w K mg base CX0 4 fR dR ["worths", "many", "value"] spIsRow) (DS : Df K mg "ascends" s_ascends fS dS ["rows"]) :
    FnOk P w K mg base CX0 5 f fd ["worths", "many", "value"] spState0 := by
  have GS : FnOk P w K mg base CX0 1 fS dS ["rows"] spAsc := ok_ascends B m_all DS
  refine D.F.ok sc_is_state (fun vs H Q E h => ?_) (fun cdv A outer s H vs Q E hr h => ?_)
  · obtain ⟨m, n, x, d, rfl, _⟩ := h
    rfl
  · obtain ⟨m, n, x, d, rfl, hx, c, k⟩ := h
    have S := sc_is_state
    refine ⟨_, (pss_cons (ps_if (PW.pt (pw_or (pt_not (pt_val (pe_callB call_isi (by rfl) B.m_isinstance PyProof.Rows.boot_isinstance (pa_cons (pv 2) (pa_cons (pe_tyN bt_tuple (by rfl) B.m_tuple) pa_nil))))) (pw_or1 (pt_not (pt_val (pe_callB (cr_all rfl) (by rfl) m_all (by decide +kernel) (pa_cons (pe_lc (own := [("row", 3)]) (g := gName 3) (tt := tYes) rfl S.nd (pi_tup (pv 2)) (blkOk_by (own := [("row", 3)]) (N := nmState) (sc := defScope s_is_state) (by decide +kernel)) (fun _ _ _ _ _ => pg_name (i := 3) S.nd rfl (Or.inl rfl)) (fun _ _ _ _ _ => pts_nil)
        (fun _ _ _ _ _ => pe_call GR (hr.mono (by decide)) (by rfl) DR.g DR.F.kp DR.b .nil pass0 (pa_cons (pv 0) (pa_cons (pv 1) (pa_cons (pv 3) pa_nil))))) pa_nil))))))) (pss_one (ps_ret pe_bl)) pss_nil)
      (pss_one (ps_ret (pe_call GS (hr.mono (by decide)) (by rfl) DS.g DS.F.kp DS.b .nil pass0 (pa_cons (pe_lc (own := [("row", 3)]) (g := gName 3) (tt := tYes) rfl S.nd (pi_tup (pv 2)) (blkOk_by (own := [("row", 3)]) (N := nmState) (sc := defScope s_is_state) (by decide +kernel))
        (fun _ _ _ _ _ => pg_name (i := 3) S.nd rfl (Or.inl rfl)) (fun _ _ _ _ _ => pts_nil) (fun _ _ _ _ _ => pe_slice (r := rSlT K) sl_tup (pv 3) po_none (po_some pe_int))) pa_nil))))), ?_⟩
    dsimp only [tSeq, tIfS, tOr, tNot, L2.tB]
    refine (val_isTup (val_var rfl) hx) _ ⟨_, rfl, ?_⟩
    rw [c]
    exact iteT (iteT k)
theorem ok_is_pact0 {f : Addr} {fd : FuncData} (B : Bt mg) (m_all : mg "all" = none) (G : Mg mg) (TW : Er K mg "BadWorths" CW fE) (GE : FnOk P w K mg base CX0 1 fE dE ["self", "value"] (spErr K)) (bE : Binds K dE ["self", "value"] [])
    (Dw : Df K mg "is_worths" s_is_worths fW dW ["value"]) (Gw : FnOk P w K mg base CX0 2 fW dW ["value"] spIsWorths) (DS : Df K mg "is_state" s_is_state fS dS ["worths", "many", "value"]) (GS : FnOk P w K mg base CX0 5 fS dS ["worths", "many", "value"] spState0)
    (D : Df K mg "is_pact" s_is_pact f fd ["worths", "value"]) : FnOk P w K mg base (L2.CX P w) 7 f fd ["worths", "value"] spPact0 := by
  refine D.F.okX sc_is_pact (fun vs H Q E h => ?_) (fun cdv A0 outer s H vs Q E hr h => ?_)
  · obtain ⟨x, d, rfl, _⟩ := h
    rfl
  · obtain ⟨x, d, rfl, hx, odd, k⟩ := h
    have S := sc_is_pact
    obtain ⟨tm, gM⟩ := G.m
    refine ⟨_, (pss_cons (ps_if (pt_not (pt_val (pe_call Gw (hr.mono (by decide)) (by rfl) Dw.g Dw.F.kp Dw.b .nil pass0 (pa_cons (pv 0) pa_nil))))
        (pss_one (ps_raise rfl (takes_of rfl rfl rfl rfl) (pmk_oex TW.O TW.iC TW.tI GE (hr.mono (by decide)) bE .nil pass0 (by rfl) TW.g (pa_cons (pv 0) pa_nil))))
        pss_nil)
      (pss_cons (ps_if (PW.pt (pw_or (pt_not (pt_val (pe_callB call_isi (by rfl) B.m_isinstance PyProof.Rows.boot_isinstance (pa_cons (pv 1) (pa_cons (pe_tyN bt_tuple (by rfl) B.m_tuple) pa_nil))))) (pw_or1 (pt_not (pt_chain op_le op_le pe_int (pe_callB (r := rLenSq K) call_len_seq (by rfl) B.m_len PySem.boot_len (pa_cons (pv 1) pa_nil)) (pe_glob (v := .int 400) (by rfl) gM ⟨_, rfl⟩)))))) (pss_one (ps_ret pe_bl)) pss_nil)
      (pss_one (ps_ret (pe_callB (cr_all rfl) (by rfl) m_all (by decide +kernel) (pa_cons (pe_lc (own := [("state", 2)]) (g := gName 2) (tt := tYes) rfl S.nd (pi_tup (pv 1)) (blkOk_by (own := [("state", 2)]) (N := nmIsPact) (sc := defScope s_is_pact) (by decide +kernel)) (fun _ _ _ _ _ => pg_name (i := 2) S.nd rfl (Or.inl rfl)) (fun _ _ _ _ _ => pts_nil)
        (fun _ _ _ _ _ => pe_call GS (hr.mono (by decide)) (by rfl) DS.g DS.F.kp DS.b .nil pass0 (pa_cons (pv 0) (pa_cons (pe_callB (r := rLenSq K) call_len_seq (by rfl) B.m_len PySem.boot_len (pa_cons (pv 1) pa_nil)) (pa_cons (pv 2) pa_nil))))) pa_nil)))))), ?_⟩
    dsimp only [tSeq, tIfS, tNot, L2.tB]
    refine (val_call (va_cons (val_var rfl) va_nil) fun Q q => ⟨.int 4, _, rfl, .int _, q⟩) _ ⟨_, rfl, ?_⟩
    rw [show worthsOk (.int 4) = true by decide]
    refine iteF ?_
    dsimp only [tNext, tSeq, tIfS, tOr, tNot, L2.tB]
    refine (val_isTup (val_var rfl) hx) _ ⟨_, rfl, ?_⟩
    cases c : isTupD d with
    | false => exact iteT (iteT (k H (Same.refl _)))
    | true =>
      refine iteF ?_
      obtain ⟨ds, rfl⟩ := isTupD_eq c
      obtain ⟨p, xs, rfl, hp, ha⟩ := dq_tup hx
      refine (val_chain val_c (val_lenT (val_var rfl) (SqT.of hp)) val_c) _ ⟨_, rfl, ?_⟩
      match ds, odd, ha with
      | [], _, ha =>
        obtain rfl := dqa_nil ha
        exact iteT (k H (Same.refl _))
      | [.int i], _, ha =>
        obtain ⟨x0, xs, rfl, h0, ha⟩ := dqa_cons ha
        obtain rfl := dqa_nil ha
        refine iteF ?_
        dsimp only [tNext, tRet, tCB, tCons, tNil, tLc, iTup]
        refine (val_var rfl) _ ⟨p, rfl, ⟨_, SqT.of hp⟩, fun M nM => ?_⟩
        refine lc_tup (xs := [x0]) (fun j H2 => Same H H2 ∧ H2 M = some (.lst ((List.replicate j false).map V.bl))) ⟨same_upd nM, upd_same⟩ (fun j H2 _ ⟨s2, _⟩ => SqT.of (s2 _ _ hp)) (fun j y H2 hj hI => ?_) fun H2 hI => ?_
        · obtain ⟨s2, hM⟩ := hI
          have j0 : j = 0 := by
            have := (List.getElem?_eq_some_iff.mp hj).1
            have q : j < 1 := this
            omega
          subst j0
          have ey : y = x0 := (Option.some.inj hj).symm
          subst ey
          refine ⟨rfl, ?_⟩
          dsimp only [tYes]
          rw [if_pos rfl]
          refine (va_cons (val_var rfl) (va_cons (val_lenT (val_var rfl) (SqT.of (s2 _ _ hp))) (va_cons (val_var rfl) va_nil))) _ ⟨4, _, y, .int i, rfl, h0.mono s2, rfl, ?_⟩
          refine ⟨_, hM, by decide, fun b o e => ?_, ?_⟩
          · rw [upd_ne (ne_of_none e nM)]
            exact s2 _ _ e
          · exact upd_same
        · obtain ⟨s2, hM⟩ := hI
          exact ⟨M, _, rfl, SqL.of hM, k H2 s2⟩
theorem ok_is_pactQ {f : Addr} {fd : FuncData} (B : Bt mg) (m_all : mg "all" = none) (G : Mg mg) (TW : Er K mg "BadWorths" CW fE) (GE : FnOk P w K mg base CX0 1 fE dE ["self", "value"] (spErr K)) (bE : Binds K dE ["self", "value"] [])
    (Dw : Df K mg "is_worths" s_is_worths fW dW ["value"]) (Gw : FnOk P w K mg base CX0 2 fW dW ["value"] spIsWorths) (DS : Df K mg "is_state" s_is_state fS dS ["worths", "many", "value"]) (GS0 : FnOk P w K mg base CX0 5 fS dS ["worths", "many", "value"] spState0) (GS : FnOk P w K mg base CX0 5 fS dS ["worths", "many", "value"] spIsState)
    (D : Df K mg "is_pact" s_is_pact f fd ["worths", "value"]) : FnOk P w K mg base (L2.CX P w) 7 f fd ["worths", "value"] spPactQ := by
  refine (ok_or (ok_is_pact B m_all G TW GE bE Dw Gw DS GS D) (ok_is_pact0 B m_all G TW GE bE Dw Gw DS GS0 D)).imp fun vs H Q E h => ?_
  rcases h with ⟨p, sts, rfl, ⟨ps, h1, h2⟩, ok, k⟩ | ⟨x, d, rfl, hx, o, k⟩
  · exact .inl ⟨4, p, ps, sts, rfl, by decide, by decide, h1, h2, ok.ok, ok.l0, ok.l1, k⟩
  · exact .inr ⟨x, d, rfl, hx, o, k⟩
end
end K5
namespace K5
open PySem PySem.Spec PyProof.Rows L2
/-! ### behind -/
def ltD (l : Lt) : PyData := .tuple [.str l.1.1, .int l.1.2, .int l.2]
def wordD (ws : List Lt) : PyData := .tuple (ws.map ltD)
def WdAt (H : Hp) (q : Addr) (ws : List Lt) : Prop := ∃ ls : List Addr, H q = some (.tup (ls.map V.ref)) ∧ Paired (LtAt H) ls ws
theorem WdAt.mono {H H' : Hp} (k : TKeep H H') {q : Addr} {ws : List Lt} (h : WdAt H q ws) : WdAt H' q ws := by
  obtain ⟨ls, h1, h2⟩ := h
  exact ⟨ls, k _ _ h1, Paired.mapP h2 fun _ _ e => k _ _ e⟩
theorem lts_dq {H : Hp} : ∀ {ls : List Addr} {ws : List Lt}, Paired (LtAt H) ls ws → DqA H (ls.map V.ref) (ws.map ltD)
  | _, _, .nil => .nil
  | _, _, .cons x r => .cons (.tup x (.cons (.str _) (.cons (.int _) (.cons (.int _) .nil)))) (lts_dq r)
theorem WdAt.dq {H : Hp} {q : Addr} {ws : List Lt} (h : WdAt H q ws) : Dq H (.ref q) (wordD ws) := by
  obtain ⟨ls, h1, h2⟩ := h
  exact .tup h1 (lts_dq h2)
def LtOk (l : Lt) : Prop := l.1.1 ∈ poolD ∧ l.1.2 < 4 ∧ -2 ≤ l.2 ∧ l.2 < 4
theorem let_ok {l : Lt} (h : LtOk l) : letB (ltD l) = true ∧ Strs0 (ltD l) := by
  obtain ⟨h1, h2, h3, h4⟩ := h
  obtain ⟨d1, d2⟩ := pool_wd _ h1
  refine ⟨?_, l.1.1, rfl, d2⟩
  show (isDoor l.1.1 && ((decide ((0 : Int) ≤ (l.1.2 : Int)) && decide ((l.1.2 : Int) < 4)) && (decide (-2 ≤ l.2) && decide (l.2 < 4)))) = true
  rw [d1, decide_eq_true (by omega), decide_eq_true (by omega), decide_eq_true h3, decide_eq_true h4]
  rfl
theorem word_ok {ws : List Lt} (h : ∀ l ∈ ws, LtOk l) : wordB (wordD ws) = true := by
  show (ws.map ltD).all letB = true
  rw [List.all_map, List.all_eq_true]
  exact fun l hl => (let_ok (h l hl)).1
/-- the state behind a word -/
def runR (sts : List (List RwD)) : Nat → List Lt → Option Int
  | at_, [] => some at_
  | at_, l :: ws => match sts[at_]? with
    | some rs => match behR rs l.1.1 l.1.2 l.2 with
      | some n => runR sts n.toNat ws
      | none => none
    | none => none
theorem outs_in {rs : List RwD} {d : Str} {w : Int} {o : Int × Int} (h : o ∈ outsR rs d w) : ∃ r ∈ rs, o ∈ r.2 := by
  unfold outsR at h
  cases e : rs.find? fun r => decide (r.1.1 = d) && decide ((r.1.2 : Int) = w) with
  | none =>
    rw [e] at h
    cases h
  | some r =>
    rw [e] at h
    exact ⟨r, List.mem_of_find?_eq_some e, h⟩
theorem beh_in {m : Nat} {rs : List RwD} (x : StX 4 m rs) {d : Str} {w a n : Int} (h : behR rs d w a = some n) : 0 ≤ n ∧ n < (m : Int) := by
  unfold behR at h
  cases e : (outsR rs d w).find? fun o => decide (o.1 = a) with
  | none =>
    rw [e] at h
    cases h
  | some o =>
    rw [e] at h
    injection h with h
    obtain ⟨r, hr, ho⟩ := outs_in (List.mem_of_find?_eq_some e)
    have := (x.2 r hr).2.2.2 o ho
    rw [← h]
    exact ⟨this.2.2.1, this.2.2.2⟩
abbrev nmBhd : List Str := ["pact", "word", "at", "door", "worth", "answer"]
theorem sc_behind : FnScope nmBhd ["pact", "word"] (defScope s_behind) := ⟨rfl, rfl, rfl, by decide +kernel, rfl, by decide +kernel, by decide +kernel⟩
def spBehind (CP CW : Addr) : Sp := fun vs H Q E =>
  (∃ (p q : Addr) (sts : List (List RwD)) (ws : List Lt), vs = [.ref p, .ref q] ∧ PcAt H p sts ∧ PcX sts ∧ WdAt H q ws ∧ (∀ l ∈ ws, LtOk l) ∧ ws.length ≤ 100 ∧ ∀ H', Same H H' → Q (optV (runR sts 0 ws)) H') ∨
  (∃ (p : Addr) (sts : List (List RwD)) (y : V) (d : PyData), vs = [.ref p, y] ∧ PcAt H p sts ∧ PcX sts ∧ Dq H y d ∧ (∀ ds, d = .tuple ds → ds.length ≤ 100 ∧ ∀ e ∈ ds, Strs0 e) ∧ wordB d = false ∧ ErrK CW y H E) ∨
  (∃ (x y : V) (d : PyData), vs = [x, y] ∧ Dq H x d ∧ oddP d = true ∧ ErrK CP x H E)
section
variable {P : Program} {w : World} {K : PySem.W.Frag} {mg : Str → Option Value} {base : Heap} {CP CW fE fP fW fB : Addr} {dE dP dW dB : FuncData}
theorem ok_behind {f fO : Addr} {fd dO : FuncData} (gM : ∃ t, mg "MOST_WORTHS" = some (.int 4 t)) (TP : Er K mg "BadPact" CP fE) (TW : Er K mg "BadWord" CW fE) (GE : FnOk P w K mg base CX0 1 fE dE ["self", "value"] (spErr K)) (bE : Binds K dE ["self", "value"] [])
    (D : Df K mg "behind" s_behind f fd ["pact", "word"]) (DP : Df K mg "is_pact" s_is_pact fP dP ["worths", "value"]) (GP : FnOk P w K mg base (L2.CX P w) 7 fP dP ["worths", "value"] spPactQ)
    (DW : Df K mg "is_word" s_is_word fW dW ["value"]) (GW : FnOk P w K mg base CX0 4 fW dW ["value"] spIsWord) (DB : Df K mg "state_behind" s_state_behind fB dB ["state", "door", "worth", "answer"]) (DO : Df K mg "outcomes_of" s_outcomes_of fO dO ["state", "door", "worth"]) :
    FnOk P w K mg base (L2.CX P w) 8 f fd ["pact", "word"] (spBehind CP CW) := by
  have GB : FnOk P w K mg base CX0 2 fB dB ["state", "door", "worth", "answer"] spStBeh := ok_state_behind DB DO
  obtain ⟨tM, gM⟩ := gM
  refine D.F.okX sc_behind (fun vs H Q E h => ?_) (fun cdv A0 outer s H vs Q E hr h => ?_)
  · rcases h with ⟨p, q, sts, ws, rfl, _⟩ | ⟨p, sts, y, d, rfl, _⟩ | ⟨x, y, d, rfl, _⟩ <;> rfl
  · have S := sc_behind
    refine ⟨_, (pss_cons (ps_if (pt_not (pt_val (pe_call GP (hr.mono (by decide)) (by rfl) DP.g DP.F.kp DP.b .nil passL (pa_cons (pe_glob (v := .int 4) (by rfl) gM ⟨_, rfl⟩) (pa_cons (pv 0) pa_nil)))))
        (pss_one (ps_raise rfl (takes_of rfl rfl rfl rfl) (pmk_oex TP.O TP.iC TP.tI GE (hr.mono (by decide)) bE .nil pass0 (by rfl) TP.g (pa_cons (pv 0) pa_nil))))
        pss_nil)
      (pss_cons (ps_if (pt_not (pt_val (pe_call GW (hr.mono (by decide)) (by rfl) DW.g DW.F.kp DW.b .nil pass0 (pa_cons (pv 1) pa_nil))))
        (pss_one (ps_raise rfl (takes_of rfl rfl rfl rfl) (pmk_oex TW.O TW.iC TW.tI GE (hr.mono (by decide)) bE .nil pass0 (by rfl) TW.g (pa_cons (pv 1) pa_nil))))
        pss_nil)
      (pss_cons (ps_set (i := 2) S.nd rfl (.inl rfl) pe_int)
      (pss_cons (ps_for (passes_of rfl) rfl (pi_tup (pv 1)) (pg_tup (by rfl) (pgs_cons (pg_name (i := 3) S.nd rfl (.inl rfl)) (pgs_cons (pg_name (i := 4) S.nd rfl (.inl rfl)) (pgs_cons (pg_name (i := 5) S.nd rfl (.inl rfl)) pgs_nil))))
        (pss_cons (ps_set (i := 2) S.nd rfl (.inl rfl) (pe_call GB (hr.mono (by decide)) (by rfl) DB.g DB.F.kp DB.b .nil pass0 (pa_cons (pe_ix (r := rIxT K) ix_tup (pv 0) (pv 2) (fun _ _ => rfl)) (pa_cons (pv 3) (pa_cons (pv 4) (pa_cons (pv 5) pa_nil))))))
      (pss_one (ps_if (pt_cmpR op_isN1 (pv 2) pe_non (nomark _))
        (pss_one (ps_ret pe_non))
        pss_nil))))
      (pss_one (ps_ret (pv 2))))))), ?_⟩
    rcases h with ⟨p, q, sts, ws, rfl, hp, px, hq, wok, wl, k⟩ | ⟨p, sts, y, d, rfl, hp, px, hy, few, no, e⟩ | ⟨x, y, d, rfl, hx, od, e⟩
    · dsimp only [tSeq, tIfS, tNot, L2.tB, tCall, tCons, tNil]
      refine val_c _ ((val_var rfl) _ (.inl ⟨p, sts, rfl, hp, px, fun H1 s1 => ⟨_, rfl, iteF ?_⟩⟩))
      dsimp only [tNext, tSeq, tIfS, tNot, L2.tB, tCall, tCons, tNil]
      refine (val_var rfl) _ ⟨.ref q, wordD ws, rfl, (hq.mono (TKeep.same s1)).dq, fun ds e => ?_, fun H2 s2 => ⟨_, rfl, ?_⟩⟩
      · injection e with e
        subst e
        refine ⟨by rw [List.length_map]; exact wl, fun e he => ?_⟩
        obtain ⟨l, hl, rfl⟩ := List.mem_map.mp he
        exact (let_ok (wok l hl)).2
      rw [word_ok wok]
      refine iteF ?_
      dsimp only [tNext, tSeq, tAsg]
      refine val_c _ ?_
      try dsimp only [gName]
      have s12 := s1.trans s2
      obtain ⟨ls, hl, pl⟩ := hq
      have len := Paired.length pl
      refine forV (xs := ls.map V.ref) (fun i σ H' => Same H H' ∧ ∃ (a : Nat) (v3 v4 v5 : Option V), σ = [some (.ref p), some (.ref q), some (.int (a : Nat)), v3, v4, v5] ∧ a < sts.length ∧ runR sts 0 ws = runR sts a (ws.drop i)) q (fun Q kq => (val_var rfl) _ (kq H2 (s12 _ _ hl) (Same.refl _))) ?_ ?_ ?_ ?_
      · exact fun H3 s3 _ => ⟨s12.trans s3, 0, none, none, none, rfl, px.l0, rfl⟩
      · rintro i σ H' _ ⟨s3, _⟩
        exact SqT.of (s3 _ _ hl)
      · rintro i x σ H' hx ⟨s3, a, v3, v4, v5, rfl, al, er⟩
        obtain ⟨t', et, rfl⟩ : ∃ t, ls[i]? = some t ∧ x = .ref t := by
          rw [List.getElem?_map] at hx
          cases e : ls[i]? with
          | none => rw [e] at hx; cases hx
          | some i => rw [e] at hx; exact ⟨i, rfl, (Option.some.inj hx).symm⟩
        obtain ⟨l0, eq, ht⟩ := paired_at i pl et
        have dr : ws.drop i = l0 :: ws.drop (i + 1) := by
          obtain ⟨il, e⟩ := List.getElem?_eq_some_iff.mp eq
          rw [List.drop_eq_getElem_cons il, e]
        obtain ⟨ps, hpp, pp⟩ := hp
        have lenp := Paired.length pp
        obtain ⟨pa, ea⟩ : ∃ pa, ps[a]? = some pa := ⟨_, List.getElem?_eq_getElem (by omega)⟩
        obtain ⟨rs, ers, hst⟩ := paired_at a pp ea
        refine ⟨t', _, rfl, SqT.of (s3 _ _ ht), rfl, _, _, rfl, _, _, rfl, _, _, rfl, rfl, ?_⟩
        try dsimp only [gName, List.set]
        try dsimp only [tSeq, tAsg, tCall, tCons, tNil]
        refine (val_ixT (val_var rfl) (val_var rfl) (SqT.of (s3 _ _ hpp)) (atI_nat (v := .ref pa) (by rw [List.getElem?_map, ea]; rfl))) _ ((val_var (v := .str l0.1.1) rfl) _ ((val_var (v := .int l0.1.2) rfl) _ ((val_var (v := .int l0.2) rfl) _ ⟨pa, rs, l0.1.1, l0.1.2, l0.2, rfl, hst.mono (TKeep.same s3), fun H4 s4 => ?_⟩)))
        rw [dr] at er
        have er : runR sts 0 ws = match behR rs l0.1.1 l0.1.2 l0.2 with
            | some n => runR sts n.toNat (ws.drop (i + 1))
            | none => none := by
          rw [er]
          show (match sts[a]? with
            | some rs => match behR rs l0.1.1 l0.1.2 l0.2 with
              | some n => runR sts n.toNat (ws.drop (i + 1))
              | none => none
            | none => none) = _
          rw [ers]
        try dsimp only [gName, List.set]
        try dsimp only [tSeq, tIfS, tTest]
        cases eb : behR rs l0.1.1 l0.1.2 l0.2 with
        | none =>
          rw [eb] at er
          refine (val_op (z := .bl true) (val_var (v := .non) rfl) val_c fun Q q => ⟨rfl, q⟩) _ ⟨_, rfl, iteT ?_⟩
          have kk := k H4 (s3.trans s4)
          rw [er] at kk
          exact val_c _ kk
        | some n =>
          rw [eb] at er
          obtain ⟨n0, n1⟩ := beh_in (px.ok rs (List.mem_of_getElem? ers)).1 eb
          refine (val_op (z := .bl false) (val_var (v := .int n) rfl) val_c fun Q q => ⟨rfl, q⟩) _ ⟨_, rfl, iteF ?_⟩
          refine ⟨s3.trans s4, n.toNat, some (.str l0.1.1), some (.int l0.1.2), some (.int l0.2), ?_, by omega, er⟩
          rw [Int.toNat_of_nonneg n0]
          rfl
      · rintro σ H' ⟨s3, a, v3, v4, v5, rfl, al, er⟩
        rw [List.length_map, len, List.drop_length] at er
        have er : runR sts 0 ws = some (a : Int) := er
        have kk := k H' s3
        rw [er] at kk
        exact (val_var (v := .int (a : Nat)) rfl) _ kk
    · dsimp only [tSeq, tIfS, tNot, L2.tB, tCall, tCons, tNil]
      refine val_c _ ((val_var rfl) _ (.inl ⟨p, sts, rfl, hp, px, fun H1 s1 => ⟨_, rfl, iteF ?_⟩⟩))
      dsimp only [tNext, tSeq, tIfS, tNot, L2.tB, tCall, tCons, tNil]
      refine (val_var rfl) _ ⟨y, d, rfl, hy.mono s1, few, fun H2 s2 => ⟨_, rfl, ?_⟩⟩
      rw [no]
      refine iteT ?_
      exact raise_run TW.O TW.nv (val_var rfl) (e.mono (s1.trans s2))
    · dsimp only [tSeq, tIfS, tNot, L2.tB, tCall, tCons, tNil]
      refine val_c _ ((val_var rfl) _ (.inr ⟨x, d, rfl, hx, od, fun H1 s1 => ⟨_, rfl, iteT ?_⟩⟩))
      exact raise_run TP.O TP.nv (val_var rfl) (e.mono s1)
end
end K5
namespace K5
open PySem PySem.Spec PyProof.Rows L2
/-! ### dicts whose keys are tuples, with their values -/
def RkV {β : Type} (enc : β → PyData) (H : Hp) (q : β × V) (x : NestedKey × Addr × Value) : Prop := x.1 = nkOf (enc q.1) ∧ Tr H (.ref x.2.1) (enc q.1) ∧ (nkOf (enc q.1)).depth ≤ 8 ∧ RelV q.2 x.2.2
structure DV {β : Type} (P : Program) (w : World) (enc : β → PyData) (H : Hp) (a : Addr) (kvs : List (β × V)) : Prop where
  ex : ∃ xs : NX, H a = some (.ext (dctN P w a xs)) ∧ Paired (RkV enc H) kvs xs
  ne : (a == sysModules) = false
  few : kvs.length ≤ 100000
def putV {β : Type} [DecidableEq β] (kvs : List (β × V)) (d : β) (v : V) : List (β × V) := if d ∈ kvs.map (·.1) then kvs.map (fun q => if q.1 = d then (q.1, v) else q) else kvs ++ [(d, v)]
section
variable {β : Type} {enc : β → PyData} {P : Program} {w : World} {H H' : Hp} {a : Addr} {kvs : List (β × V)}
theorem RkV.keep {q : β × V} {x : NestedKey × Addr × Value} (h : RkV enc H q x) (k : ∀ b zs, H b = some (.tup zs) → H' b = some (.tup zs)) : RkV enc H' q x := ⟨h.1, h.2.1.keep k, h.2.2⟩
theorem DV.keep (h : DV P w enc H a kvs) (ha : H' a = H a) (k : ∀ b zs, H b = some (.tup zs) → H' b = some (.tup zs)) : DV P w enc H' a kvs := by
  obtain ⟨⟨xs, h1, h2⟩, h3, h4⟩ := h
  exact ⟨⟨xs, ha.trans h1, Paired.mapP h2 fun _ _ z => z.keep k⟩, h3, h4⟩
theorem DV.mono (h : DV P w enc H a kvs) (e : Same H H') : DV P w enc H' a kvs := by
  obtain ⟨⟨xs, h1, h2⟩, h3, h4⟩ := h
  exact ⟨⟨xs, e _ _ h1, Paired.mapP h2 fun _ _ z => z.keep fun _ _ q => e _ _ q⟩, h3, h4⟩
theorem dv_new {p : Addr} (e : H p = some (.ext (dctN P w p []))) (ne : (p == sysModules) = false) : DV P w enc H p [] := ⟨⟨[], e, .nil⟩, ne, Nat.zero_le _⟩
end
section
variable {β : Type} [DecidableEq β] {enc : β → PyData} {X : Cx} {pins : List (Addr × Obj)} {σ : L2.St} {H : Hp} {s : Shared} {a : Addr} {kvs : List (β × V)} {xs : NX}
theorem dctH_at (I : Inv X pins σ H s) (e : H a = some (.ext (dctN X.prog X.w a xs))) (ka : Paired (RkV enc H) kvs xs) : s.heap.DictOfH (nestedKind X.prog X.w) a xs := by
  obtain ⟨⟨o, es, ep, h1, h2, h3, h4, h5⟩, _, _⟩ := (show ObjOk X.prog X.w H s.heap a (.ext (dctN X.prog X.w a xs)) from I.hok a _ e)
  refine ⟨o, es, ep, h1, h2, h3, h4, fun x hx => ?_, h5⟩
  have all : ∀ {l : List (β × V)} {m : NX}, Paired (RkV enc H) l m → ∀ x ∈ m, (nestedKind X.prog X.w).is s.heap x.1 x.2.1 := by
    intro l m q
    induction q with
    | nil => intro x hx; cases hx
    | @cons p q ps qs hq t ih =>
      intro x hx
      rcases List.mem_cons.mp hx with e | hx
      · subst e
        rw [hq.1]
        exact ⟨hq.2.1.nested I rfl, hq.2.2.1⟩
      · exact ih x hx
  exact all ka x hx
theorem keys_ofV (inj : Inj enc) {d : β} (hd : keyD (enc d) = true) : ∀ {l : List (β × V)} {m : NX}, Paired (RkV enc H) l m → (atKey m (nkOf (enc d))).isSome = decide (d ∈ l.map (·.1)) := by
  intro l m q
  induction q with
  | nil => simp [atKey]
  | @cons p q ps qs hq t ih =>
    by_cases c : p.1 = d
    · rw [decide_eq_true (by rw [← c]; exact List.mem_cons_self ..)]
      simp [atKey, hq.1, c]
    · have n1 : ¬ q.1 = nkOf (enc d) := fun e => c (inj _ _ (nkOf_inj _ _ hq.2.1.key hd (hq.1.symm.trans e)))
      have e1 : atKey (q :: qs) (nkOf (enc d)) = atKey qs (nkOf (enc d)) := by simp [atKey, n1]
      rw [e1, ih]
      exact decide_eq_decide.mpr ⟨fun h => List.mem_cons_of_mem _ h, fun h => (List.mem_cons.mp h).resolve_left fun e => c e.symm⟩
/-- what is stored behind d[k] = v -/
theorem stored_ka (inj : Inj enc) {d : β} {b : Addr} {v : V} {r : Value} (hd : Tr H (.ref b) (enc d)) (dp : (nkOf (enc d)).depth ≤ 8) (rv : RelV v r) (ka : Paired (RkV enc H) kvs xs) : Paired (RkV enc H) (putV kvs d v) (storedH xs (nkOf (enc d)) b r) := by
  have mp : ∀ {l : List (β × V)} {m : NX}, Paired (RkV enc H) l m → Paired (RkV enc H) (l.map fun q => if q.1 = d then (q.1, v) else q) (m.map (putAt (nkOf (enc d)) r)) := by
    intro l m q
    induction q with
    | nil => exact .nil
    | @cons p q ps qs hq t ih =>
      refine .cons ?_ ih
      unfold putAt
      show RkV enc H (if p.1 = d then (p.1, v) else p) _
      by_cases c : p.1 = d
      · rw [if_pos c, if_pos (by rw [hq.1, c])]
        exact ⟨hq.1, hq.2.1, hq.2.2.1, rv⟩
      · rw [if_neg c, if_neg (fun e => c (inj _ _ (nkOf_inj _ _ hq.2.1.key hd.key (hq.1.symm.trans e))))]
        exact hq
  have ap : ∀ {l : List (β × V)} {m : NX}, Paired (RkV enc H) l m → Paired (RkV enc H) (l ++ [(d, v)]) (m ++ [(nkOf (enc d), b, r)]) := by
    intro l m q
    induction q with
    | nil => exact .cons ⟨rfl, hd, dp, rv⟩ .nil
    | cons hq t ih => exact .cons hq ih
  have e := keys_ofV inj hd.key ka
  unfold storedH putV
  by_cases c : d ∈ kvs.map (·.1)
  · rw [decide_eq_true c] at e
    rw [if_pos c, if_pos e]
    exact mp ka
  · rw [decide_eq_false c] at e
    rw [if_neg c, if_neg (by rw [e]; exact Bool.false_ne_true)]
    exact ap ka
/-- y in d -/
def tDInV (P : Program) (w : World) (enc : β → PyData) (ty td : TE) : TE := fun σ H Q => ty σ H fun y H1 => td σ H1 fun x H2 => ∃ (a b : Addr) (d : β) (kvs : List (β × V)), x = .ref a ∧ y = .ref b ∧ DV P w enc H2 a kvs ∧ Tr H2 (.ref b) (enc d) ∧ (nkOf (enc d)).depth ≤ 8 ∧ Q (.bl (decide (d ∈ kvs.map (·.1)))) H2
def tDNinV (P : Program) (w : World) (enc : β → PyData) (ty td : TE) : TE := fun σ H Q => ty σ H fun y H1 => td σ H1 fun x H2 => ∃ (a b : Addr) (d : β) (kvs : List (β × V)), x = .ref a ∧ y = .ref b ∧ DV P w enc H2 a kvs ∧ Tr H2 (.ref b) (enc d) ∧ (nkOf (enc d)).depth ≤ 8 ∧ Q (.bl (!decide (d ∈ kvs.map (·.1)))) H2
/-- d[y] = v -/
def sDPutV (P : Program) (w : World) (enc : β → PyData) (td ty tv : TE) : TS := fun D σ H => tv σ H fun v H1 => td σ H1 fun x H2 => ty σ H2 fun y H3 => ∃ (a b : Addr) (d : β) (kvs : List (β × V)), x = .ref a ∧ y = .ref b ∧ DV P w enc H3 a kvs ∧ Tr H3 (.ref b) (enc d) ∧ (nkOf (enc d)).depth ≤ 8 ∧ kvs.length < 100000 ∧
  ∀ H' : Hp, (∀ b, b ≠ a → H' b = H3 b) → DV P w enc H' a (putV kvs d v) → D.nx σ H'
/-- {k: v} -/
def tDisp1V (P : Program) (w : World) (enc : β → PyData) (tk tv : TE) : TE := fun σ H Q => ∀ (p : Addr) (H1 : Hp), H p = none → (p == sysModules) = false → Same H H1 → H1 p = some (.ext (dctN P w p [])) → tk σ H1 fun y H2 => tv σ H2 fun v H3 => ∃ (b : Addr) (d : β), y = .ref b ∧ DV P w enc H3 p [] ∧ Tr H3 (.ref b) (enc d) ∧ (nkOf (enc d)).depth ≤ 8 ∧
  ∀ H' : Hp, (∀ b, b ≠ p → H' b = H3 b) → DV P w enc H' p [(d, v)] → Q (.ref p) H'
theorem putV_len (kvs : List (β × V)) (d : β) (v : V) : (putV kvs d v).length ≤ kvs.length + 1 := by
  unfold putV
  split
  · rw [List.length_map]
    omega
  · rw [List.length_append]
    exact Nat.le_refl _
variable {o i value : Expr} {pos pos' : Pos} {td ty tv tk : TE}
theorem pc_dinV (inj : Inj enc) (hu : X.A.units + 10 < cLine) (hi : PE X i ty) (ho : PE X o td) : PC X .In i o (tDInV X.prog X.w enc ty td) := by
  refine ⟨fun pins s σ H Q I h => ?_⟩
  refine thn (hi.run pins s σ H _ I h) fun iv s1 ⟨y, H1, I1, ry, q1⟩ => thn (ho.run pins s1 σ H1 _ I1 q1) fun u s2 ⟨x, H2, I2, rx, a, b, d, kvs, ex, ey, D, hd, dp, q2⟩ => ?_
  subst ex ey
  obtain rfl : u = Value.ref a := rx
  obtain rfl : iv = Value.ref b := ry
  obtain ⟨⟨xs, e, ka⟩, ne, _⟩ := D
  refine wpAny_in_heap (room_nk hu) ⟨hd.nested I2 rfl, dp⟩ ne (dctH_at I2 e ka) ?_
  rw [keys_ofV inj hd.key ka]
  exact ⟨.bl _, H2, I2.tok _, rfl, q2⟩
theorem ps_dputV (inj : Inj enc) (hu : X.A.units + 10 < cLine) (ho : PE X o td) (hi : PE X i ty) (hv : PE X value tv) (hs : swapsWith value (some (.Subscript o i pos')) pos.line X.env = pure false) :
    PS X (.Assign [.Subscript o i pos'] value pos) (sDPutV X.prog X.w enc td ty tv) := by
  refine ⟨fun pins s σ H D I h => ?_⟩
  refine wpAny_Assign_Subscript (thn (hv.run pins s σ H _ I h) fun r s1 ⟨v, H1, I1, rv, q1⟩ => thn (ho.run pins s1 σ H1 _ I1 q1) fun u s2 ⟨x, H2, I2, rx, q2⟩ => thn (hi.run pins s2 σ H2 _ I2 q2) fun iv s3 ⟨y, H3, I3, ry, a, b, d, kvs, ex, ey, DD, hd, dp, few, q3⟩ => ?_) hs
  subst ex ey
  obtain rfl : u = Value.ref a := rx
  obtain rfl : iv = Value.ref b := ry
  obtain ⟨⟨xs, e, ka⟩, ne, l2⟩ := DD
  have l1 : kvs.length = xs.length := Paired.length ka
  refine wpAny_setItem_heap (hsz := by rw [sizeLine_eq]; omega) (room_nk hu) ⟨hd.nested I3 rfl, dp⟩ (dctH_at I3 e ka) fun h' dd' hs' => ?_
  obtain ⟨ob, es, ep, hq, h2, h3, h4, _, h5⟩ := dd'
  have I4 := d_write (t' := s3.toks + (nestedKind X.prog X.w).draws (nkOf (enc d))) I3 (ob := .ext (dctN X.prog X.w a (storedH xs (nkOf (enc d)) b r))) (by rw [e]; exact True.intro) hs' ⟨ob, hq⟩ (ext_ok ⟨ob, es, ep, hq, h2, h3, h4, h5⟩)
  have nt : ∀ c zs, H3 c = some (.tup zs) → (upd H3 a (.ext (dctN X.prog X.w a (storedH xs (nkOf (enc d)) b r)))) c = some (.tup zs) := fun c zs q => by
    rw [upd_ne (ne_of q e (fun z => nomatch z))]
    exact q
  refine ⟨σ, _, I4, q3 _ (fun b n => upd_ne n) ⟨⟨_, upd_same, Paired.mapP (stored_ka inj hd dp rv ka) fun _ _ z => z.keep nt⟩, ne, ?_⟩⟩
  have := putV_len kvs d v
  omega
theorem dict_pairsA {env : Env} {keys : List (Option Expr)} {values : List Expr} {pos : Pos} {Q : Value → Shared → Prop} {E : Value → Shared → Prop} {P : Program} {w : World} {A : Around} (hu : (nestedKind P w).room A) (hall : keys.all (·.isSome) = true) (hl : keys.length = values.length) (h0 : keys ≠ []) (h15 : keys.length ≤ 15)
    (h : wpAny (model P w) A (evalPairs (pairTrees keys values env pos)) (fun vs s₁ => ∃ ps, CarriesH (nestedKind P w) s₁.heap vs ps ∧ s₁.heap.DictOfH (nestedKind P w) s.heap.objs.size [] ∧
      ∀ h' tk, h'.DictOfH (nestedKind P w) s.heap.objs.size (storedAllH [] ps) → Heap.SameBut s.heap.objs.size s₁.heap h' → Q (.ref s.heap.objs.size) { s₁ with heap := h', toks := tk }) E
      { s with heap := s.heap.push { cls := .type "dict", data := .dict #[] } }) :
    wpAny (model P w) A (eval (.Dict keys values pos) env) Q E s := by
  have hn := pairTrees_length keys values env pos hall hl
  have h1 : pairTrees keys values env pos ≠ [] := fun he => by
    rw [he] at hn
    exact h0 (List.length_eq_zero_iff.mp hn.symm)
  rw [arm_eval_Dict, zip_pairTrees keys values env pos hall hl, dictDisplay_pairs _ h1 (by omega)]
  exact wpAny_bind (wpAny_standAt (wpAny_bind (wpAny_subDictH (knd := nestedKind P w) (Q := fun d s' => wpAny (model P w) A (pure (Value.ref d)) Q E s') hu (by omega)
    (wpAny_mono h (fun vs s₁ h₁ => by obtain ⟨ps, hc, hm, hq⟩ := h₁; exact ⟨ps, hc, hm, fun h' tk a b => wpAny_pure (hq h' tk a b)⟩) fun _ _ e => e))))
theorem pe_disp1V (hu : X.A.units + 10 < cLine) (hk : PE X i tk) (hv : PE X value tv) : PE X (.Dict [some i] [value] pos) (tDisp1V X.prog X.w enc tk tv) := by
  refine ⟨fun pins s σ H Q I q => ?_⟩
  have hn := I.hok.fresh (Nat.le_refl s.heap.objs.size)
  have I1 := I.laid (a := s.heap.objs.size) (o := .ext (dctN X.prog X.w s.heap.objs.size [])) (h' := s.heap.push { cls := .type "dict", data := .dict #[] }) (t' := s.toks) (fun _ _ q => Heap.get?_push_of_some _ q) (Nat.le_refl _) (ext_ok ⟨_, #[], 0, Heap.get?_push_size _ rfl, ⟨rfl, rfl, rfl⟩, rfl, rfl, List.nodup_nil⟩)
  have ne : (s.heap.objs.size == sysModules) = false := beq_eq_false_iff_ne.mpr (Ne.symm (Nat.ne_of_lt I.big))
  have P2 : PPs X pos [some i] [value] [(tk, tv)] := pps_cons hk hv pps_nil
  refine dict_pairsA (show X.A.units + 8 < cLine by omega) rfl rfl (by intro z; cases z) (show 1 ≤ 15 by decide) (thn (P2.run pins _ σ _ (fun ps H3 => match ps with
    | [(y, v)] => ∃ (b : Addr) (d : β), y = .ref b ∧ DV X.prog X.w enc H3 s.heap.objs.size [] ∧ Tr H3 (.ref b) (enc d) ∧ (nkOf (enc d)).depth ≤ 8 ∧ ∀ H' : Hp, (∀ b, b ≠ s.heap.objs.size → H' b = H3 b) → DV X.prog X.w enc H' s.heap.objs.size [(d, v)] → Q (.ref s.heap.objs.size) H'
    | _ => False) I1 (q _ _ hn ne (same_upd hn) upd_same)) fun ws s2 h2 => ?_)
  obtain ⟨ps, H3, I3, rel, h3⟩ := h2
  match ps, rel, h3 with
  | [(y, v)], .cons ⟨ry, rv⟩ .nil, ⟨b, d, ey, D, hd, dp, q3⟩ =>
    rename_i yv
    obtain ⟨u, r⟩ := yv
    subst ey
    obtain rfl : u = Value.ref b := ry
    obtain ⟨⟨xs, e, ka⟩, ne2, _⟩ := D
    cases ka
    refine ⟨[(nkOf (enc d), b, r)], ⟨rfl, rfl, ⟨hd.nested I3 rfl, dp⟩, True.intro⟩, dctH_at (β := β) (enc := enc) (kvs := []) I3 e .nil, fun h' tk dd' hs' => ?_⟩
    obtain ⟨ob, es, ep, hq, h2, h3, h4, _, h5⟩ := dd'
    have I4 := d_write (t' := tk) I3 (ob := .ext (dctN X.prog X.w s.heap.objs.size (storedAllH [] [(nkOf (enc d), b, r)]))) (by rw [e]; exact True.intro) hs' ⟨ob, hq⟩ (ext_ok ⟨ob, es, ep, hq, h2, h3, h4, h5⟩)
    have nt : ∀ c zs, H3 c = some (.tup zs) → (upd H3 s.heap.objs.size (.ext (dctN X.prog X.w s.heap.objs.size (storedAllH [] [(nkOf (enc d), b, r)])))) c = some (.tup zs) := fun c zs q => by
      rw [upd_ne (ne_of q e (fun z => nomatch z))]
      exact q
    exact ⟨.ref s.heap.objs.size, _, I4, rfl, q3 _ (fun b n => upd_ne n) ⟨⟨_, upd_same, .cons ⟨rfl, hd.keep nt, dp, rv⟩ .nil⟩, ne2, show 1 ≤ 100000 by decide⟩⟩
end
end K5
namespace V13
/-! ### two ways of going through pairs of states -/
section
variable {L : Type} [DecidableEq L]
abbrev Pr := Nat × Nat
structure Lin (lt : L → L → Bool) : Prop where
  irr : ∀ a, lt a a = false
  tr : ∀ a b c, lt a b = true → lt b c = true → lt a c = true
  tri : ∀ a b, lt a b = false → lt b a = false → a = b
variable {lt : L → L → Bool}
/-- words in their order -/
def wlt (lt : L → L → Bool) : List L → List L → Bool
  | [], [] => false
  | [], _ :: _ => true
  | _ :: _, [] => false
  | a :: x, b :: y => if a = b then wlt lt x y else lt a b
theorem Lin.as (h : Lin lt) {a b : L} (e : lt a b = true) : lt b a = false := by
  cases c : lt b a with
  | false => rfl
  | true =>
    have := h.tr _ _ _ e c
    rw [h.irr] at this
    cases this
theorem Lin.w (h : Lin lt) : Lin (wlt lt) where
  irr := by
    intro x
    induction x with
    | nil => rfl
    | cons a x ih =>
      show (if a = a then wlt lt x x else lt a a) = false
      rw [if_pos rfl]
      exact ih
  tr := by
    intro x
    induction x with
    | nil =>
      intro y z h1 h2
      match y, z with
      | [], [] => cases h2
      | [], _ :: _ => cases h1
      | _ :: _, [] => cases h2
      | _ :: _, _ :: _ => rfl
    | cons a x ih =>
      intro y z h1 h2
      match y, z with
      | [], _ => cases h1
      | _ :: _, [] => cases h2
      | b :: y, c :: z =>
        have h1 : (if a = b then wlt lt x y else lt a b) = true := h1
        have h2 : (if b = c then wlt lt y z else lt b c) = true := h2
        show (if a = c then wlt lt x z else lt a c) = true
        by_cases e : a = b
        · rw [if_pos e] at h1
          by_cases f : b = c
          · rw [if_pos f] at h2
            rw [if_pos (e.trans f)]
            exact ih _ _ h1 h2
          · rw [if_neg f] at h2
            rw [if_neg (e ▸ f), e]
            exact h2
        · rw [if_neg e] at h1
          by_cases f : b = c
          · rw [if_neg (f ▸ e), ← f]
            exact h1
          · rw [if_neg f] at h2
            have h3 := h.tr _ _ _ h1 h2
            have n : a ≠ c := fun z => by
              rw [z, h.irr] at h3
              cases h3
            rw [if_neg n]
            exact h3
  tri := by
    intro x
    induction x with
    | nil =>
      intro y h1 h2
      cases y with
      | nil => rfl
      | cons b y => cases h1
    | cons a x ih =>
      intro y h1 h2
      cases y with
      | nil => cases h2
      | cons b y =>
        have h1 : (if a = b then wlt lt x y else lt a b) = false := h1
        have h2 : (if b = a then wlt lt y x else lt b a) = false := h2
        by_cases e : a = b
        · subst e
          rw [if_pos rfl] at h1 h2
          rw [ih _ h1 h2]
        · rw [if_neg e] at h1
          rw [if_neg (fun z => e z.symm)] at h2
          exact absurd (h.tri _ _ h1 h2) e
theorem wlt_snoc {x y : List L} {a b : L} (e : x.length = y.length) : wlt lt (x ++ [a]) (y ++ [b]) = if x = y then (if a = b then false else lt a b) else wlt lt x y := by
  induction x generalizing y with
  | nil =>
    cases y with
    | nil => rfl
    | cons _ _ => cases e
  | cons c x ih =>
    cases y with
    | nil => cases e
    | cons d y =>
      show (if c = d then wlt lt (x ++ [a]) (y ++ [b]) else lt c d) = _
      have el : x.length = y.length := Nat.succ.inj e
      by_cases f : c = d
      · subst f
        rw [if_pos rfl, ih el]
        by_cases g : x = y
        · rw [if_pos g, if_pos (show c :: x = c :: y by rw [g])]
        · rw [if_neg g, if_neg (fun z => g (List.cons.inj z).2)]
          show _ = (if c = c then _ else _)
          rw [if_pos rfl]
      · rw [if_neg f, if_neg (fun z => f (List.cons.inj z).1)]
        show _ = (if c = d then _ else _)
        rw [if_neg f]
theorem len_le {α : Type} [DecidableEq α] {xs ys : List α} (nd : xs.Nodup) (sub : ∀ x ∈ xs, x ∈ ys) : xs.length ≤ ys.length := by
  induction xs generalizing ys with
  | nil => exact Nat.zero_le _
  | cons x xs ih =>
    obtain ⟨n1, n2⟩ := List.nodup_cons.mp nd
    have hx := sub x List.mem_cons_self
    have := ih n2 (ys := ys.erase x) fun y hy => (List.mem_erase_of_ne (fun e => n1 (by rw [← e]; exact hy))).mpr (sub y (List.mem_cons_of_mem _ hy))
    rw [List.length_erase_of_mem hx] at this
    have p : 0 < ys.length := List.length_pos_of_mem hx
    rw [List.length_cons]
    omega
/-! ### what may come next -/
abbrev Cand (L : Type) := List L × Nat × Option Nat
abbrev Ent (L : Type) := Pr × List L
variable (A : Nat → List (L × Nat)) (B : Nat → L → Option Nat)
def cand (e : Ent L) : List (Cand L) := (A e.1.1).map fun z => (e.2 ++ [z.1], z.2, B e.1.2 z.1)
def cands (Q : List (Ent L)) : List (Cand L) := Q.flatMap (cand A B)
def key (c : Cand L) : Option Pr := c.2.2.map fun b => (c.2.1, b)
def go : List (Cand L) → List Pr → List (Ent L) → List L ⊕ (List Pr × List (Ent L))
  | [], met, out => .inr (met, out)
  | (w, _, none) :: _, _, _ => .inl w
  | (w, n, some b) :: cs, met, out => if (n, b) ∈ met then go cs met out else go cs ((n, b) :: met) (out ++ [((n, b), w)])
theorem go_app (cs ds : List (Cand L)) (met : List Pr) (out : List (Ent L)) : go (cs ++ ds) met out = match go cs met out with
    | .inl w => .inl w
    | .inr r => go ds r.1 r.2 := by
  induction cs generalizing met out with
  | nil => rfl
  | cons c cs ih =>
    obtain ⟨w, n, b⟩ := c
    cases b with
    | none => rfl
    | some b =>
      show (if (n, b) ∈ met then go (cs ++ ds) met out else go (cs ++ ds) ((n, b) :: met) (out ++ [((n, b), w)])) = match (if (n, b) ∈ met then go cs met out else go cs ((n, b) :: met) (out ++ [((n, b), w)])) with
        | .inl w => .inl w
        | .inr r => go ds r.1 r.2
      split
      · exact ih _ _
      · exact ih _ _
theorem go_out (cs : List (Cand L)) (met : List Pr) (o p : List (Ent L)) : go cs met (o ++ p) = match go cs met p with
    | .inl w => .inl w
    | .inr r => .inr (r.1, o ++ r.2) := by
  induction cs generalizing met p with
  | nil => rfl
  | cons c cs ih =>
    obtain ⟨w, n, b⟩ := c
    cases b with
    | none => rfl
    | some b =>
      show (if (n, b) ∈ met then go cs met (o ++ p) else go cs ((n, b) :: met) (o ++ p ++ [((n, b), w)])) = match (if (n, b) ∈ met then go cs met p else go cs ((n, b) :: met) (p ++ [((n, b), w)])) with
        | .inl w => .inl w
        | .inr r => .inr (r.1, o ++ r.2)
      split
      · exact ih _ _
      · rw [List.append_assoc]
        exact ih _ _
/-- the program's way -/
def bfs : Nat → List (Ent L) → List Pr → Option (List L)
  | 0, _, _ => none
  | _ + 1, [], _ => none
  | f + 1, e :: q, met => match go (cand A B e) met [] with
    | .inl w => some w
    | .inr r => bfs f (q ++ r.2) r.1
theorem bfs_cons (f : Nat) (e : Ent L) (q : List (Ent L)) (met : List Pr) : bfs A B (f + 1) (e :: q) met = match go (cand A B e) met [] with
    | .inl w => some w
    | .inr r => bfs A B f (q ++ r.2) r.1 := rfl
theorem bfs_nil (f : Nat) (met : List Pr) : bfs A B f [] met = none := by
  cases f <;> rfl
theorem bfs_pass (f : Nat) (Q R : List (Ent L)) (met : List Pr) : bfs A B (f + Q.length) (Q ++ R) met = match go (cands A B Q) met R with
    | .inl w => some w
    | .inr r => bfs A B f r.2 r.1 := by
  induction Q generalizing R met with
  | nil => rfl
  | cons e Q ih =>
    show (match go (cand A B e) met [] with
      | .inl w => some w
      | .inr r => bfs A B (f + Q.length) ((Q ++ R) ++ r.2) r.1) = match go (cand A B e ++ cands A B Q) met R with
      | .inl w => some w
      | .inr r => bfs A B f r.2 r.1
    have h := go_out (cand A B e) met R []
    rw [List.append_nil] at h
    rw [go_app, h]
    cases go (cand A B e) met [] with
    | inl w => rfl
    | inr r =>
      show bfs A B (f + Q.length) ((Q ++ R) ++ r.2) r.1 = match go (cands A B Q) r.1 (R ++ r.2) with
        | .inl w => some w
        | .inr r => bfs A B f r.2 r.1
      rw [List.append_assoc]
      exact ih _ _
/-! ### the least of each pair -/
variable (lt)
def isMin (p : Pr) (w : List L) (cs : List (Cand L)) : Prop := (∃ c ∈ cs, key c = some p ∧ c.1 = w) ∧ ∀ c ∈ cs, key c = some p → wlt lt c.1 w = false
variable {lt}
theorem isMin_uni (h : Lin lt) {p : Pr} {w v : List L} {cs : List (Cand L)} (a : isMin lt p w cs) (b : isMin lt p v cs) : w = v := by
  obtain ⟨⟨c, c1, c2, c3⟩, c4⟩ := a
  obtain ⟨⟨d, d1, d2, d3⟩, d4⟩ := b
  have e1 := d4 c c1 c2
  have e2 := c4 d d1 d2
  rw [c3] at e1
  rw [d3] at e2
  exact h.w.tri _ _ e1 e2
theorem isMin_of {p : Pr} {w : List L} {cs ds : List (Cand L)} (e : ∀ c, c ∈ cs ↔ c ∈ ds) : isMin lt p w cs ↔ isMin lt p w ds :=
  ⟨fun ⟨⟨c, c1, c2⟩, c3⟩ => ⟨⟨c, (e c).mp c1, c2⟩, fun d d1 => c3 d ((e d).mpr d1)⟩, fun ⟨⟨c, c1, c2⟩, c3⟩ => ⟨⟨c, (e c).mpr c1, c2⟩, fun d d1 => c3 d ((e d).mp d1)⟩⟩
theorem ex_min (h : Lin lt) (cs : List (Cand L)) (p : Pr) (ex : ∃ c ∈ cs, key c = some p) : ∃ w, isMin lt p w cs := by
  induction cs with
  | nil =>
    obtain ⟨c, c1, _⟩ := ex
    cases c1
  | cons c cs ih =>
    by_cases e : ∃ d ∈ cs, key d = some p
    · obtain ⟨w, ⟨d, d1, d2, d3⟩, d4⟩ := ih e
      by_cases k : key c = some p
      · cases l : wlt lt c.1 w with
        | true =>
          refine ⟨c.1, ⟨c, List.mem_cons_self, k, rfl⟩, fun x hx hk => ?_⟩
          rcases List.mem_cons.mp hx with rfl | hx
          · exact h.w.irr _
          · cases q : wlt lt x.1 c.1 with
            | false => rfl
            | true =>
              have := d4 x hx hk
              rw [h.w.tr _ _ _ q l] at this
              cases this
        | false =>
          refine ⟨w, ⟨d, List.mem_cons_of_mem _ d1, d2, d3⟩, fun x hx hk => ?_⟩
          rcases List.mem_cons.mp hx with rfl | hx
          · exact l
          · exact d4 x hx hk
      · refine ⟨w, ⟨d, List.mem_cons_of_mem _ d1, d2, d3⟩, fun x hx hk => ?_⟩
        rcases List.mem_cons.mp hx with rfl | hx
        · exact absurd hk k
        · exact d4 x hx hk
    · obtain ⟨d, d1, d2⟩ := ex
      rcases List.mem_cons.mp d1 with rfl | d1
      · refine ⟨d.1, ⟨d, List.mem_cons_self, d2, rfl⟩, fun x hx hk => ?_⟩
        rcases List.mem_cons.mp hx with rfl | hx
        · exact h.w.irr _
        · exact absurd ⟨x, hx, hk⟩ e
      · exact absurd ⟨d, d1, d2⟩ e
abbrev Asc (lt : L → L → Bool) (cs : List (Cand L)) : Prop := cs.Pairwise fun c d => wlt lt c.1 d.1 = true
theorem go_inl {cs : List (Cand L)} (asc : Asc lt cs) {met : List Pr} {out : List (Ent L)} (ex : ∃ c ∈ cs, c.2.2 = none) : ∃ c ∈ cs, c.2.2 = none ∧ go cs met out = .inl c.1 ∧ ∀ d ∈ cs, d.2.2 = none → d = c ∨ wlt lt c.1 d.1 = true := by
  induction cs generalizing met out with
  | nil =>
    obtain ⟨c, c1, _⟩ := ex
    cases c1
  | cons c cs ih =>
    obtain ⟨a1, a2⟩ := List.pairwise_cons.mp asc
    obtain ⟨w, n, b⟩ := c
    cases b with
    | none =>
      refine ⟨_, List.mem_cons_self, rfl, rfl, fun d hd _ => ?_⟩
      rcases List.mem_cons.mp hd with rfl | hd
      · exact .inl rfl
      · exact .inr (a1 d hd)
    | some b =>
      have ex' : ∃ c ∈ cs, c.2.2 = none := by
        obtain ⟨d, d1, d2⟩ := ex
        rcases List.mem_cons.mp d1 with rfl | d1
        · cases d2
        · exact ⟨d, d1, d2⟩
      have fin : ∀ met out, ∃ c' ∈ ((w, n, some b) :: cs : List (Cand L)), c'.2.2 = none ∧ go cs met out = .inl c'.1 ∧ ∀ d ∈ ((w, n, some b) :: cs : List (Cand L)), d.2.2 = none → d = c' ∨ wlt lt c'.1 d.1 = true := fun met out => by
        obtain ⟨c', k1, k2, k3, k4⟩ := ih a2 (met := met) (out := out) ex'
        refine ⟨c', List.mem_cons_of_mem _ k1, k2, k3, fun d hd e => ?_⟩
        rcases List.mem_cons.mp hd with rfl | hd
        · cases e
        · exact k4 d hd e
      unfold go
      split
      · exact fin _ _
      · exact fin _ _
structure Went (lt : L → L → Bool) (cs : List (Cand L)) (met m' : List Pr) (new : List (Ent L)) : Prop where
  mem : ∀ p, p ∈ m' ↔ p ∈ met ∨ p ∈ new.map (·.1)
  isM : ∀ p w, (p, w) ∈ new ↔ p ∉ met ∧ isMin lt p w cs
  asc : new.Pairwise fun e d => wlt lt e.2 d.2 = true
  wds : ∀ e ∈ new, ∃ c ∈ cs, c.1 = e.2 ∧ key c = some e.1
  len : m'.length = met.length + new.length
  nod : met.Nodup → m'.Nodup
theorem go_inr (h : Lin lt) {cs : List (Cand L)} (asc : Asc lt cs) (no : ∀ c ∈ cs, c.2.2 ≠ none) (met : List Pr) (out : List (Ent L)) : ∃ m' new, go cs met out = .inr (m', out ++ new) ∧ Went lt cs met m' new := by
  induction cs generalizing met out with
  | nil =>
    refine ⟨met, [], by rw [List.append_nil]; rfl, fun p => ⟨fun q => .inl q, fun q => ?_⟩, fun p w => ⟨fun q => ?_, fun q => ?_⟩, .nil, fun e q => (nomatch q), rfl, fun q => q⟩
    · rcases q with q | q
      · exact q
      · cases q
    · cases q
    · obtain ⟨_, ⟨c, c1, _⟩, _⟩ := q
      cases c1
  | cons c cs ih =>
    obtain ⟨a1, a2⟩ := List.pairwise_cons.mp asc
    obtain ⟨w, n, b⟩ := c
    cases b with
    | none => exact absurd rfl (no _ List.mem_cons_self)
    | some b =>
      have no' : ∀ c ∈ cs, c.2.2 ≠ none := fun c hc => no c (List.mem_cons_of_mem _ hc)
      have other : ∀ {p : Pr} {v : List L}, p ≠ (n, b) → (isMin lt p v ((w, n, some b) :: cs) ↔ isMin lt p v cs) := fun {p v} np => by
        constructor
        · rintro ⟨⟨c, c1, c2, c3⟩, c4⟩
          refine ⟨?_, fun d hd => c4 d (List.mem_cons_of_mem _ hd)⟩
          rcases List.mem_cons.mp c1 with rfl | c1
          · exact absurd (Option.some.inj c2).symm np
          · exact ⟨c, c1, c2, c3⟩
        · rintro ⟨⟨c, c1, c2, c3⟩, c4⟩
          refine ⟨⟨c, List.mem_cons_of_mem _ c1, c2, c3⟩, fun d hd hk => ?_⟩
          rcases List.mem_cons.mp hd with rfl | hd
          · exact absurd (Option.some.inj hk).symm np
          · exact c4 d hd hk
      by_cases e : (n, b) ∈ met
      · obtain ⟨m', new, g, W⟩ := ih a2 no' met out
        refine ⟨m', new, by unfold go; rw [if_pos e]; exact g, W.mem, fun p v => ?_, W.asc, fun x hx => ?_, W.len, W.nod⟩
        · rw [W.isM p v]
          constructor
          · rintro ⟨k1, k2⟩
            exact ⟨k1, (other (fun z => k1 (by rw [z]; exact e))).mpr k2⟩
          · rintro ⟨k1, k2⟩
            exact ⟨k1, (other (fun z => k1 (by rw [z]; exact e))).mp k2⟩
        · obtain ⟨c, c1, c2⟩ := W.wds x hx
          exact ⟨c, List.mem_cons_of_mem _ c1, c2⟩
      · obtain ⟨m', new, g, W⟩ := ih a2 no' ((n, b) :: met) (out ++ [((n, b), w)])
        refine ⟨m', ((n, b), w) :: new, by unfold go; rw [if_neg e, g, List.append_assoc]; rfl, fun p => ?_, fun p v => ?_, ?_, fun x hx => ?_, ?_, fun nd => W.nod (List.nodup_cons.mpr ⟨e, nd⟩)⟩
        · rw [W.mem p, List.map_cons, List.mem_cons, List.mem_cons]
          constructor
          · rintro ((q | q) | q)
            · exact .inr (.inl q)
            · exact .inl q
            · exact .inr (.inr q)
          · rintro (q | q | q)
            · exact .inl (.inr q)
            · exact .inl (.inl q)
            · exact .inr q
        · rw [List.mem_cons]
          by_cases np : p = (n, b)
          · subst np
            constructor
            · rintro (q | q)
              · cases q
                refine ⟨e, ⟨_, List.mem_cons_self, rfl, rfl⟩, fun d hd _ => ?_⟩
                rcases List.mem_cons.mp hd with rfl | hd
                · exact h.w.irr _
                · exact h.w.as (a1 d hd)
              · exact absurd List.mem_cons_self ((W.isM _ _).mp q).1
            · rintro ⟨_, ⟨c, c1, c2, c3⟩, c4⟩
              rcases List.mem_cons.mp c1 with rfl | c1
              · left
                rw [← c3]
              · have := c4 _ List.mem_cons_self rfl
                rw [← c3, a1 c c1] at this
                cases this
          · rw [W.isM p v, other np]
            constructor
            · rintro (q | ⟨q1, q2⟩)
              · exact absurd (congrArg (·.1) q) np
              · exact ⟨fun z => q1 (List.mem_cons_of_mem _ z), q2⟩
            · rintro ⟨q1, q2⟩
              right
              refine ⟨fun z => ?_, q2⟩
              rcases List.mem_cons.mp z with z | z
              · exact np z
              · exact q1 z
        · refine List.pairwise_cons.mpr ⟨fun x hx => ?_, W.asc⟩
          obtain ⟨c, c1, c2, _⟩ := W.wds x hx
          rw [← c2]
          exact a1 c c1
        · rcases List.mem_cons.mp hx with rfl | hx
          · exact ⟨_, List.mem_cons_self, rfl, rfl⟩
          · obtain ⟨c, c1, c2⟩ := W.wds x hx
            exact ⟨c, List.mem_cons_of_mem _ c1, c2⟩
        · rw [W.len, List.length_cons, List.length_cons]
          omega
/-! ### the law's way: level by level -/
variable (lt)
def minW : List (List L) → Option (List L)
  | [] => none
  | w :: ws => some (ws.foldl (fun m x => if wlt lt x m then x else m) w)
/-- what stands in the dict at a key -/
def dget : List (Ent L) → Pr → Option (List L)
  | [], _ => none
  | (q, w) :: D, p => if q = p then some w else dget D p
def dput : List (Ent L) → Pr → List L → List (Ent L)
  | [], p, w => [(p, w)]
  | (q, v) :: D, p, w => if q = p then (q, w) :: D else (q, v) :: dput D p w
/-- one candidate: told, or the lesser of two words -/
def lstep (s : List (List L) × List (Ent L)) (c : Cand L) : List (List L) × List (Ent L) := match key c with
  | none => (s.1 ++ [c.1], s.2)
  | some p => (s.1, dput s.2 p (match dget s.2 p with
    | none => c.1
    | some o => if wlt lt c.1 o then c.1 else o))
def lrun (cs : List (Cand L)) : List (List L) × List (Ent L) := cs.foldl (lstep lt) ([], [])
def later (D : List (Ent L)) (seen : List Pr) : List (Ent L) := D.filter fun e => !decide (e.1 ∈ seen)
variable {lt}
theorem dget_iff {D : List (Ent L)} (nd : (D.map (·.1)).Nodup) (p : Pr) (w : List L) : (p, w) ∈ D ↔ dget D p = some w := by
  induction D with
  | nil => exact ⟨(fun z => nomatch z), (fun z => nomatch z)⟩
  | cons e D ih =>
    obtain ⟨q, v⟩ := e
    rw [List.map_cons] at nd
    obtain ⟨n1, n2⟩ := List.nodup_cons.mp nd
    rw [List.mem_cons]
    show _ ↔ (if q = p then some v else dget D p) = some w
    by_cases z : q = p
    · subst z
      rw [if_pos rfl]
      constructor
      · rintro (h | h)
        · cases h
          rfl
        · exact absurd (List.mem_map.mpr ⟨_, h, rfl⟩) n1
      · intro h
        cases h
        exact .inl rfl
    · rw [if_neg z, ← ih n2]
      constructor
      · rintro (h | h)
        · exact absurd (congrArg (·.1) h).symm z
        · exact h
      · exact .inr
theorem dput_keys (D : List (Ent L)) (p : Pr) (w : List L) : (dput D p w).map (·.1) = if p ∈ D.map (·.1) then D.map (·.1) else D.map (·.1) ++ [p] := by
  induction D with
  | nil => rfl
  | cons e D ih =>
    obtain ⟨q, v⟩ := e
    unfold dput
    rw [List.map_cons]
    by_cases z : q = p
    · rw [if_pos z, if_pos (by rw [z]; exact List.mem_cons_self), List.map_cons]
    · rw [if_neg z, List.map_cons, ih]
      by_cases m : p ∈ D.map (·.1)
      · rw [if_pos m, if_pos (List.mem_cons_of_mem _ m)]
      · rw [if_neg m, if_neg]
        · rfl
        · intro k
          rcases List.mem_cons.mp k with k | k
          · exact z k.symm
          · exact m k
theorem dput_get (D : List (Ent L)) (p r : Pr) (w : List L) : dget (dput D p w) r = if p = r then some w else dget D r := by
  induction D with
  | nil => rfl
  | cons e D ih =>
    obtain ⟨q, v⟩ := e
    unfold dput
    by_cases z : q = p
    · rw [if_pos z]
      show (if q = r then some w else dget D r) = if p = r then some w else if q = r then some v else dget D r
      by_cases y : q = r
      · rw [if_pos y, if_pos (z.symm.trans y)]
      · rw [if_neg y, if_neg (fun k => y (z.trans k)), if_neg y]
    · rw [if_neg z]
      show (if q = r then some v else dget (dput D p w) r) = if p = r then some w else if q = r then some v else dget D r
      rw [ih]
      by_cases y : q = r
      · rw [if_pos y, if_neg (fun k => z (y.trans k.symm)), if_pos y]
      · rw [if_neg y, if_neg y]
theorem dput_nod {D : List (Ent L)} (nd : (D.map (·.1)).Nodup) (p : Pr) (w : List L) : ((dput D p w).map (·.1)).Nodup := by
  rw [dput_keys]
  split
  · exact nd
  · rename_i m
    refine List.nodup_append.mpr ⟨nd, List.nodup_cons.mpr ⟨(fun z => nomatch z), .nil⟩, fun a ha b hb e => ?_⟩
    rw [List.mem_singleton.mp hb] at e
    exact m (e ▸ ha)
structure LRun (lt : L → L → Bool) (cs : List (Cand L)) (s : List (List L) × List (Ent L)) : Prop where
  told : ∀ w, w ∈ s.1 ↔ ∃ c ∈ cs, key c = none ∧ c.1 = w
  nod : (s.2.map (·.1)).Nodup
  isM : ∀ p w, dget s.2 p = some w ↔ isMin lt p w cs
theorem lrun_ok (h : Lin lt) (cs : List (Cand L)) : LRun lt cs (lrun lt cs) := by
  have go : ∀ (cs pre : List (Cand L)) (s : List (List L) × List (Ent L)), LRun lt pre s → LRun lt (pre ++ cs) (cs.foldl (lstep lt) s) := by
    intro cs
    induction cs with
    | nil =>
      intro pre s R
      rw [List.append_nil]
      exact R
    | cons c cs ih =>
      intro pre s R
      have := ih (pre ++ [c]) (lstep lt s c) ?_
      · rw [List.append_assoc] at this
        exact this
      · have mem : ∀ d, d ∈ pre ++ [c] ↔ d ∈ pre ∨ d = c := fun d => by rw [List.mem_append, List.mem_singleton]
        unfold lstep
        cases k : key c with
        | none =>
          refine ⟨fun w => ?_, R.nod, fun p w => ?_⟩
          · show w ∈ s.1 ++ [c.1] ↔ _
            rw [List.mem_append, List.mem_singleton, R.told]
            constructor
            · rintro (⟨d, d1, d2⟩ | q)
              · exact ⟨d, (mem d).mpr (.inl d1), d2⟩
              · exact ⟨c, (mem c).mpr (.inr rfl), k, q.symm⟩
            · rintro ⟨d, d1, d2, d3⟩
              rcases (mem d).mp d1 with d1 | rfl
              · exact .inl ⟨d, d1, d2, d3⟩
              · exact .inr d3.symm
          · show dget s.2 p = some w ↔ _
            rw [R.isM]
            constructor
            · rintro ⟨⟨d, d1, d2⟩, d4⟩
              refine ⟨⟨d, (mem d).mpr (.inl d1), d2⟩, fun x hx hk => ?_⟩
              rcases (mem x).mp hx with hx | rfl
              · exact d4 x hx hk
              · rw [k] at hk
                cases hk
            · rintro ⟨⟨d, d1, d2, d3⟩, d4⟩
              refine ⟨?_, fun x hx => d4 x ((mem x).mpr (.inl hx))⟩
              rcases (mem d).mp d1 with d1 | rfl
              · exact ⟨d, d1, d2, d3⟩
              · rw [k] at d2
                cases d2
        | some q =>
          refine ⟨fun w => ?_, dput_nod R.nod _ _, fun p w => ?_⟩
          · show w ∈ s.1 ↔ _
            rw [R.told]
            constructor
            · rintro ⟨d, d1, d2⟩
              exact ⟨d, (mem d).mpr (.inl d1), d2⟩
            · rintro ⟨d, d1, d2, d3⟩
              rcases (mem d).mp d1 with d1 | rfl
              · exact ⟨d, d1, d2, d3⟩
              · rw [k] at d2
                cases d2
          · show dget (dput s.2 q _) p = some w ↔ _
            rw [dput_get]
            by_cases z : q = p
            · subst z
              rw [if_pos rfl]
              -- the least of all so far
              have key1 : ∀ v, (match dget s.2 q with
                  | none => c.1
                  | some o => if wlt lt c.1 o then c.1 else o) = v → isMin lt q v (pre ++ [c]) := by
                intro v e
                cases o : dget s.2 q with
                | none =>
                  rw [o] at e
                  have e : c.1 = v := e
                  refine ⟨⟨c, (mem c).mpr (.inr rfl), k, e⟩, fun x hx hk => ?_⟩
                  rcases (mem x).mp hx with hx | rfl
                  · -- then something stood there
                    exact absurd o (by
                      obtain ⟨w0, hw0⟩ := ex_min h pre q ⟨x, hx, hk⟩
                      rw [(R.isM q w0).mpr hw0]
                      exact fun z => nomatch z)
                  · rw [e]
                    exact h.w.irr _
                | some o' =>
                  rw [o] at e
                  have e3 : (if wlt lt c.1 o' then c.1 else o') = v := e
                  clear e
                  obtain ⟨⟨d, d1, d2, d3⟩, d4⟩ := (R.isM q o').mp o
                  cases lc : wlt lt c.1 o' with
                  | true =>
                    rw [lc, if_pos rfl] at e3
                    refine ⟨⟨c, (mem c).mpr (.inr rfl), k, e3⟩, fun x hx hk => ?_⟩
                    rcases (mem x).mp hx with hx | rfl
                    · have q1 := d4 x hx hk
                      cases q2 : wlt lt x.1 v with
                      | false => rfl
                      | true =>
                        rw [← e3] at q2
                        rw [h.w.tr _ _ _ q2 lc] at q1
                        cases q1
                    · rw [e3]
                      exact h.w.irr _
                  | false =>
                    rw [lc, if_neg Bool.false_ne_true] at e3
                    refine ⟨⟨d, (mem d).mpr (.inl d1), d2, d3.trans e3⟩, fun x hx hk => ?_⟩
                    rcases (mem x).mp hx with hx | rfl
                    · rw [← e3]
                      exact d4 x hx hk
                    · rw [← e3]
                      exact lc
              constructor
              · intro e
                exact key1 w (Option.some.inj e)
              · intro m
                exact congrArg some (isMin_uni h (key1 _ rfl) m)
            · rw [if_neg z, R.isM]
              constructor
              · rintro ⟨⟨d, d1, d2⟩, d4⟩
                refine ⟨⟨d, (mem d).mpr (.inl d1), d2⟩, fun x hx hk => ?_⟩
                rcases (mem x).mp hx with hx | rfl
                · exact d4 x hx hk
                · rw [k] at hk
                  exact absurd (Option.some.inj hk) z
              · rintro ⟨⟨d, d1, d2, d3⟩, d4⟩
                refine ⟨?_, fun x hx => d4 x ((mem x).mpr (.inl hx))⟩
                rcases (mem d).mp d1 with d1 | rfl
                · exact ⟨d, d1, d2, d3⟩
                · rw [k] at d2
                  exact absurd (Option.some.inj d2) z
  have := go cs [] ([], []) ⟨fun w => ⟨(fun z => nomatch z), (fun ⟨_, z, _⟩ => nomatch z)⟩, .nil, fun p w => ⟨(fun z => nomatch z), (fun ⟨⟨_, z, _⟩, _⟩ => nomatch z)⟩⟩
  exact this
theorem minW_of (h : Lin lt) {ws : List (List L)} {w : List L} (m : w ∈ ws) (l : ∀ x ∈ ws, x = w ∨ wlt lt w x = true) : minW lt ws = some w := by
  have go : ∀ (ws : List (List L)) (m : List L), ws.foldl (fun m x => if wlt lt x m then x else m) m ∈ m :: ws ∧ ∀ x ∈ m :: ws, wlt lt x (ws.foldl (fun m x => if wlt lt x m then x else m) m) = false := by
    intro ws
    induction ws with
    | nil =>
      intro m
      refine ⟨List.mem_cons_self, fun x hx => ?_⟩
      rw [List.mem_singleton.mp hx]
      exact h.w.irr _
    | cons y ws ih =>
      intro m
      show (ws.foldl _ (if wlt lt y m then y else m)) ∈ _ ∧ ∀ x ∈ m :: y :: ws, wlt lt x (ws.foldl _ (if wlt lt y m then y else m)) = false
      cases c : wlt lt y m with
      | true =>
        rw [if_pos rfl]
        obtain ⟨a, b⟩ := ih y
        refine ⟨List.mem_cons_of_mem _ a, fun x hx => ?_⟩
        rcases List.mem_cons.mp hx with rfl | hx
        · have q1 := b y List.mem_cons_self
          cases q2 : wlt lt x (ws.foldl (fun m x => if wlt lt x m then x else m) y) with
          | false => rfl
          | true =>
            rw [h.w.tr _ _ _ c q2] at q1
            cases q1
        · exact b x hx
      | false =>
        rw [if_neg Bool.false_ne_true]
        obtain ⟨a, b⟩ := ih m
        refine ⟨?_, fun x hx => ?_⟩
        · rcases List.mem_cons.mp a with a | a
          · rw [a]
            exact List.mem_cons_self
          · exact List.mem_cons_of_mem _ (List.mem_cons_of_mem _ a)
        · rcases List.mem_cons.mp hx with rfl | hx
          · exact b x List.mem_cons_self
          · rcases List.mem_cons.mp hx with rfl | hx
            · cases q : wlt lt x (ws.foldl (fun m x => if wlt lt x m then x else m) m) with
              | false => rfl
              | true =>
                have q1 := b m List.mem_cons_self
                -- x is not less than m, the result not greater than m
                cases q3 : wlt lt (ws.foldl (fun m x => if wlt lt x m then x else m) m) m with
                | true =>
                  rw [h.w.tr _ _ _ q q3] at c
                  cases c
                | false =>
                  have e := h.w.tri _ _ q1 q3
                  rw [← e] at q
                  rw [q] at c
                  cases c
            · exact b x (List.mem_cons_of_mem _ hx)
  cases ws with
  | nil => cases m
  | cons v ws =>
    obtain ⟨a, b⟩ := go ws v
    show some _ = some w
    rcases l _ a with e | e
    · rw [e]
    · have := b w m
      rw [e] at this
      cases this
/-! ### a level -/
variable {A} {B}
theorem cands_asc (h : Lin lt) (hA : ∀ s, (A s).Pairwise fun y z => lt y.1 z.1 = true) {Q : List (Ent L)} {k : Nat} (asc : Q.Pairwise fun e d => wlt lt e.2 d.2 = true) (len : ∀ e ∈ Q, e.2.length = k) : Asc lt (cands A B Q) := by
  induction Q with
  | nil => exact .nil
  | cons e Q ih =>
    obtain ⟨a1, a2⟩ := List.pairwise_cons.mp asc
    show Asc lt (cand A B e ++ cands A B Q)
    refine List.pairwise_append.mpr ⟨?_, ih a2 fun d hd => len d (List.mem_cons_of_mem _ hd), fun c hc d hd => ?_⟩
    · unfold cand
      refine List.pairwise_map.mpr ((hA _).imp fun {y z} l => ?_)
      show wlt lt (e.2 ++ [y.1]) (e.2 ++ [z.1]) = true
      rw [wlt_snoc rfl, if_pos rfl, if_neg (fun q => by rw [q, h.irr] at l; cases l)]
      exact l
    · obtain ⟨y, _, rfl⟩ := List.mem_map.mp hc
      obtain ⟨e2, m2, hd⟩ := List.mem_flatMap.mp hd
      obtain ⟨z, _, rfl⟩ := List.mem_map.mp hd
      have l := a1 e2 m2
      show wlt lt (e.2 ++ [y.1]) (e2.2 ++ [z.1]) = true
      rw [wlt_snoc ((len e List.mem_cons_self).trans (len e2 (List.mem_cons_of_mem _ m2)).symm), if_neg (fun q => by rw [q, h.w.irr] at l; cases l)]
      exact l
structure Lv (lt : L → L → Bool) (U : List Pr) (latest : List (Ent L)) (seen : List Pr) (Q : List (Ent L)) (met : List Pr) (k : Nat) : Prop where
  nodL : (latest.map (·.1)).Nodup
  same : ∀ e, e ∈ latest ↔ e ∈ Q
  seen : ∀ p, p ∈ seen ↔ p ∈ met
  asc : Q.Pairwise fun e d => wlt lt e.2 d.2 = true
  len : ∀ e ∈ Q, e.2.length = k
  nodM : met.Nodup
  sub : ∀ p ∈ met, p ∈ U
  inM : ∀ e ∈ Q, e.1 ∈ met
theorem Lv.start {U : List Pr} (h0 : ((0, 0) : Pr) ∈ U) : Lv lt U [(((0, 0) : Pr), ([] : List L))] [(0, 0)] [((0, 0), [])] [(0, 0)] 0 :=
  ⟨List.nodup_cons.mpr ⟨(fun z => nomatch z), .nil⟩, fun e => Iff.rfl, fun p => Iff.rfl, List.pairwise_cons.mpr ⟨(fun e z => nomatch z), .nil⟩, fun e he => by rw [List.mem_singleton.mp he]; rfl, List.nodup_cons.mpr ⟨(fun z => nomatch z), .nil⟩,
    fun p hp => by rw [List.mem_singleton.mp hp]; exact h0, fun e he => by rw [List.mem_singleton.mp he]; exact List.mem_cons_self⟩
theorem turn (h : Lin lt) (hA : ∀ s, (A s).Pairwise fun y z => lt y.1 z.1 = true) {U : List Pr} (hU : ∀ (p : Pr) (w : List L) (c : Cand L) (q : Pr), p ∈ U → c ∈ cand A B (p, w) → key c = some q → q ∈ U) {latest Q : List (Ent L)} {seen met : List Pr} {k f : Nat} (V : Lv lt U latest seen Q met k)
    (hf : Q.length + (U.length - met.length) ≤ f) (r : List (List L) × List (Ent L)) (hr : r = lrun lt (cands A B latest)) :
    (r.1 ≠ [] → bfs A B f Q met = minW lt r.1) ∧ (r.1 = [] → ∃ Q' met', bfs A B f Q met = bfs A B (f - Q.length) Q' met' ∧ Lv lt U (later r.2 seen) (seen ++ (later r.2 seen).map (·.1)) Q' met' (k + 1) ∧ Q'.length + (U.length - met'.length) ≤ f - Q.length) := by
  have R := lrun_ok h (cands A B latest)
  rw [← hr] at R
  have asc := cands_asc (B := B) h hA V.asc V.len
  have mem : ∀ c, c ∈ cands A B latest ↔ c ∈ cands A B Q := fun c => by
    unfold cands
    rw [List.mem_flatMap, List.mem_flatMap]
    exact ⟨fun ⟨e, e1, e2⟩ => ⟨e, (V.same e).mp e1, e2⟩, fun ⟨e, e1, e2⟩ => ⟨e, (V.same e).mpr e1, e2⟩⟩
  have pass := bfs_pass A B (f - Q.length) Q [] met
  rw [List.append_nil, Nat.sub_add_cancel (by omega)] at pass
  have kn : ∀ c : Cand L, key c = none ↔ c.2.2 = none := fun c => by
    obtain ⟨w, n, b⟩ := c
    cases b with
    | none => exact ⟨fun _ => rfl, fun _ => rfl⟩
    | some b => exact ⟨(fun z => nomatch z), (fun z => nomatch z)⟩
  constructor
  · intro ne
    obtain ⟨w, hw⟩ := List.exists_mem_of_ne_nil _ ne
    obtain ⟨c, c1, c2, _⟩ := (R.told w).mp hw
    obtain ⟨d, d1, d2, d3, d4⟩ := go_inl asc (met := met) (out := []) ⟨c, (mem c).mp c1, (kn c).mp c2⟩
    rw [pass, d3]
    refine (minW_of h ((R.told _).mpr ⟨d, (mem d).mpr d1, (kn d).mpr d2, rfl⟩) fun x hx => ?_).symm
    obtain ⟨e, e1, e2, e3⟩ := (R.told x).mp hx
    rcases d4 e ((mem e).mp e1) ((kn e).mp e2) with q | q
    · left
      rw [← e3, q]
    · right
      rw [← e3]
      exact q
  · intro nil
    have no : ∀ c ∈ cands A B Q, c.2.2 ≠ none := fun c hc z => by
      have := (R.told c.1).mpr ⟨c, (mem c).mpr hc, (kn c).mpr z, rfl⟩
      rw [nil] at this
      cases this
    obtain ⟨m', new, g, W⟩ := go_inr h asc no met []
    rw [List.nil_append] at g
    have lat : ∀ p w, (p, w) ∈ later r.2 seen ↔ (p, w) ∈ new := fun p w => by
      unfold later
      rw [List.mem_filter, dget_iff R.nod, R.isM, W.isM, isMin_of mem]
      show (_ ∧ (!decide (p ∈ seen)) = true) ↔ _
      rw [Bool.not_eq_true', decide_eq_false_iff_not, V.seen]
      exact And.comm
    have wl : ∀ e ∈ new, e.2.length = k + 1 := fun e he => by
      obtain ⟨c, c1, c2, _⟩ := W.wds e he
      obtain ⟨e2, m2, hc⟩ := List.mem_flatMap.mp c1
      obtain ⟨z, _, rfl⟩ := List.mem_map.mp hc
      rw [← c2]
      show (e2.2 ++ [z.1]).length = _
      rw [List.length_append, V.len e2 m2]
      rfl
    have sub : ∀ p ∈ m', p ∈ U := fun p hp => by
      rcases (W.mem p).mp hp with q | q
      · exact V.sub p q
      · obtain ⟨e, e1, rfl⟩ := List.mem_map.mp q
        obtain ⟨c, c1, _, c3⟩ := W.wds e e1
        obtain ⟨e2, m2, hc⟩ := List.mem_flatMap.mp c1
        exact hU e2.1 e2.2 c _ (V.sub _ (V.inM e2 m2)) hc c3
    have small : m'.length ≤ U.length := len_le (W.nod V.nodM) sub
    refine ⟨new, m', by rw [pass, g], ⟨?_, fun e => lat e.1 e.2, fun p => ?_, W.asc, wl, W.nod V.nodM, sub, fun e he => (W.mem _).mpr (.inr (List.mem_map.mpr ⟨e, he, rfl⟩))⟩, ?_⟩
    · exact (List.Sublist.map (f := fun e : Ent L => e.1) List.filter_sublist).nodup R.nod
    · rw [List.mem_append, V.seen, W.mem]
      constructor
      · rintro (q | q)
        · exact .inl q
        · obtain ⟨e, e1, rfl⟩ := List.mem_map.mp q
          exact .inr (List.mem_map.mpr ⟨e, (lat e.1 e.2).mp e1, rfl⟩)
      · rintro (q | q)
        · exact .inl q
        · obtain ⟨e, e1, rfl⟩ := List.mem_map.mp q
          exact .inr (List.mem_map.mpr ⟨e, (lat e.1 e.2).mpr e1, rfl⟩)
    · have := W.len
      omega
theorem done {U : List Pr} {seen met : List Pr} {Q : List (Ent L)} {k f : Nat} (V : Lv lt U [] seen Q met k) : bfs A B f Q met = none := by
  have : Q = [] := by
    cases Q with
    | nil => rfl
    | cons e Q => cases (V.same e).mpr List.mem_cons_self
  rw [this]
  exact bfs_nil _ _ _ _
end
end V13
namespace K5
open PySem PySem.Spec PyProof.Rows L2
/-! ### the word that met a pair -/
theorem bm_run {K : PySem.W.Frag} {T : String} {r : V → List V → Hp → VK → Prop} {to : TE} {t : TA} {σ : L2.St} {H : Hp} {Q : VK} {x : V} (ho : Val to σ H x) (ht : tyV K T x H) (ha : t σ H fun vs H2 => r x vs H2 Q) : tBM K T r to t σ H Q := ho _ ⟨ht, ha⟩
abbrev Qe := (Nat × Nat) × List Lt
/-- an entry of the queue: its pair, whence it was met, by which letter -/
def QeAt (H : Hp) (qs : List Qe) (i : Nat) (e : Addr) (q : Qe) : Prop := ∃ (prev : Int) (l : Addr), H e = some (.tup [.int q.1.1, .int q.1.2, .int prev, .ref l]) ∧
  ((i = 0 ∧ q.2 = []) ∨ ∃ (j : Nat) (x : Lt) (q' : Qe), j < i ∧ prev = (j : Nat) ∧ LtAt H l x ∧ qs[j]? = some q' ∧ q.2 = q'.2 ++ [x])
structure QAt (H : Hp) (es : List Addr) (qs : List Qe) : Prop where
  len : es.length = qs.length
  at_ : ∀ (i : Nat) (q : Qe), qs[i]? = some q → ∃ e, es[i]? = some e ∧ QeAt H qs i e q
theorem QeAt.mono {H H' : Hp} (k : TKeep H H') {qs : List Qe} {i : Nat} {e : Addr} {q : Qe} (h : QeAt H qs i e q) : QeAt H' qs i e q := by
  obtain ⟨p, l, h1, h2⟩ := h
  refine ⟨p, l, k _ _ h1, ?_⟩
  rcases h2 with h2 | ⟨j, x, q', a, b, c, d⟩
  · exact .inl h2
  · exact .inr ⟨j, x, q', a, b, k _ _ c, d⟩
theorem QAt.mono {H H' : Hp} (k : TKeep H H') {es : List Addr} {qs : List Qe} (h : QAt H es qs) : QAt H' es qs := ⟨h.len, fun i q e => by
  obtain ⟨a, h1, h2⟩ := h.at_ i q e
  exact ⟨a, h1, h2.mono k⟩⟩
def spWordMet : Sp := fun vs H Q _ => ∃ (qa : Addr) (es : List Addr) (qs : List Qe) (a : Nat) (q : Qe), vs = [.ref qa, .int (a : Nat)] ∧ H qa = some (.lst (es.map V.ref)) ∧ QAt H es qs ∧ qs[a]? = some q ∧ q.2.length ≤ 10000 ∧
  ∀ (H' : Hp) (p : Addr), Same H H' → WdAt H' p q.2 → Q (.ref p) H'
abbrev nmWm : List Str := ["queue", "at", "letters"]
theorem sc_word_met : FnScope nmWm ["queue", "at"] (defScope s_word_met) := ⟨rfl, rfl, rfl, by decide +kernel, rfl, by decide +kernel, by decide +kernel⟩
theorem paired_rev {α β : Type} {F : α → β → Prop} : ∀ {l : List α} {m : List β}, Paired F l m → Paired F l.reverse m.reverse
  | _, _, .nil => .nil
  | _, _, .cons x r => by
    rw [List.reverse_cons, List.reverse_cons]
    exact paired_app (paired_rev r) x
section
variable {P : Program} {w : World} {K : PySem.W.Frag} {mg : Str → Option Value} {base : Heap}
theorem ok_word_met {f : Addr} {fd : FuncData} (B : Bt mg) (D : Df K mg "word_that_met" s_word_met f fd ["queue", "at"]) : FnOk P w K mg base CX0 1 f fd ["queue", "at"] spWordMet := by
  refine D.F.ok sc_word_met (fun vs H Q E h => ?_) (fun cdv A outer s H vs Q E hr h => ?_)
  · obtain ⟨qa, es, qs, a, q, rfl, _⟩ := h
    rfl
  · obtain ⟨qa, es, qs, a, q, rfl, hq, qat, ea, wl, k⟩ := h
    have S := sc_word_met
    refine ⟨_, (pss_cons (ps_set (i := 2) S.nd rfl (.inl rfl) (pe_lst pa_nil))
      (pss_cons (ps_while PassesOwn.never (pt_cmpR op_gt (pv 1) pe_int (nomark _))
        (pss_cons (ps_expr (pe_bm PySem.F.plainAttrs_list PySem.F.slot_list_append PySem.F.type_list_append mt_append (pv 2) (pa_cons (pe_ix (r := rIxT K) ix_tup (pe_ix (r := rIxL K) ix_list (pv 0) (pv 1) (fun _ _ => rfl)) pe_int (fun _ _ => rfl)) pa_nil)))
      (pss_one (ps_set (i := 1) S.nd rfl (.inl rfl) (pe_ix (r := rIxT K) ix_tup (pe_ix (r := rIxL K) ix_list (pv 0) (pv 1) (fun _ _ => rfl)) pe_int (fun _ _ => rfl))))))
      (pss_one (ps_ret (pe_tupleOf (by rfl) B.m_tuple (pe_revL (pv 2))))))), ?_⟩
    dsimp only [tSeq, tAsg, tLst, tNil]
    refine ⟨Nat.zero_le _, fun M nM => ?_⟩
    have qM : qa ≠ M := ne_of_none hq nM
    try dsimp only [gName]
    show tSeq (tWhile _ _) _ _ _ _
    dsimp only [tSeq]
    unfold tWhile
    refine ⟨fun (m : Nat) (σ : L2.St) (H' : Hp) => ∃ (b : Nat) (qb : Qe) (sf : List Lt) (ms : List Addr), m = b ∧ σ = [some (.ref qa), some (.int (b : Nat)), some (.ref M)] ∧ qs[b]? = some qb ∧ q.2 = qb.2 ++ sf ∧ Same H H' ∧ H' M = some (.lst (ms.map V.ref)) ∧ Paired (LtAt H') ms sf.reverse, ⟨a, a, q, [], [], rfl, rfl, ea, (List.append_nil _).symm, same_upd nM, upd_same, .nil⟩, ?_⟩
    rintro m σ H' ⟨b, qb, sf, ms, rfl, rfl, eb, ew, s1, hM, pm⟩
    obtain ⟨e, ee, prev, l, he, hh⟩ := qat.at_ m qb eb
    have he' := s1 _ _ he
    refine (val_op (z := .bl (decide ((m : Int) > 0))) (val_var (v := .int (m : Nat)) rfl) val_c fun Q q => ⟨_, _, rfl, rfl, q⟩) _ ⟨_, rfl, ?_⟩
    have vE : ∀ {σ : L2.St} {H2 : Hp} {j : Nat} {v : V}, σ[0]? = some (some (.ref qa)) → σ[1]? = some (some (.int (m : Nat))) → Same H H2 → ([V.int qb.1.1, V.int qb.1.2, V.int prev, V.ref l] : List V)[j]? = some v → Val (tOp (rIxT K) (tOp (rIxL K) (tVar 0) (tVar 1)) (tC (.int (j : Nat)))) σ H2 v := fun h0 h1 s2 hj =>
      val_ixT (val_ixL (val_var h0) (val_var h1) (SqL.of (s2 _ _ hq)) (atI_nat (v := V.ref e) (by rw [List.getElem?_map, ee]; rfl))) val_c (SqT.of (s2 _ _ he)) (atI_nat hj)
    rcases hh with ⟨m0, q0⟩ | ⟨j, x, q', jm, ep, hl, eq', ew'⟩
    · subst m0
      rw [show decide (((0 : Nat) : Int) > 0) = false by decide]
      refine iteF ?_
      rw [q0, List.nil_append] at ew
      dsimp only [tRet, tThen, tRevL]
      refine (val_var (v := .ref M) rfl) _ ⟨M, _, rfl, SqL.of hM, fun r nr => .inl ⟨r, _, rfl, SqL.of upd_same, fun p np => ?_⟩⟩
      have s2 := (same_upd (o := .lst (ms.map V.ref).reverse) nr).trans (same_upd (o := .tup (ms.map V.ref).reverse) np)
      refine k _ p (s1.trans s2) ⟨ms.reverse, by rw [upd_same, List.map_reverse], ?_⟩
      rw [ew]
      have := paired_rev pm
      rw [List.reverse_reverse] at this
      exact Paired.mapP this fun _ _ e => s2 _ _ e
    · rw [decide_eq_true (show (m : Int) > 0 by omega)]
      refine iteT ?_
      refine ⟨fun (σ : L2.St) (H2 : Hp) => ∃ (b : Nat) (qb : Qe) (sf : List Lt) (ms : List Addr), b < m ∧ σ = [some (.ref qa), some (.int (b : Nat)), some (.ref M)] ∧ qs[b]? = some qb ∧ q.2 = qb.2 ++ sf ∧ Same H H2 ∧ H2 M = some (.lst (ms.map V.ref)) ∧ Paired (LtAt H2) ms sf.reverse, fun σ' H2 ⟨b, qb, sf, ms, h1, h2⟩ => ⟨b, h1, b, qb, sf, ms, rfl, h2⟩, ?_⟩
      have lenm := Paired.length pm
      rw [List.length_reverse] at lenm
      have lq : sf.length ≤ q.2.length := by
        rw [ew, List.length_append]
        omega
      dsimp only [tSeq, tDrop]
      refine bm_run (x := .ref M) (val_var rfl) (.inl ⟨rfl, _, SqL.of hM⟩) ?_
      dsimp only [tCons, tNil]
      refine (vE (j := 3) rfl rfl s1 rfl) _ ⟨M, _, .ref l, rfl, rfl, hM, by rw [List.length_map, lenm]; exact Nat.lt_of_le_of_lt (Nat.le_trans lq wl) (by decide), ?_⟩
      have s2 : Same H (upd H' M (.lst (ms.map V.ref ++ [.ref l]))) := fun b o e => by
        rw [upd_ne (ne_of_none e nM)]
        exact s1 _ _ e
      try dsimp only [tSeq, tAsg]
      refine (vE (j := 2) rfl rfl s2 rfl) _ ?_
      try dsimp only [gName]
      have tk : ∀ b zs, H' b = some (.tup zs) → (upd H' M (.lst (ms.map V.ref ++ [.ref l]))) b = some (.tup zs) := fun b zs e => by
        rw [upd_ne (fun z => by rw [z, hM] at e; cases e)]
        exact e
      refine ⟨j, q', x :: sf, ms ++ [l], jm, by rw [← ep]; rfl, eq', by rw [ew, ew', List.append_assoc]; rfl, s2, ?_, ?_⟩
      · rw [upd_same, List.map_append]
        rfl
      · rw [List.reverse_cons]
        exact paired_app (Paired.mapP pm fun _ _ e => tk _ _ e) (tk _ _ (s1 _ _ hl))
end
end K5
namespace K5
open PySem PySem.Spec PyProof.Rows L2
/-! ### pairs as keys; two searches -/
def pairE (p : Nat × Nat) : PyData := .tuple [.int p.1, .int p.2]
theorem pairE_inj : Inj pairE := by
  rintro ⟨a, b⟩ ⟨c, d⟩ e
  unfold pairE at e
  injection e with e
  injection e with e1 e2
  injection e1 with e1
  injection e2 with e2 _
  injection e2 with e2
  have h1 : a = c := Int.ofNat.inj e1
  have h2 : b = d := Int.ofNat.inj e2
  rw [h1, h2]
theorem pairE_dep (p : Nat × Nat) : (nkOf (pairE p)).depth ≤ 8 := by
  unfold pairE
  simp only [nkOf, nksOf, NestedKey.depth, NestedKey.depthAll]
  decide
theorem hu10 {k : Nat} {A : Around} (hr : Room k A) : A.units + 10 < cLine := by
  have := hr.units
  omega
section
variable {β : Type} [DecidableEq β] {enc : β → PyData} {X : Cx} {o i : Expr} {td ty : TE}
theorem pc_dninV (inj : Inj enc) (hu : X.A.units + 10 < cLine) (hi : PE X i ty) (ho : PE X o td) : PC X .NotIn i o (tDNinV X.prog X.w enc ty td) := by
  refine ⟨fun pins s σ H Q I h => ?_⟩
  refine thn (hi.run pins s σ H _ I h) fun iv s1 ⟨y, H1, I1, ry, q1⟩ => thn (ho.run pins s1 σ H1 _ I1 q1) fun u s2 ⟨x, H2, I2, rx, a, b, d, kvs, ex, ey, D, hd, dp, q2⟩ => ?_
  subst ex ey
  obtain rfl : u = Value.ref a := rx
  obtain rfl : iv = Value.ref b := ry
  obtain ⟨⟨xs, e, ka⟩, ne, _⟩ := D
  show wpAny _ _ (do return Value.bool (!(← contains (.ref a) (.ref b)))) _ _ s2
  refine wpAny_bind (wpAny_contains_heap (room_nk hu) ⟨hd.nested I2 rfl, dp⟩ ne (dctH_at I2 e ka) (wpAny_pure ?_))
  rw [keys_ofV inj hd.key ka]
  exact ⟨.bl _, H2, I2.tok _, rfl, q2⟩
end
theorem catA_any {K : PySem.W.Frag} {H : Hp} {a b : Addr} {xs ys : List V} {Q : VK} (ha : H a = some (.tup xs)) (hb : H b = some (.tup ys)) (sm : xs.length + ys.length ≤ 20000) (q : ∀ p H', Same H H' → H' p = some (.tup (xs ++ ys)) → Q (.ref p) H') : rCatA K (.ref a) (.ref b) H Q := by
  refine ⟨a, b, xs, ys, rfl, rfl, SqT.of ha, SqT.of hb, Nat.le_trans sm (by decide), fun e => ?_, fun _ e => ?_, fun _ _ p np => ?_⟩
  · refine q b H (Same.refl _) ?_
    rw [e]
    exact hb
  · refine q a H (Same.refl _) ?_
    rw [e, List.append_nil]
    exact ha
  · exact q p _ (same_upd np) upd_same
/-- what a state lets, with the next one -/
def Af (sts : List (List RwD)) (s : Nat) : List (Lt × Nat) := match sts[s]? with
  | some rs => (letsR rs).map fun e => (e.1, e.2.toNat)
  | none => []
def Bf (sts : List (List RwD)) (t : Nat) (l : Lt) : Option Nat := match sts[t]? with
  | some rs => (behR rs l.1.1 l.1.2 l.2).map Int.toNat
  | none => none
def fmN (A B : List (List RwD)) : Nat := A.length * B.length + 2
def fmR (A B : List (List RwD)) : Option (List Lt) := V13.bfs (Af A) (Bf B) (fmN A B) [((0, 0), [])] [(0, 0)]
/-- all pairs of states -/
def allP (a b : Nat) : List (Nat × Nat) := (List.range a).flatMap fun i => (List.range b).map fun j => (i, j)
theorem allP_mem {a b : Nat} {p : Nat × Nat} : p ∈ allP a b ↔ p.1 < a ∧ p.2 < b := by
  unfold allP
  rw [List.mem_flatMap]
  constructor
  · rintro ⟨i, hi, hp⟩
    obtain ⟨j, hj, rfl⟩ := List.mem_map.mp hp
    exact ⟨List.mem_range.mp hi, List.mem_range.mp hj⟩
  · rintro ⟨h1, h2⟩
    exact ⟨p.1, List.mem_range.mpr h1, List.mem_map.mpr ⟨p.2, List.mem_range.mpr h2, rfl⟩⟩
theorem allP_len (a b : Nat) : (allP a b).length = a * b := by
  unfold allP
  rw [List.length_flatMap]
  have : ∀ l : List Nat, (l.map fun _ => b).sum = l.length * b := by
    intro l
    induction l with
    | nil => simp
    | cons x l ih =>
      rw [List.map_cons, List.sum_cons, ih, List.length_cons, Nat.succ_mul, Nat.add_comm]
  simp only [List.length_map, List.length_range]
  rw [this, List.length_range]
theorem let_in {m : Nat} {rs : List RwD} (x : StX 4 m rs) (ok : ∀ r ∈ rs, RowOk r) {e : Lt × Int} (h : e ∈ letsR rs) : 0 ≤ e.2 ∧ e.2 < (m : Int) ∧ LtOk e.1 := by
  unfold letsR at h
  obtain ⟨r, hr, he⟩ := List.mem_flatMap.mp h
  unfold letR at he
  obtain ⟨o, ho, rfl⟩ := List.mem_map.mp he
  have := (x.2 r hr).2.2.2 o ho
  exact ⟨this.2.2.1, this.2.2.2, (ok r hr).1, (ok r hr).2.1, this.1, this.2.1⟩
end K5
namespace K5
open PySem PySem.Spec PyProof.Rows L2
/-! ### first_more -/
def sgM (p q : V) (v2 v3 v4 v5 v6 v7 v8 v9 v10 v11 : Option V) : L2.St := [some p, some q, v2, v3, v4, v5, v6, v7, v8, v9, v10, v11]
theorem drop_at {α : Type} {l : List α} {i : Nat} {x : α} (h : l[i]? = some x) : l.drop i = x :: l.drop (i + 1) := by
  obtain ⟨il, e⟩ := List.getElem?_eq_some_iff.mp h
  rw [List.drop_eq_getElem_cons il, e]
theorem forL_any {K : PySem.W.Frag} {σ : L2.St} {H : Hp} {D0 : L2.Ends} {g : TG} {tb : TS} {u : TS} {te : TE} (R : Addr → List V → Hp → Prop) (hv : ∀ Q : VK, (∀ p xs H1, H1 p = some (.lst xs) → R p xs H1 → Q (.ref p) H1) → te σ H Q)
    (h : ∀ p xs H1, H1 p = some (.lst xs) → R p xs H1 → ∃ Pv : Nat → L2.St → Hp → Prop, Pv 0 σ H1 ∧ (∀ i σ H, i ≤ xs.length → Pv i σ H → SqL K H p xs) ∧ (∀ i x σ H, xs[i]? = some x → Pv i σ H → g x σ H fun σ2 H2 => tb { D0 with nx := Pv (i + 1), ct := Pv (i + 1), bk := u D0 } σ2 H2) ∧ ∀ σ H, Pv xs.length σ H → u D0 σ H) :
    tSeq (tFor (iList K te) g tb) u D0 σ H := by
  show tFor (iList K te) g tb { D0 with nx := u D0 } σ H
  unfold tFor iList
  refine hv _ fun p xs H1 hp r => ?_
  obtain ⟨Pv, h0, hl, hs, hd⟩ := h p xs H1 hp r
  exact ⟨p, rfl, ⟨_, SqL.of hp⟩, for_list (K := K) (a := p) (xs := xs) (D := { D0 with nx := u D0 }) Pv h0 hl hs hd⟩
abbrev nmMore : List Str := ["pact", "other", "value", "met", "queue", "at", "one", "two", "_", "letter", "number", "beside"]
theorem sc_first_more : FnScope nmMore ["pact", "other"] (defScope s_first_more) := ⟨rfl, rfl, rfl, by decide +kernel, rfl, by decide +kernel, by decide +kernel⟩
def spMore (CP : Addr) : Sp := fun vs H Q E =>
  (∃ (p q : Addr) (A B : List (List RwD)), vs = [.ref p, .ref q] ∧ PcAt H p A ∧ PcX A ∧ PcAt H q B ∧ PcX B ∧ (∀ H', Same H H' → fmR A B = none → Q .non H') ∧ ∀ (H' : Hp) (r : Addr) (ws : List Lt), Same H H' → fmR A B = some ws → WdAt H' r ws → Q (.ref r) H') ∨
  (∃ (x y : V) (d : PyData), vs = [x, y] ∧ Dq H x d ∧ oddP d = true ∧ ErrK CP x H E) ∨
  (∃ (p : Addr) (A : List (List RwD)) (y : V) (d : PyData), vs = [.ref p, y] ∧ PcAt H p A ∧ PcX A ∧ Dq H y d ∧ oddP d = true ∧ ErrK CP y H E)
structure Fm (P : Program) (w : World) (na nb : Nat) (H : Hp) (dM qa : Addr) (es : List Addr) (qs : List Qe) (met : List (Nat × Nat)) (kvs : List ((Nat × Nat) × V)) (H' : Hp) : Prop where
  s : Same H H'
  hq : H' qa = some (.lst (es.map V.ref))
  qat : QAt H' es qs
  dv : DV P w pairE H' dM kvs
  ks : ∀ p, p ∈ kvs.map (·.1) ↔ p ∈ met
  nd : met.Nodup
  sub : ∀ p ∈ met, p ∈ allP na nb
  qm : ∀ x ∈ qs, x.1 ∈ met
  len : qs.length = met.length
  kl : kvs.length ≤ qs.length
  wl : ∀ (i : Nat) (x : Qe), qs[i]? = some x → x.2.length ≤ i
section
variable {P : Program} {w : World} {K : PySem.W.Frag} {mg : Str → Option Value} {base : Heap} {CP fE fP fL fB fO fM : Addr} {dE dP dL dB dO dM' : FuncData}
theorem Fm.few {na nb : Nat} {H : Hp} {dM qa : Addr} {es : List Addr} {qs : List Qe} {met : List (Nat × Nat)} {kvs : List ((Nat × Nat) × V)} {H' : Hp} (F : Fm P w na nb H dM qa es qs met kvs H') (h1 : na ≤ 90) (h2 : nb ≤ 90) : qs.length ≤ na * nb ∧ qs.length ≤ 8100 := by
  have := V13.len_le F.nd F.sub
  rw [allP_len] at this
  have m : na * nb ≤ 90 * 90 := Nat.mul_le_mul h1 h2
  rw [F.len]
  omega
theorem Fm.same {na nb : Nat} {H : Hp} {dM qa : Addr} {es : List Addr} {qs : List Qe} {met : List (Nat × Nat)} {kvs : List ((Nat × Nat) × V)} {H' H2 : Hp} (F : Fm P w na nb H dM qa es qs met kvs H') (s : Same H' H2) : Fm P w na nb H dM qa es qs met kvs H2 :=
  ⟨F.s.trans s, s _ _ F.hq, F.qat.mono (TKeep.same s), F.dv.mono s, F.ks, F.nd, F.sub, F.qm, F.len, F.kl, F.wl⟩
theorem putV_keys {β : Type} [DecidableEq β] (kvs : List (β × V)) (d p : β) (v : V) : p ∈ (putV kvs d v).map (·.1) ↔ p = d ∨ p ∈ kvs.map (·.1) := by
  unfold putV
  split
  · rename_i m
    have : (kvs.map fun q => if q.1 = d then (q.1, v) else q).map (·.1) = kvs.map (·.1) := by
      rw [List.map_map]
      refine List.map_congr_left fun q _ => ?_
      show (if q.1 = d then (q.1, v) else q).1 = q.1
      split <;> rfl
    rw [this]
    constructor
    · exact .inr
    · rintro (rfl | h)
      · exact m
      · exact h
  · rw [List.map_append, List.mem_append]
    constructor
    · rintro (h | h)
      · exact .inr h
      · exact .inl (List.mem_singleton.mp h)
    · rintro (h | h)
      · exact .inr (List.mem_singleton.mpr h)
      · exact .inl h
theorem Fm.push {na nb : Nat} {H : Hp} {dM qa : Addr} {es : List Addr} {qs : List Qe} {met : List (Nat × Nat)} {kvs : List ((Nat × Nat) × V)} {H' H3 : Hp} (F : Fm P w na nb H dM qa es qs met kvs H') {k : Nat × Nat} {v : V} {a : Nat} {e : Qe} {l eN : Addr} {x : Lt} (nk : k ∉ met) (kin : k ∈ allP na nb) (ea : qs[a]? = some e) (hl : LtAt H' l x)
    (keep : ∀ b, b ≠ dM → H3 b = H' b) (dv : DV P w pairE H3 dM (putV kvs k v)) (hM0 : H dM = none) (hQ1 : H qa = none) (qdM : qa ≠ dM) (nN : H3 eN = none) :
    Fm P w na nb H dM qa (es ++ [eN]) (qs ++ [(k, e.2 ++ [x])]) (k :: met) (putV kvs k v) (upd (upd H3 eN (.tup [.int k.1, .int k.2, .int (a : Nat), .ref l])) qa (.lst (es.map V.ref ++ [.ref eN]))) := by
  have hq3 : H3 qa = some (.lst (es.map V.ref)) := (keep qa qdM).trans F.hq
  have tk3 : TKeep H' H3 := fun b zs q => by
    rw [keep b (fun z => by
      obtain ⟨⟨xs, h1, _⟩, _⟩ := F.dv
      rw [z, h1] at q
      cases q)]
    exact q
  have tk5 : TKeep H3 (upd (upd H3 eN (.tup [.int k.1, .int k.2, .int (a : Nat), .ref l])) qa (.lst (es.map V.ref ++ [.ref eN]))) := fun b zs q => by
    rw [upd_ne (fun z => by rw [z, hq3] at q; cases q), upd_ne (ne_of_none q nN)]
    exact q
  have nq : eN ≠ qa := fun z => by
    rw [z, hq3] at nN
    cases nN
  have hN : (upd (upd H3 eN (.tup [.int k.1, .int k.2, .int (a : Nat), .ref l])) qa (.lst (es.map V.ref ++ [.ref eN]))) eN = some (.tup [.int k.1, .int k.2, .int (a : Nat), .ref l]) := by
    rw [upd_ne nq]
    exact upd_same
  have al : a < qs.length := (List.getElem?_eq_some_iff.mp ea).1
  have tk := fun b zs q => tk5 b zs (tk3 b zs q)
  refine ⟨fun b o q => ?_, by rw [upd_same, List.map_append]; rfl, ⟨by rw [List.length_append, List.length_append, F.qat.len]; rfl, fun i q0 hi => ?_⟩, dv.keep ?_ tk5, fun p0 => ?_, List.nodup_cons.mpr ⟨nk, F.nd⟩, fun p0 hp => ?_, fun q0 hq0 => ?_, by rw [List.length_append, F.len]; rfl, ?_, fun i q0 hi => ?_⟩
  · have n1 := ne_of_none q hQ1
    have n2 := ne_of_none q hM0
    have h3 := (keep b n2).trans (F.s _ _ q)
    rw [upd_ne n1, upd_ne (ne_of_none h3 nN)]
    exact h3
  · by_cases c : i < qs.length
    · rw [List.getElem?_append_left c] at hi
      obtain ⟨e0, h1, h2⟩ := F.qat.at_ i q0 hi
      refine ⟨e0, by rw [List.getElem?_append_left (by rw [F.qat.len]; exact c)]; exact h1, ?_⟩
      obtain ⟨pv, l0, g1, g2⟩ := h2.mono tk
      refine ⟨pv, l0, g1, ?_⟩
      rcases g2 with g2 | ⟨j, x0, q', b1, b2, b3, b4, b5⟩
      · exact .inl g2
      · exact .inr ⟨j, x0, q', b1, b2, b3, by rw [List.getElem?_append_left (by omega)]; exact b4, b5⟩
    · have il : i < (qs ++ [(k, e.2 ++ [x])]).length := (List.getElem?_eq_some_iff.mp hi).1
      rw [List.length_append] at il
      have il : i < qs.length + 1 := il
      have ie : i = qs.length := by omega
      subst ie
      rw [List.getElem?_append_right (Nat.le_refl _), Nat.sub_self] at hi
      injection hi with hi
      subst hi
      refine ⟨eN, by rw [← F.qat.len, List.getElem?_append_right (Nat.le_refl _), Nat.sub_self]; rfl, (a : Nat), l, hN, .inr ⟨a, x, e, al, rfl, tk _ _ hl, by rw [List.getElem?_append_left al]; exact ea, rfl⟩⟩
  · have nd : dM ≠ eN := fun z => by
      obtain ⟨⟨xs, h1, _⟩, _⟩ := dv
      rw [z, nN] at h1
      cases h1
    rw [upd_ne qdM.symm, upd_ne nd]
  · rw [putV_keys, F.ks, List.mem_cons]
  · rcases List.mem_cons.mp hp with rfl | hp
    · exact kin
    · exact F.sub _ hp
  · rcases List.mem_append.mp hq0 with h | h
    · exact List.mem_cons_of_mem _ (F.qm _ h)
    · rw [List.mem_singleton.mp h]
      exact List.mem_cons_self
  · have := putV_len kvs k v
    have := F.kl
    rw [List.length_append]
    show _ ≤ qs.length + 1
    omega
  · by_cases c : i < qs.length
    · rw [List.getElem?_append_left c] at hi
      exact F.wl i q0 hi
    · have il : i < (qs ++ [(k, e.2 ++ [x])]).length := (List.getElem?_eq_some_iff.mp hi).1
      rw [List.length_append] at il
      have il : i < qs.length + 1 := il
      have ie : i = qs.length := by omega
      subst ie
      rw [List.getElem?_append_right (Nat.le_refl _), Nat.sub_self] at hi
      injection hi with hi
      subst hi
      have := F.wl a e ea
      show (e.2 ++ [x]).length ≤ _
      rw [List.length_append]
      show e.2.length + 1 ≤ _
      omega
theorem ok_first_more {f : Addr} {fd : FuncData} (B : Bt mg) (gM : ∃ t, mg "MOST_WORTHS" = some (.int 4 t)) (TP : Er K mg "BadPact" CP fE) (GE : FnOk P w K mg base CX0 1 fE dE ["self", "value"] (spErr K)) (bE : Binds K dE ["self", "value"] [])
    (D : Df K mg "first_more" s_first_more f fd ["pact", "other"]) (DP : Df K mg "is_pact" s_is_pact fP dP ["worths", "value"]) (GP : FnOk P w K mg base (L2.CX P w) 7 fP dP ["worths", "value"] spPactQ)
    (DL : Df K mg "letters_of" s_letters_of fL dL ["state"]) (DB : Df K mg "state_behind" s_state_behind fB dB ["state", "door", "worth", "answer"]) (DO : Df K mg "outcomes_of" s_outcomes_of fO dO ["state", "door", "worth"]) (DM : Df K mg "word_that_met" s_word_met fM dM' ["queue", "at"]) :
    FnOk P w K mg base (L2.CX P w) 8 f fd ["pact", "other"] (spMore CP) := by
  have GB : FnOk P w K mg base CX0 2 fB dB ["state", "door", "worth", "answer"] spStBeh := ok_state_behind DB DO
  have GL : FnOk P w K mg base CX0 1 fL dL ["state"] spLetters := ok_letters_of DL
  have GM : FnOk P w K mg base CX0 1 fM dM' ["queue", "at"] spWordMet := ok_word_met B DM
  obtain ⟨tM, gM⟩ := gM
  refine D.F.okX sc_first_more (fun vs H Q E h => ?_) (fun cdv A0 outer s H vs Q E hr h => ?_)
  · rcases h with ⟨p, q, A, C, rfl, _⟩ | ⟨x, y, d, rfl, _⟩ | ⟨p, A, y, d, rfl, _⟩ <;> rfl
  · have S := sc_first_more
    refine ⟨_, (pss_cons (ps_for (passes_of rfl) rfl (pi_tup (pe_tup (pa_cons (pv 0) (pa_cons (pv 1) pa_nil)))) (pg_name (i := 2) S.nd rfl (.inl rfl))
        (pss_one (ps_if (pt_not (pt_val (pe_call GP (hr.mono (by decide)) (by rfl) DP.g DP.F.kp DP.b .nil passL (pa_cons (pe_glob (v := .int 4) (by rfl) gM ⟨_, rfl⟩) (pa_cons (pv 2) pa_nil)))))
        (pss_one (ps_raise rfl (takes_of rfl rfl rfl rfl) (pmk_oex TP.O TP.iC TP.tI GE (hr.mono (by decide)) bE .nil pass0 (by rfl) TP.g (pa_cons (pv 2) pa_nil))))
        pss_nil)))
      (pss_cons (ps_set (i := 3) S.nd rfl (.inl rfl) (pe_disp1V (enc := pairE) (hu10 hr) (pe_tup (pa_cons pe_int (pa_cons pe_int pa_nil))) pe_bl))
      (pss_cons (ps_set (i := 4) S.nd rfl (.inl rfl) (pe_lst (pa_cons (pe_tup (pa_cons pe_int (pa_cons pe_int (pa_cons (pe_un un_neg pe_int) (pa_cons (pe_tup pa_nil) pa_nil))))) pa_nil)))
      (pss_cons (ps_set (i := 5) S.nd rfl (.inl rfl) pe_int)
      (pss_cons (ps_while (passes_of rfl) (pt_cmpR op_lt (pv 5) (pe_callB (r := rLenSq K) call_len_seq (by rfl) B.m_len PySem.boot_len (pa_cons (pv 4) pa_nil)) (nomark _))
        (pss_cons (ps_asg (pe_ix (r := rIxL K) ix_list (pv 4) (pv 5) (fun _ _ => rfl)) (pg_tup (by rfl) (pgs_cons (pg_name (i := 6) S.nd rfl (.inl rfl)) (pgs_cons (pg_name (i := 7) S.nd rfl (.inl rfl)) (pgs_cons (pg_name (i := 8) S.nd rfl (.inl rfl)) (pgs_cons (pg_name (i := 8) S.nd rfl (.inl rfl)) pgs_nil))))))
      (pss_cons (ps_for (passes_of rfl) rfl (pi_list (pe_call GL (hr.mono (by decide)) (by rfl) DL.g DL.F.kp DL.b .nil pass0 (pa_cons (pe_ix (r := rIxT K) ix_tup (pv 0) (pv 6) (fun _ _ => rfl)) pa_nil))) (pg_tup (by rfl) (pgs_cons (pg_name (i := 9) S.nd rfl (.inl rfl)) (pgs_cons (pg_name (i := 10) S.nd rfl (.inl rfl)) pgs_nil)))
        (pss_cons (ps_set (i := 11) S.nd rfl (.inl rfl) (pe_call GB (hr.mono (by decide)) (by rfl) DB.g DB.F.kp DB.b .nil pass0 (pa_cons (pe_ix (r := rIxT K) ix_tup (pv 1) (pv 7) (fun _ _ => rfl)) (pa_cons (pe_ix (r := rIxT K) ix_tup (pv 9) pe_int (fun _ _ => rfl)) (pa_cons (pe_ix (r := rIxT K) ix_tup (pv 9) pe_int (fun _ _ => rfl)) (pa_cons (pe_ix (r := rIxT K) ix_tup (pv 9) pe_int (fun _ _ => rfl)) pa_nil))))))
      (pss_cons (ps_if (pt_cmpR op_isN1 (pv 11) pe_non (nomark _))
        (pss_one (ps_ret (pe_op op_catA (pe_call GM (hr.mono (by decide)) (by rfl) DM.g DM.F.kp DM.b .nil pass0 (pa_cons (pv 4) (pa_cons (pv 5) pa_nil))) (pe_tup (pa_cons (pv 9) pa_nil)))))
        pss_nil)
      (pss_one (ps_if (pt_cmp (pc_dninV pairE_inj (hu10 hr) (pe_tup (pa_cons (pv 10) (pa_cons (pv 11) pa_nil))) (pv 3)))
        (pss_cons (ps_dputV pairE_inj (hu10 hr) (pv 3) (pe_tup (pa_cons (pv 10) (pa_cons (pv 11) pa_nil))) pe_bl rfl)
      (pss_one (ps_expr (pe_bm PySem.F.plainAttrs_list PySem.F.slot_list_append PySem.F.type_list_append mt_append (pv 4) (pa_cons (pe_tup (pa_cons (pv 10) (pa_cons (pv 11) (pa_cons (pv 5) (pa_cons (pv 9) pa_nil))))) pa_nil)))))
        pss_nil)))))
      (pss_one (ps_aug (i := 5) S.nd rfl (.inl rfl) pe_int ip_add)))))
      (pss_one (ps_ret pe_non))))))), ?_⟩
    rcases h with ⟨p, q, A, C, rfl, hp, px, hq, qx, kN, kS⟩ | ⟨x, y, d, rfl, hx, od, e⟩ | ⟨p, A, y, d, rfl, hp, px, hy, od, e⟩
    · refine forT_any (fun t xs H1 => Same H H1 ∧ xs = [.ref p, .ref q]) (fun Q kq => ?_) (fun t xs H1 ht h1 => ?_)
      · dsimp only [tTup, tCons, tNil]
        exact (val_var rfl) _ ((val_var rfl) _ ⟨by show 2 ≤ sizeLine; decide, fun t nt => kq t _ _ upd_same ⟨same_upd nt, rfl⟩⟩)
      obtain ⟨s1, rfl⟩ := h1
      refine ⟨fun i σ H' => Same H1 H' ∧ ∃ v2, σ = sgM (.ref p) (.ref q) v2 none none none none none none none none none, ⟨Same.refl _, none, rfl⟩, fun i σ H' _ ⟨s2, _⟩ => SqT.of (s2 _ _ ht), ?_, ?_⟩
      · rintro i x σ H' hx ⟨s2, v2, rfl⟩
        have s12 := s1.trans s2
        obtain ⟨r, sts, rfl, hr1, hr2⟩ : ∃ r sts, x = .ref r ∧ PcAt H r sts ∧ PcX sts := by
          rcases List.mem_cons.mp (List.mem_of_getElem? hx) with rfl | m
          · exact ⟨p, A, rfl, hp, px⟩
          · rw [List.mem_singleton.mp m]
            exact ⟨q, C, rfl, hq, qx⟩
        dsimp only [gName, tIfS, tNot, L2.tB, tCall, tCons, tNil]
        refine val_c _ ((val_var (v := .ref r) rfl) _ (.inl ⟨r, sts, rfl, hr1.mono (TKeep.same s12), hr2, fun H2 s3 => ⟨_, rfl, iteF ?_⟩⟩))
        exact ⟨s2.trans s3, _, rfl⟩
      · rintro σ H2 ⟨s2, v2, rfl⟩
        have s12 := s1.trans s2
        dsimp only [tSeq, tAsg]
        refine fun dM H3 nM neM s3 eM => ?_
        dsimp only [tTup, tCons, tNil]
        refine val_c _ (val_c _ ⟨by show 2 ≤ sizeLine; decide, fun k0 nk => ?_⟩)
        have s4 := same_upd (o := .tup [.int 0, .int 0]) nk
        have hk : (upd H3 k0 (.tup [.int 0, .int 0])) k0 = some (.tup [.int 0, .int 0]) := upd_same
        generalize (upd H3 k0 (.tup [.int 0, .int 0])) = H4 at s4 hk ⊢
        have dv0 : DV P w pairE H4 dM [] := dv_new (s4 _ _ eM) neM
        refine val_c _ ⟨k0, (0, 0), rfl, dv0, .tup hk (.cons (.int _) (.cons (.int _) .nil)), pairE_dep _, fun H5 keep dv => ?_⟩
        have sH4 : Same H H4 := (s12.trans s3).trans s4
        have hM0 : H dM = none := s12.free nM
        have s5 : Same H H5 := fun b o e => by
          rw [keep b (ne_of_none e hM0)]
          exact sH4 _ _ e
        try dsimp only [gName]
        try dsimp only [tSeq, tAsg]
        dsimp only [tLst, tTup, tUn, tCons, tNil]
        refine val_c _ (val_c _ (val_c _ ⟨1, rfl, Nat.zero_le _, fun t0 n0 => ⟨by show 4 ≤ sizeLine; decide, fun t1 n1 => ⟨by show 1 ≤ sizeLine; decide, fun qa nq => ?_⟩⟩⟩))
        have s68 := ((same_upd (o := .tup []) n0).trans (same_upd (o := .tup [.int 0, .int 0, .int (-1), .ref t0]) n1)).trans (same_upd (o := .lst [V.ref t1]) nq)
        have ht1 : (upd (upd (upd H5 t0 (.tup [])) t1 (.tup [.int 0, .int 0, .int (-1), .ref t0])) qa (.lst [V.ref t1])) t1 = some (.tup [.int 0, .int 0, .int (-1), .ref t0]) := same_upd nq _ _ upd_same
        have hqa : (upd (upd (upd H5 t0 (.tup [])) t1 (.tup [.int 0, .int 0, .int (-1), .ref t0])) qa (.lst [V.ref t1])) qa = some (.lst [V.ref t1]) := upd_same
        have hQ0 : H5 qa = none := (same_upd (o := .tup []) n0).free ((same_upd (o := .tup [.int 0, .int 0, .int (-1), .ref t0]) n1).free nq)
        have hQ1 : H qa = none := s5.free hQ0
        have qdM : qa ≠ dM := fun z => by
          obtain ⟨⟨xs, h1, _⟩, _⟩ := dv
          rw [z, h1] at hQ0
          cases hQ0
        generalize (upd (upd (upd H5 t0 (.tup [])) t1 (.tup [.int 0, .int 0, .int (-1), .ref t0])) qa (.lst [V.ref t1])) = H8 at s68 ht1 hqa ⊢
        have F0 : Fm P w A.length C.length H dM qa [t1] [((0, 0), [])] [(0, 0)] [((0, 0), .bl true)] H8 := {
          s := s5.trans s68
          hq := hqa
          qat := ⟨rfl, fun i q e => by
            match i, e with
            | 0, e =>
              injection e with e
              subst e
              exact ⟨t1, rfl, -1, t0, ht1, .inl ⟨rfl, rfl⟩⟩
            | i + 1, e => cases e⟩
          dv := dv.mono s68
          ks := fun p => Iff.rfl
          nd := List.nodup_cons.mpr ⟨(fun z => nomatch z), .nil⟩
          sub := fun p hp => by
            rw [List.mem_singleton.mp hp]
            exact allP_mem.mpr ⟨px.l0, qx.l0⟩
          qm := fun x hx => by
            rw [List.mem_singleton.mp hx]
            exact List.mem_cons_self
          len := rfl
          kl := Nat.le_refl _
          wl := fun i x e => by
            match i, e with
            | 0, e =>
              injection e with e
              subst e
              exact Nat.le_refl _
            | i + 1, e => cases e }
        try dsimp only [gName]
        try dsimp only [tSeq, tAsg]
        refine val_c _ ?_
        try dsimp only [gName]
        show tSeq (tWhile _ _) _ _ _ _
        dsimp only [tSeq]
        unfold tWhile
        refine ⟨fun (m : Nat) (σ : L2.St) (H' : Hp) => ∃ (a : Nat) (es : List Addr) (qs : List Qe) (met : List (Nat × Nat)) (kvs : List ((Nat × Nat) × V)) (v6 v7 v8 v9 v10 v11 : Option V), m + a = 9000 ∧ a ≤ qs.length ∧ σ = sgM (.ref p) (.ref q) v2 (some (.ref dM)) (some (.ref qa)) (some (.int (a : Nat))) v6 v7 v8 v9 v10 v11 ∧ Fm P w A.length C.length H dM qa es qs met kvs H' ∧ V13.bfs (Af A) (Bf C) (fmN A C - a) (qs.drop a) met = fmR A C, ⟨9000, 0, _, _, _, _, none, none, none, none, none, none, rfl, Nat.zero_le _, rfl, F0, rfl⟩, ?_⟩
        rintro m σ H9 ⟨a, es, qs, met, kvs, v6, v7, v8, v9, v10, v11, em, al, rfl, F, ev⟩
        obtain ⟨fw, f81⟩ := F.few px.l1 qx.l1
        refine (val_op (z := .bl (decide ((a : Int) < (((es.map V.ref).length : Nat) : Int)))) (val_var (v := .int (a : Nat)) rfl) (val_lenL (val_var rfl) (SqL.of F.hq)) fun Q q => ⟨_, _, rfl, rfl, q⟩) _ ⟨_, rfl, ?_⟩
        rw [List.length_map, F.qat.len]
        by_cases lt : a < qs.length
        · rw [decide_eq_true (show (a : Int) < ((qs.length : Nat) : Int) by omega)]
          refine iteT ?_
          obtain ⟨e, ee⟩ : ∃ e, qs[a]? = some e := ⟨_, List.getElem?_eq_getElem lt⟩
          obtain ⟨ea, hea, prev, le, hte, _⟩ := F.qat.at_ a e ee
          obtain ⟨e1, e2⟩ := allP_mem.mp (F.sub _ (F.qm e (List.mem_of_getElem? ee)))
          refine ⟨fun (σ : L2.St) (H' : Hp) => ∃ (es : List Addr) (qs : List Qe) (met : List (Nat × Nat)) (kvs : List ((Nat × Nat) × V)) (v6 v7 v8 v9 v10 v11 : Option V), a + 1 ≤ qs.length ∧ σ = sgM (.ref p) (.ref q) v2 (some (.ref dM)) (some (.ref qa)) (some (.int ((a + 1 : Nat) : Int))) v6 v7 v8 v9 v10 v11 ∧ Fm P w A.length C.length H dM qa es qs met kvs H' ∧ V13.bfs (Af A) (Bf C) (fmN A C - (a + 1)) (qs.drop (a + 1)) met = fmR A C, fun σ' H' ⟨es, qs, met, kvs, v6, v7, v8, v9, v10, v11, h1, h2, h3, h4⟩ => ⟨m - 1, by omega, a + 1, es, qs, met, kvs, v6, v7, v8, v9, v10, v11, by omega, h1, h2, h3, h4⟩, ?_⟩
          have ef : fmN A C - a = (fmN A C - (a + 1)) + 1 := by
            unfold fmN
            omega
          rw [ef, drop_at ee] at ev
          rw [V13.bfs_cons] at ev
          dsimp only [tSeq, tAsg]
          refine (val_ixL (val_var (v := .ref qa) rfl) (val_var rfl) (SqL.of F.hq) (atI_nat (v := V.ref ea) (by rw [List.getElem?_map, hea]; rfl))) _ ?_
          refine ⟨ea, _, rfl, SqT.of hte, rfl, _, _, rfl, _, _, rfl, _, _, rfl, _, _, rfl, rfl, ?_⟩
          try dsimp only [gName, List.set]
          obtain ⟨pps, hpp, ppp⟩ := id hp
          obtain ⟨qps, hqq, qqp⟩ := id hq
          obtain ⟨pa, epa⟩ : ∃ pa, pps[e.1.1]? = some pa := ⟨_, List.getElem?_eq_getElem (by rw [Paired.length ppp]; exact e1)⟩
          obtain ⟨ra, era, hsa⟩ := paired_at _ ppp epa
          obtain ⟨qb, eqb⟩ : ∃ qb, qps[e.1.2]? = some qb := ⟨_, List.getElem?_eq_getElem (by rw [Paired.length qqp]; exact e2)⟩
          obtain ⟨rb, erb, hsb⟩ := paired_at _ qqp eqb
          obtain ⟨xa, la, oka⟩ := px.ok ra (List.mem_of_getElem? era)
          obtain ⟨xb, lb, okb⟩ := qx.ok rb (List.mem_of_getElem? erb)
          have cd : V13.cand (Af A) (Bf C) e = (letsR ra).map fun z => (e.2 ++ [z.1], z.2.toNat, Bf C e.1.2 z.1) := by
            unfold V13.cand Af
            rw [era, List.map_map]
            rfl
          refine forL_any (fun L xs HL => ∃ ts : List Addr, xs = ts.map V.ref ∧ Same H9 HL ∧ H9 L = none ∧ Paired (LnAt HL) ts (letsR ra)) (fun Q kq => ?_) (fun L xs HL hL hR => ?_)
          · dsimp only [tCall, tCons, tNil]
            exact (val_ixT (val_var rfl) (val_var rfl) (SqT.of (F.s _ _ hpp)) (atI_nat (v := V.ref pa) (by rw [List.getElem?_map, epa]; rfl))) _ ⟨pa, ra, rfl, hsa.mono (TKeep.same F.s), la, fun r hr => (oka r hr).2.2, fun H' M ts s nM hM pl => kq M _ H' hM ⟨ts, rfl, s, nM, pl⟩⟩
          obtain ⟨ts, rfl, sL, nL, pl⟩ := hR
          have lenL := Paired.length pl
          have lq : L ≠ qa := fun z => by
            rw [z, F.hq] at nL
            cases nL
          have ldM : L ≠ dM := fun z => by
            obtain ⟨⟨xs, h1, _⟩, _⟩ := F.dv
            rw [z, h1] at nL
            cases nL
          refine ⟨fun j σ H' => ∃ (es2 : List Addr) (qs2 : List Qe) (met2 : List (Nat × Nat)) (kvs2 : List ((Nat × Nat) × V)) (out : List Qe) (v9 v10 v11 : Option V), σ = sgM (.ref p) (.ref q) v2 (some (.ref dM)) (some (.ref qa)) (some (.int (a : Nat))) (some (.int e.1.1)) (some (.int e.1.2)) (some (.ref le)) v9 v10 v11 ∧ Fm P w A.length C.length H dM qa es2 qs2 met2 kvs2 H' ∧ qs2 = qs ++ out ∧ V13.go ((V13.cand (Af A) (Bf C) e).drop j) met2 out = V13.go (V13.cand (Af A) (Bf C) e) met [] ∧ H' L = some (.lst (ts.map V.ref)) ∧ TKeep HL H', ⟨es, qs, met, kvs, [], v9, v10, v11, rfl, F.same sL, (List.append_nil _).symm, rfl, hL, TKeep.same (Same.refl _)⟩, ?_, ?_, ?_⟩
          · rintro j σ H' _ ⟨es2, qs2, met2, kvs2, out, v9, v10, v11, _, _, _, _, hL', _⟩
            exact SqL.of hL'
          · rintro j x σ H' hx ⟨es2, qs2, met2, kvs2, out, v9, v10, v11, rfl, F2, eq2, eg, hL', tk⟩
            obtain ⟨tj, etj, rfl⟩ : ∃ t, ts[j]? = some t ∧ x = .ref t := by
              rw [List.getElem?_map] at hx
              cases e : ts[j]? with
              | none => rw [e] at hx; cases hx
              | some i => rw [e] at hx; exact ⟨i, rfl, (Option.some.inj hx).symm⟩
            obtain ⟨ln, eln, hln⟩ := paired_at j pl etj
            obtain ⟨l, htj, hl⟩ := hln.mono tk
            refine ⟨tj, _, rfl, SqT.of htj, rfl, _, _, rfl, _, _, rfl, rfl, ?_⟩
            try dsimp only [gName, List.set]
            have ec : (V13.cand (Af A) (Bf C) e)[j]? = some (e.2 ++ [ln.1], ln.2.toNat, Bf C e.1.2 ln.1) := by
              rw [cd, List.getElem?_map, eln]
              rfl
            rw [drop_at ec] at eg
            obtain ⟨n0, n1, lok⟩ := let_in xa oka (List.mem_of_getElem? eln)
            have eB : Bf C e.1.2 ln.1 = (behR rb ln.1.1.1 ln.1.1.2 ln.1.2).map Int.toNat := by
              unfold Bf
              rw [erb]
            try dsimp only [tSeq, tAsg, tCall, tCons, tNil]
            refine (val_ixT (val_var rfl) (val_var rfl) (SqT.of (F2.s _ _ hqq)) (atI_nat (v := V.ref qb) (by rw [List.getElem?_map, eqb]; rfl))) _ ((val_ixT (val_var rfl) val_c (SqT.of hl) (atI_nat (j := 0) rfl)) _ ((val_ixT (val_var rfl) val_c (SqT.of hl) (atI_nat (j := 1) rfl)) _ ((val_ixT (val_var rfl) val_c (SqT.of hl) (atI_nat (j := 2) rfl)) _ ⟨qb, rb, ln.1.1.1, ln.1.1.2, ln.1.2, rfl, hsb.mono (TKeep.same F2.s), fun H10 s10 => ?_⟩)))
            have F3 := F2.same s10
            have hl3 := s10 _ _ hl
            have ea2 : qs2[a]? = some e := by
              rw [eq2, List.getElem?_append_left lt]
              exact ee
            try dsimp only [gName, List.set]
            try dsimp only [tSeq, tIfS, tTest]
            cases eb : behR rb ln.1.1.1 ln.1.1.2 ln.1.2 with
            | none =>
              refine (val_op (z := .bl true) (val_var (v := .non) rfl) val_c fun Q q => ⟨rfl, q⟩) _ ⟨_, rfl, iteT ?_⟩
              rw [eB, eb] at eg
              have eg : (Sum.inl (e.2 ++ [ln.1]) : List Lt ⊕ (List V13.Pr × List (V13.Ent Lt))) = V13.go (V13.cand (Af A) (Bf C) e) met [] := eg
              rw [← eg] at ev
              have ev : some (e.2 ++ [ln.1]) = fmR A C := ev
              have wl := F3.wl a e ea2
              dsimp only [tRet, tOp, tCall, tTup, tCons, tNil]
              refine (val_var rfl) _ ((val_var rfl) _ ⟨qa, es2, qs2, a, e, rfl, F3.hq, F3.qat, ea2, by omega, fun H11 r s11 wr => ?_⟩)
              refine (val_var (v := .ref l) rfl) _ ⟨by show 1 ≤ sizeLine; decide, fun t nt => ?_⟩
              have s12' := same_upd (o := .tup [V.ref l]) nt
              obtain ⟨ls, w1, w2⟩ := wr
              have lw := Paired.length w2
              refine catA_any (s12' _ _ w1) upd_same (by rw [List.length_map, lw]; show e.2.length + 1 ≤ 20000; omega) fun r2 H12 s13 hr2 => ?_
              have s14 := s12'.trans s13
              refine kS H12 r2 (e.2 ++ [ln.1]) (((F3.s.trans s11).trans s14)) ev.symm ⟨ls ++ [l], by rw [hr2, List.map_append]; rfl, ?_⟩
              exact paired_app (Paired.mapP w2 fun _ _ z => s14 _ _ z) (s14 _ _ (s11 _ _ hl3))
            | some b =>
              obtain ⟨b0, b1⟩ := beh_in xb eb
              refine (val_op (z := .bl false) (val_var (v := .int b) rfl) val_c fun Q q => ⟨rfl, q⟩) _ ⟨_, rfl, iteF ?_⟩
              rw [eB, eb] at eg
              have eg : (if (ln.2.toNat, b.toNat) ∈ met2 then V13.go ((V13.cand (Af A) (Bf C) e).drop (j + 1)) met2 out else V13.go ((V13.cand (Af A) (Bf C) e).drop (j + 1)) ((ln.2.toNat, b.toNat) :: met2) (out ++ [((ln.2.toNat, b.toNat), e.2 ++ [ln.1])])) = V13.go (V13.cand (Af A) (Bf C) e) met [] := eg
              have cn : ((ln.2.toNat : Nat) : Int) = ln.2 := Int.toNat_of_nonneg n0
              have cb : ((b.toNat : Nat) : Int) = b := Int.toNat_of_nonneg b0
              have tkp : ∀ {G : Hp} {k1 : Addr}, G k1 = some (.tup [.int ln.2, .int b]) → Tr G (.ref k1) (pairE (ln.2.toNat, b.toNat)) := fun {G k1} hk => .tup (by rw [hk, cn, cb]) (.cons (.int _) (.cons (.int _) .nil))
              try dsimp only [tNext, tSeq, tIfS, L2.tB]
              dsimp only [tDNinV, tTup, tCons, tNil]
              refine (val_var (v := .int ln.2) rfl) _ ((val_var (v := .int b) rfl) _ ⟨by show 2 ≤ sizeLine; decide, fun k1 nk => (val_var rfl) _ ?_⟩)
              have s11 := same_upd (o := .tup [.int ln.2, .int b]) nk
              have F4 := F3.same s11
              refine ⟨dM, k1, (ln.2.toNat, b.toNat), kvs2, rfl, rfl, F4.dv, tkp upd_same, pairE_dep _, _, rfl, ?_⟩
              have s911 := s10.trans s11
              have tk9 : TKeep HL (upd H10 k1 (.tup [.int ln.2, .int b])) := fun c zs z => s911 _ _ (tk c zs z)
              by_cases inm : (ln.2.toNat, b.toNat) ∈ met2
              · rw [if_pos inm] at eg
                refine ite2 (fun h => absurd ((F4.ks _).mpr inm) (by rw [Bool.not_eq_true', decide_eq_false_iff_not] at h; exact h)) fun _ => ?_
                exact ⟨es2, qs2, met2, kvs2, out, _, _, _, rfl, F4, eq2, eg, s911 _ _ hL', tk9⟩
              · rw [if_neg inm] at eg
                refine ite2 (fun _ => ?_) fun h => absurd (show (ln.2.toNat, b.toNat) ∈ kvs2.map (·.1) by rw [Bool.not_eq_true', decide_eq_false_iff_not, Classical.not_not] at h; exact h) fun z => inm ((F4.ks _).mp z)
                obtain ⟨fw2, f82⟩ := F4.few px.l1 qx.l1
                have kl2 := F4.kl
                dsimp only [tSeq, sDPutV, tTup, tCons, tNil]
                refine val_c _ ((val_var rfl) _ ((val_var (v := .int ln.2) rfl) _ ((val_var (v := .int b) rfl) _ ⟨by show 2 ≤ sizeLine; decide, fun k2 nk2 => ?_⟩)))
                have s12' := same_upd (o := .tup [.int ln.2, .int b]) nk2
                have F5 := F4.same s12'
                refine ⟨dM, k2, (ln.2.toNat, b.toNat), kvs2, rfl, rfl, F5.dv, tkp upd_same, pairE_dep _, by omega, fun H13 keep dv => ?_⟩
                have s912 := s911.trans s12'
                have hq13 : H13 qa = some (.lst (es2.map V.ref)) := (keep qa qdM).trans F5.hq
                dsimp only [tDrop]
                refine bm_run (x := .ref qa) (val_var rfl) (.inl ⟨rfl, _, SqL.of hq13⟩) ?_
                dsimp only [tTup, tCons, tNil]
                refine (val_var (v := .int ln.2) rfl) _ ((val_var (v := .int b) rfl) _ ((val_var (v := .int (a : Nat)) rfl) _ ((val_var (v := .ref l) rfl) _ ⟨by show 4 ≤ sizeLine; decide, fun eN nN => ?_⟩)))
                refine ⟨qa, _, .ref eN, rfl, rfl, (same_upd nN) _ _ hq13, by rw [List.length_map, F5.qat.len]; exact Nat.lt_of_le_of_lt f82 (by decide), ?_⟩
                have push := F5.push (v := .bl true) (eN := eN) inm (allP_mem.mpr ⟨by omega, by omega⟩) ea2 (s912 _ _ hl) keep dv hM0 hQ1 qdM nN
                rw [cn, cb] at push
                have hL12 := s912 _ _ hL'
                have hL13 : H13 L = some (.lst (ts.map V.ref)) := (keep L ldM).trans hL12
                refine ⟨_, _, _, _, out ++ [((ln.2.toNat, b.toNat), e.2 ++ [ln.1])], _, _, _, rfl, push, by rw [eq2, List.append_assoc], eg, ?_, fun c zs z => ?_⟩
                · rw [upd_ne lq, upd_ne (ne_of_none hL13 nN)]
                  exact hL13
                · have z12 := s12' _ _ (tk9 c zs z)
                  have z13 : H13 c = some (.tup zs) := (keep c (fun y => by
                    obtain ⟨⟨xs, h1, _⟩, _⟩ := F5.dv
                    rw [y, h1] at z12
                    cases z12)).trans z12
                  rw [upd_ne (fun y => by rw [y, hq13] at z13; cases z13), upd_ne (ne_of_none z13 nN)]
                  exact z13
          · rintro σ H' ⟨es2, qs2, met2, kvs2, out, v9, v10, v11, rfl, F2, eq2, eg, hL', tk⟩
            have e0 : (V13.cand (Af A) (Bf C) e).drop (ts.map V.ref).length = [] := List.drop_eq_nil_of_le (by rw [cd, List.length_map, List.length_map, lenL]; exact Nat.le_refl _)
            rw [e0] at eg
            have eg : (Sum.inr (met2, out) : List Lt ⊕ (List V13.Pr × List (V13.Ent Lt))) = V13.go (V13.cand (Af A) (Bf C) e) met [] := eg
            rw [← eg] at ev
            have ev : V13.bfs (Af A) (Bf C) (fmN A C - (a + 1)) (qs.drop (a + 1) ++ out) met2 = fmR A C := ev
            dsimp only [tAug]
            refine ⟨.int (a : Nat), rfl, val_c _ ⟨(a : Nat), 1, rfl, rfl, ?_⟩⟩
            refine ⟨es2, qs2, met2, kvs2, some (.int e.1.1), some (.int e.1.2), some (.ref le), v9, v10, v11, by rw [eq2, List.length_append]; omega, rfl, F2, ?_⟩
            rw [eq2, List.drop_append_of_le_length (by omega)]
            exact ev
        · rw [decide_eq_false (show ¬ (a : Int) < ((qs.length : Nat) : Int) by omega)]
          refine iteF ?_
          have : qs.drop a = [] := List.drop_eq_nil_of_le (by omega)
          rw [this, V13.bfs_nil] at ev
          exact kN H9 F.s ev.symm
    · refine forT_any (fun t xs H1 => Same H H1 ∧ xs = [x, y]) (fun Q kq => ?_) (fun t xs H1 ht h1 => ?_)
      · dsimp only [tTup, tCons, tNil]
        exact (val_var rfl) _ ((val_var rfl) _ ⟨by show 2 ≤ sizeLine; decide, fun t nt => kq t _ _ upd_same ⟨same_upd nt, rfl⟩⟩)
      obtain ⟨s1, rfl⟩ := h1
      refine ⟨fun i σ H' => i = 0 ∧ Same H1 H' ∧ σ = sgM x y none none none none none none none none none none, ⟨rfl, Same.refl _, rfl⟩, fun i σ H' _ ⟨_, s2, _⟩ => SqT.of (s2 _ _ ht), ?_, ?_⟩
      · rintro i z σ H' hz ⟨rfl, s2, rfl⟩
        have s12 := s1.trans s2
        injection hz with hz
        subst hz
        dsimp only [gName, tIfS, tNot, L2.tB, tCall, tCons, tNil]
        refine val_c _ ((val_var (v := x) rfl) _ (.inr ⟨x, d, rfl, hx.mono s12, od, fun H2 s3 => ⟨_, rfl, iteT ?_⟩⟩))
        exact raise_run TP.O TP.nv (val_var rfl) (e.mono (s12.trans s3))
      · rintro σ H2 ⟨z, _⟩
        cases z
    · refine forT_any (fun t xs H1 => Same H H1 ∧ xs = [.ref p, y]) (fun Q kq => ?_) (fun t xs H1 ht h1 => ?_)
      · dsimp only [tTup, tCons, tNil]
        exact (val_var rfl) _ ((val_var rfl) _ ⟨by show 2 ≤ sizeLine; decide, fun t nt => kq t _ _ upd_same ⟨same_upd nt, rfl⟩⟩)
      obtain ⟨s1, rfl⟩ := h1
      refine ⟨fun i σ H' => i ≤ 1 ∧ Same H1 H' ∧ ∃ v2, σ = sgM (.ref p) y v2 none none none none none none none none none, ⟨Nat.zero_le _, Same.refl _, none, rfl⟩, fun i σ H' _ ⟨_, s2, _⟩ => SqT.of (s2 _ _ ht), ?_, ?_⟩
      · rintro i z σ H' hz ⟨i1, s2, v2, rfl⟩
        have s12 := s1.trans s2
        dsimp only [gName, tIfS, tNot, L2.tB, tCall, tCons, tNil]
        match i, i1, hz with
        | 0, _, hz =>
          injection hz with hz
          subst hz
          refine val_c _ ((val_var (v := .ref p) rfl) _ (.inl ⟨p, A, rfl, hp.mono (TKeep.same s12), px, fun H2 s3 => ⟨_, rfl, iteF ?_⟩⟩))
          exact ⟨Nat.le_refl _, s2.trans s3, _, rfl⟩
        | 1, _, hz =>
          injection hz with hz
          subst hz
          refine val_c _ ((val_var (v := y) rfl) _ (.inr ⟨y, d, rfl, hy.mono s12, od, fun H2 s3 => ⟨_, rfl, iteT ?_⟩⟩))
          exact raise_run TP.O TP.nv (val_var rfl) (e.mono (s12.trans s3))
      · rintro σ H2 ⟨z, _⟩
        exact absurd z (by show ¬ 2 ≤ 1; decide)
end
end K5
namespace K5
open PySem PySem.Spec PyProof.Rows L2
/-! ### the law's letters of a state -/
def spLLet : Sp := fun vs H Q _ => ∃ (p : Addr) (A : List (List RwD)) (s : Nat) (rs : List RwD), vs = [.ref p, .int (s : Nat)] ∧ PcAt H p A ∧ A[s]? = some rs ∧ rs.length ≤ 12 ∧ (∀ r ∈ rs, r.2.length ≤ 6) ∧
  ∀ (H' : Hp) (M : Addr) (ts : List Addr), Same H H' → H M = none → H' M = some (.lst (ts.map V.ref)) → Paired (LnAt H') ts (letsR rs) → Q (.ref M) H'
abbrev nmLL : List Str := ["_law_pact", "_law_at", "_law_found", "_law_door", "_law_worth", "_law_outcomes_here", "_law_answer", "_law_later"]
theorem sc__law_letters : FnScope nmLL ["_law_pact", "_law_at"] (defScope s__law_letters) := ⟨rfl, rfl, rfl, by decide +kernel, rfl, by decide +kernel, by decide +kernel⟩
theorem paired_cat {α β : Type} {R : α → β → Prop} : ∀ {l l2 : List α} {m m2 : List β}, Paired R l m → Paired R l2 m2 → Paired R (l ++ l2) (m ++ m2)
  | _, _, _, _, .nil, h => h
  | _, _, _, _, .cons x r, h => .cons x (paired_cat r h)
section
variable {P : Program} {w : World} {K : PySem.W.Frag} {mg : Str → Option Value} {base : Heap}
theorem ok_law_letters {f : Addr} {fd : FuncData} (D : Df K mg "_law_letters" s__law_letters f fd ["_law_pact", "_law_at"]) : FnOk P w K mg base CX0 1 f fd ["_law_pact", "_law_at"] spLLet := by
  refine D.F.ok sc__law_letters (fun vs H Q E h => ?_) (fun cdv A0 outer s H vs Q E hr h => ?_)
  · obtain ⟨p, A, s, rs, rfl, _⟩ := h
    rfl
  · obtain ⟨p, A, sn, rs, rfl, hp, ers, rl, ol, k⟩ := h
    have S := sc__law_letters
    refine ⟨_, (pss_cons (ps_set (i := 2) S.nd rfl (.inl rfl) (pe_lst pa_nil))
      (pss_cons (ps_for PassesOwn.never rfl (pi_tup (pe_ix (r := rIxT K) ix_tup (pv 0) (pv 1) (fun _ _ => rfl))) (pg_tup (by rfl) (pgs_cons (pg_name (i := 3) S.nd rfl (.inr rfl)) (pgs_cons (pg_name (i := 4) S.nd rfl (.inr rfl)) (pgs_cons (pg_name (i := 5) S.nd rfl (.inl rfl)) pgs_nil))))
        (pss_one (ps_expr (pe_bm PySem.F.plainAttrs_list PySem.F.slot_list_extend PySem.F.type_list_extend mt_extend (pv 2) (pa_cons (pe_lc (own := [("_law_answer", 6), ("_law_later", 7)]) (g := gTup K 2 (gCons (gName 6) (gCons (gName 7) gNil))) (tt := tYes) rfl S.nd (pi_tup (pv 5)) (blkOk_by (own := [("_law_answer", 6), ("_law_later", 7)]) (N := nmLL) (sc := defScope s__law_letters) (by decide +kernel)) (fun _ _ _ _ _ => pg_tup (by rfl) (pgs_cons (pg_name (i := 6) S.nd rfl (Or.inl rfl)) (pgs_cons (pg_name (i := 7) S.nd rfl (Or.inl rfl)) pgs_nil))) (fun _ _ _ _ _ => pts_nil) (fun _ _ _ _ _ => (pe_tup (pa_cons (pe_tup (pa_cons (pv 3) (pa_cons (pv 4) (pa_cons (pv 6) pa_nil)))) (pa_cons (pv 7) pa_nil))))) pa_nil)))))
      (pss_one (ps_ret (pv 2))))), ?_⟩
    obtain ⟨pps, hpp, ppp⟩ := id hp
    obtain ⟨pa, epa⟩ : ∃ pa, pps[sn]? = some pa := ⟨_, List.getElem?_eq_getElem (by rw [Paired.length ppp]; exact (List.getElem?_eq_some_iff.mp ers).1)⟩
    obtain ⟨rs', ers', hst⟩ := paired_at _ ppp epa
    obtain rfl : rs' = rs := Option.some.inj (ers'.symm.trans ers)
    obtain ⟨ts, hs, pr⟩ := id hst
    have len := Paired.length pr
    dsimp only [tSeq, tAsg, tLst, tNil]
    refine ⟨Nat.zero_le _, fun M nM => ?_⟩
    have s0 := same_upd (o := .lst []) nM
    try dsimp only [gName]
    refine forV (xs := ts.map V.ref) (fun i σ H' => ∃ (ls : List Addr) (v3 v4 v5 : Option V), σ = [some (.ref p), some (.int (sn : Nat)), some (.ref M), v3, v4, v5, none, none] ∧ Same H H' ∧ H' M = some (.lst (ls.map V.ref)) ∧ Paired (LnAt H') ls (letsR (rs'.take i))) pa
      (fun Q kq => (val_ixT (val_var rfl) (val_var rfl) (SqT.of (s0 _ _ hpp)) (atI_nat (v := V.ref pa) (by rw [List.getElem?_map, epa]; rfl))) _ (kq _ (s0 _ _ hs) (Same.refl _))) ?_ ?_ ?_ ?_
    · exact fun H1 s1 _ => ⟨[], none, none, none, rfl, s0.trans s1, s1 _ _ upd_same, .nil⟩
    · rintro i σ H' _ ⟨_, _, _, _, _, s1, _⟩
      exact SqT.of (s1 _ _ hs)
    · rintro i x σ H' hx ⟨ls, v3, v4, v5, rfl, s1, hM, pl⟩
      obtain ⟨t', et, rfl⟩ : ∃ t, ts[i]? = some t ∧ x = .ref t := by
        rw [List.getElem?_map] at hx
        cases e : ts[i]? with
        | none => rw [e] at hx; cases hx
        | some i => rw [e] at hx; exact ⟨i, rfl, (Option.some.inj hx).symm⟩
      obtain ⟨r0, eq, o, ht, us, ho, po⟩ := paired_at i pr et
      have leno := Paired.length po
      refine ⟨t', _, rfl, SqT.of (s1 _ _ ht), rfl, _, _, rfl, _, _, rfl, _, _, rfl, rfl, ?_⟩
      try dsimp only [gName, List.set]
      try dsimp only [tDrop]
      refine bm_run (x := .ref M) (val_var rfl) (.inl ⟨rfl, _, SqL.of hM⟩) ?_
      dsimp only [tCons, tNil, tLc, iTup]
      refine (val_var rfl) _ ⟨o, rfl, ⟨_, SqT.of (s1 _ _ ho)⟩, fun T nT => ?_⟩
      have MT : M ≠ T := ne_of_none hM nT
      refine lc_tup (xs := us.map V.ref) (fun j H2 => ∃ ms : List Addr, Same H' H2 ∧ H2 T = some (.lst (ms.map V.ref)) ∧ Paired (LnAt H2) ms ((letR r0).take j)) ⟨[], same_upd nT, upd_same, .nil⟩ (fun j H2 _ ⟨_, s2, _⟩ => SqT.of (s2 _ _ (s1 _ _ ho))) (fun j y H2 hy hJ => ?_) fun H2 hJ => ?_
      · obtain ⟨ms, s2, hT, pm⟩ := hJ
        obtain ⟨t2, et2, rfl⟩ : ∃ t, us[j]? = some t ∧ y = .ref t := by
          rw [List.getElem?_map] at hy
          cases e : us[j]? with
          | none => rw [e] at hy; cases hy
          | some i => rw [e] at hy; exact ⟨i, rfl, (Option.some.inj hy).symm⟩
        obtain ⟨o0, eq2, ht2⟩ := paired_at j po et2
        refine ⟨t2, _, rfl, SqT.of (s2 _ _ (s1 _ _ ht2)), rfl, _, _, rfl, _, _, rfl, rfl, rfl, ?_⟩
        try dsimp only [tYes]
        rw [if_pos rfl]
        dsimp only [tTup, tCons, tNil]
        refine (val_var (v := .str r0.1.1) rfl) _ ((val_var (v := .int r0.1.2) rfl) _ ((val_var (v := .int o0.1) rfl) _ ⟨by show 3 ≤ sizeLine; decide, fun l nl => (val_var (v := .int o0.2) rfl) _ ⟨by show 2 ≤ sizeLine; decide, fun t3 n3 => ?_⟩⟩))
        have s34 := (same_upd (o := .tup [.str r0.1.1, .int r0.1.2, .int o0.1]) nl).trans (same_upd (o := .tup [.ref l, .int o0.2]) n3)
        have hl : (upd (upd H2 l (.tup [.str r0.1.1, .int r0.1.2, .int o0.1])) t3 (.tup [.ref l, .int o0.2])) l = some (.tup [.str r0.1.1, .int r0.1.2, .int o0.1]) := same_upd n3 _ _ upd_same
        have h3 : (upd (upd H2 l (.tup [.str r0.1.1, .int r0.1.2, .int o0.1])) t3 (.tup [.ref l, .int o0.2])) t3 = some (.tup [.ref l, .int o0.2]) := upd_same
        generalize (upd (upd H2 l (.tup [.str r0.1.1, .int r0.1.2, .int o0.1])) t3 (.tup [.ref l, .int o0.2])) = H4 at s34 hl h3 ⊢
        have hT4 := s34 _ _ hT
        have lenm := Paired.length pm
        have tk : TKeep H4 (upd H4 T (.lst (ms.map V.ref ++ [.ref t3]))) := fun b zs e => by
          rw [upd_ne (fun z => by rw [z, hT4] at e; cases e)]
          exact e
        have er : (letR r0)[j]? = some ((r0.1, o0.1), o0.2) := by
          unfold letR
          rw [List.getElem?_map, eq2]
          rfl
        refine ⟨_, hT4, ?_, ms ++ [t3], fun b oo e => ?_, ?_, ?_⟩
        · rw [List.length_map, lenm, List.length_take]
          have q3 : (letR r0).length ≤ 6 := by
            unfold letR
            rw [List.length_map]
            exact ol r0 (List.mem_of_getElem? eq)
          exact Nat.lt_of_lt_of_le (show _ < 100 by omega) (by decide)
        · rw [upd_ne (ne_of_none e nT)]
          exact s34 _ _ (s2 _ _ e)
        · rw [upd_same, List.map_append]
          rfl
        · rw [List.take_add_one, er]
          exact paired_app (Paired.mapP pm fun t e h => (h.mono (TKeep.same s34)).mono tk) ⟨l, tk _ _ h3, tk _ _ hl⟩
      · obtain ⟨ms, s2, hT, pm⟩ := hJ
        have e : (letR r0).take (us.map V.ref).length = letR r0 := by
          rw [List.take_of_length_le]
          unfold letR
          rw [List.length_map, List.length_map]
          omega
        rw [e] at pm
        have hM2 := s2 _ _ hM
        have ll := Paired.length pl
        have lm := Paired.length pm
        have q1 := lets_few (rs := rs'.take i) fun r hr => ol r (List.mem_of_mem_take hr)
        have q2 : (rs'.take i).length ≤ 12 := by rw [List.length_take]; omega
        have q3 : (letR r0).length ≤ 6 := by
          unfold letR
          rw [List.length_map]
          exact ol r0 (List.mem_of_getElem? eq)
        refine ⟨M, T, _, _, rfl, rfl, hM2, hT, ?_, ?_⟩
        · rw [List.length_map, List.length_map, ll, lm]
          exact Nat.le_trans (show _ ≤ 100 by omega) (by decide)
        have tk : TKeep H2 (upd H2 M (.lst (ls.map V.ref ++ ms.map V.ref))) := fun b zs e => by
          rw [upd_ne (fun z => by rw [z, hM2] at e; cases e)]
          exact e
        refine ⟨ls ++ ms, _, _, _, rfl, fun b oo e => ?_, ?_, ?_⟩
        · rw [upd_ne (ne_of_none e nM)]
          exact s2 _ _ (s1 _ _ e)
        · rw [upd_same, List.map_append]
        · rw [lets_snoc eq]
          exact paired_cat (Paired.mapP pl fun t e h => (h.mono (TKeep.same s2)).mono tk) (Paired.mapP pm fun t e h => h.mono tk)
    · rintro σ H' ⟨ls, v3, v4, v5, rfl, s1, hM, pl⟩
      rw [List.length_map, len, List.take_length] at pl
      exact (val_var rfl) _ (k H' M ls s1 nM hM pl)
end
end K5
namespace K5
open PySem PySem.Spec PyProof.Rows L2
/-! ### the law's outcomes of a call -/
def dkv (acc : List (Int × Int)) : List (Key × V) := acc.map fun q => (.inl q.1, .int q.2)
theorem dkv_some {acc : List (Int × Int)} {a : Int} : (valV (dkv acc) (.inl a)).isSome = decide (a ∈ acc.map (·.1)) := by
  induction acc with
  | nil => rfl
  | cons q r ih =>
    by_cases e : q.1 = a
    · have e2 : valV (dkv (q :: r)) (.inl a) = some (.int q.2) := valV_pos (show (Sum.inl q.1 : Key) = .inl a by rw [e])
      rw [e2]
      exact (decide_eq_true (by rw [List.map_cons, e]; exact List.mem_cons_self ..)).symm
    · have e2 : valV (dkv (q :: r)) (.inl a) = valV (dkv r) (.inl a) := valV_neg (show ¬ (Sum.inl q.1 : Key) = .inl a from fun z => e (by injection z))
      rw [e2, ih]
      exact decide_eq_decide.mpr ⟨fun h => List.mem_cons_of_mem _ h, fun h => (List.mem_cons.mp h).elim (fun z => absurd z.symm e) id⟩
theorem dkv_none {acc : List (Int × Int)} {a : Int} (h : a ∉ acc.map (·.1)) : valV (dkv acc) (.inl a) = none := by
  have e := dkv_some (acc := acc) (a := a)
  rw [decide_eq_false h] at e
  cases q : valV (dkv acc) (.inl a) with
  | none => rfl
  | some v =>
    rw [q] at e
    cases e
theorem dkv_put {acc : List (Int × Int)} {a b : Int} (h : a ∉ acc.map (·.1)) : putK (dkv acc) (.inl a) (.int b) = dkv (acc ++ [(a, b)]) := by
  rw [putK_new _ (dkv_none h)]
  unfold dkv
  rw [List.map_append]
  rfl
theorem dkv_get {a b : Int} : ∀ {acc : List (Int × Int)}, (acc.map (·.1)).Nodup → (a, b) ∈ acc → valV (dkv acc) (.inl a) = some (.int b)
  | q :: r, nd, h => by
    rw [List.map_cons, List.nodup_cons] at nd
    rcases List.mem_cons.mp h with e | e
    · subst e
      exact valV_pos rfl
    · have ne : q.1 ≠ a := fun z => nd.1 (by rw [z]; exact List.mem_map_of_mem (f := (·.1)) e)
      exact (valV_neg (show ¬ (Sum.inl q.1 : Key) = .inl a from fun z => ne (by injection z))).trans (dkv_get nd.2 e)
theorem mergeK_new : ∀ (more acc : List (Int × Int)), (more.map (·.1)).Nodup → (∀ a ∈ more.map (·.1), a ∉ acc.map (·.1)) → mergeK (dkv acc) (dkv more) = dkv (acc ++ more)
  | [], acc, _, _ => by rw [List.append_nil]; rfl
  | q :: r, acc, nd, h => by
    rw [List.map_cons, List.nodup_cons] at nd
    show mergeK (putK (dkv acc) (.inl q.1) (.int q.2)) (dkv r) = _
    rw [dkv_put (h q.1 (List.mem_cons_self ..)), mergeK_new r (acc ++ [(q.1, q.2)]) nd.2 fun a ha hm => ?_, List.append_assoc]
    · rfl
    · rw [List.map_append] at hm
      rcases List.mem_append.mp hm with hm | hm
      · exact h a (List.mem_cons_of_mem _ ha) hm
      · rw [List.mem_singleton.mp hm] at ha
        exact nd.1 ha

def rowR (rs : List RwD) (d : Str) (w : Int) : Option RwD := rs.find? fun r => decide (r.1.1 = d) && decide ((r.1.2 : Int) = w)
def spLOuts : Sp := fun vs H Q _ => ∃ (p : Addr) (A : List (List RwD)) (s m : Nat) (rs : List RwD) (d : Str) (w : Int), vs = [.ref p, .int (s : Nat), .str d, .int w] ∧ PcAt H p A ∧ A[s]? = some rs ∧ StX 4 m rs ∧ (∀ r ∈ rs, RowOk r) ∧ PyData.strOk d = true ∧
  (∀ H', Same H H' → rowR rs d w = none → Q .non H') ∧ ∀ (H' : Hp) (t : Addr) (r : RwD), Same H H' → rowR rs d w = some r → H t = none → H' t = some (.dK (dkv r.2)) → Q (.ref t) H'
abbrev nmLO : List Str := ["_law_pact", "_law_state", "_law_door", "_law_worth", "_law_its_door", "_law_its_worth", "_law_outcomes_here"]
theorem sc__law_outcomes : FnScope nmLO ["_law_pact", "_law_state", "_law_door", "_law_worth"] (defScope s__law_outcomes) := ⟨rfl, rfl, rfl, by decide +kernel, rfl, by decide +kernel, by decide +kernel⟩
theorem os_dkv {K : PySem.W.Frag} {H H' : Hp} (s : Same H H') : ∀ {us : List Addr} {os : List (Int × Int)}, Paired (fun (t : Addr) (o : Int × Int) => H t = some (.tup [.int o.1, .int o.2])) us os → Paired (fun (p : Addr) (kv : Key × V) => SqT K H' p [kV kv.1, kv.2]) us (dkv os)
  | _, _, .nil => .nil
  | _, _, .cons x r => .cons (SqT.of (s _ _ x)) (os_dkv s r)
theorem pool_ok : ∀ z ∈ poolD, PyData.strOk z = true := by decide +kernel
theorem pair_shaped {d : Str} {i : Int} (h : PyData.strOk d = true) : SeqAt.shaped (.tuple [.str d, .int i]) = true := by
  unfold SeqAt.shaped
  simp [PyData.canLay0, PyData.canLayAll0, PyData.depth, PyData.depthAll, h]
theorem pair_eqv {d e : Str} {i j : Int} : PyData.eqv (.tuple [.str d, .int i]) (.tuple [.str e, .int j]) = (decide (d = e) && decide (i = j)) := by
  simp only [PyData.eqv, PyData.eqvAll, Bool.and_true]
  rw [Bool.eq_iff_iff]
  simp
section
variable {P : Program} {w : World} {K : PySem.W.Frag} {mg : Str → Option Value} {base : Heap}
theorem ok_law_outcomes {f : Addr} {fd : FuncData} (B : Bt mg) (m_dict : mg "dict" = none) (D : Df K mg "_law_outcomes" s__law_outcomes f fd ["_law_pact", "_law_state", "_law_door", "_law_worth"]) : FnOk P w K mg base CX0 1 f fd ["_law_pact", "_law_state", "_law_door", "_law_worth"] spLOuts := by
  refine D.F.ok sc__law_outcomes (fun vs H Q E h => ?_) (fun cdv A0 outer s H vs Q E hr h => ?_)
  · obtain ⟨p, A, s, m, rs, d, w, rfl, _⟩ := h
    rfl
  · obtain ⟨p, A, sn, m, rs, d, wt, rfl, hp, ers, sx, rok, dok, kN, kS⟩ := h
    have S := sc__law_outcomes
    refine ⟨_, (pss_cons (ps_for PassesOwn.never rfl (pi_tup (pe_ix (r := rIxT K) ix_tup (pv 0) (pv 1) (fun _ _ => rfl))) (pg_tup (by rfl) (pgs_cons (pg_name (i := 4) S.nd rfl (.inl rfl)) (pgs_cons (pg_name (i := 5) S.nd rfl (.inl rfl)) (pgs_cons (pg_name (i := 6) S.nd rfl (.inl rfl)) pgs_nil))))
        (pss_one (ps_if (pt_cmpR (op_eqD (by exact hr.units)) (pe_tup (pa_cons (pv 4) (pa_cons (pv 5) pa_nil))) (pe_tup (pa_cons (pv 2) (pa_cons (pv 3) pa_nil))) (nomark _))
        (pss_one (ps_ret (pe_callTy (call_dictP rfl) (by rfl) m_dict (by decide +kernel) (pa_cons (pe_callTy call_list_of (by rfl) B.m_list PyProof.Rows.boot_list (pa_cons (pv 6) pa_nil)) pa_nil))))
        pss_nil)))
      (pss_one (ps_ret pe_non))), ?_⟩
    obtain ⟨pps, hpp, ppp⟩ := id hp
    obtain ⟨pa, epa⟩ : ∃ pa, pps[sn]? = some pa := ⟨_, List.getElem?_eq_getElem (by rw [Paired.length ppp]; exact (List.getElem?_eq_some_iff.mp ers).1)⟩
    obtain ⟨rs', ers', hst⟩ := paired_at _ ppp epa
    obtain rfl : rs' = rs := Option.some.inj (ers'.symm.trans ers)
    obtain ⟨ts, hs, pr⟩ := id hst
    have len := Paired.length pr
    refine forV (xs := ts.map V.ref) (fun i σ H' => Same H H' ∧ (∃ v4 v5 v6, σ = [some (.ref p), some (.int (sn : Nat)), some (.str d), some (.int wt), v4, v5, v6]) ∧ ∀ r ∈ rs'.take i, (decide (r.1.1 = d) && decide ((r.1.2 : Int) = wt)) = false) pa
      (fun Q kq => (val_ixT (val_var rfl) (val_var rfl) (SqT.of hpp) (atI_nat (v := V.ref pa) (by rw [List.getElem?_map, epa]; rfl))) _ (kq _ hs (Same.refl _))) ?_ ?_ ?_ ?_
    · exact fun H1 s1 _ => ⟨s1, ⟨none, none, none, rfl⟩, fun r hr => by rw [List.take_zero] at hr; cases hr⟩
    · rintro i σ H' _ ⟨s1, _, _⟩
      exact SqT.of (s1 _ _ hs)
    · rintro i x σ H' hx ⟨s1, ⟨v4, v5, v6, rfl⟩, no⟩
      obtain ⟨t', et, rfl⟩ : ∃ t, ts[i]? = some t ∧ x = .ref t := by
        rw [List.getElem?_map] at hx
        cases e : ts[i]? with
        | none => rw [e] at hx; cases hx
        | some i => rw [e] at hx; exact ⟨i, rfl, (Option.some.inj hx).symm⟩
      obtain ⟨r0, eq, o, ht, us, ho, po⟩ := paired_at i pr et
      have m0 := List.mem_of_getElem? eq
      refine ⟨t', _, rfl, SqT.of (s1 _ _ ht), rfl, _, _, rfl, _, _, rfl, _, _, rfl, rfl, ?_⟩
      try dsimp only [gName, List.set]
      dsimp only [tIfS, tTest, tOp, tTup, tCons, tNil]
      refine (val_var (v := .str r0.1.1) rfl) _ ((val_var (v := .int r0.1.2) rfl) _ ⟨by show 2 ≤ sizeLine; decide, fun k1 n1 => (val_var (v := .str d) rfl) _ ((val_var (v := .int wt) rfl) _ ⟨by show 2 ≤ sizeLine; decide, fun k2 n2 => ?_⟩)⟩)
      have s2 := same_upd (o := .tup [.str r0.1.1, .int r0.1.2]) n1
      have s3 := same_upd (o := .tup [.str d, .int wt]) n2
      have s13 := s1.trans (s2.trans s3)
      refine ⟨.tuple [.str r0.1.1, .int r0.1.2], .tuple [.str d, .int wt], .tup (SqT.of (s3 _ _ upd_same)) (.cons (.str _) (.cons (.int _) .nil)), .tup (SqT.of upd_same) (.cons (.str _) (.cons (.int _) .nil)), pair_shaped (pool_ok _ (rok r0 m0).1), pair_shaped dok, _, rfl, ?_⟩
      rw [pair_eqv]
      cases c : (decide (r0.1.1 = d) && decide ((r0.1.2 : Int) = wt)) with
      | false => exact iteF ⟨s13, ⟨_, _, _, rfl⟩, take_no no eq c⟩
      | true =>
        refine iteT ?_
        have er : rowR rs' d wt = some r0 := find_no no eq c
        have asc := (sx.2 r0 m0).2.2.1
        dsimp only [tRet, tCB, tCons, tNil]
        refine (val_var (v := .ref o) rfl) _ ⟨o, _, rfl, .inr (SqT.of (s13 _ _ ho)), fun l nl => ?_⟩
        have s4 := same_upd (o := .lst (us.map V.ref)) nl
        refine ⟨l, us, dkv r0.2, rfl, SqL.of upd_same, ?_, fun q nq => ?_⟩
        · exact os_dkv (s13.trans s4) po
        · have mk := mergeK_new r0.2 [] (asc.imp fun h => by omega) (fun a _ z => nomatch z)
          have s5 := same_upd (o := .dK (mergeK [] (dkv r0.2))) nq
          refine kS _ q r0 (s13.trans (s4.trans s5)) er (s13.free (s4.free nq)) ?_
          rw [upd_same]
          exact congrArg (fun z => some (HO.dK z)) mk
    · rintro σ H' ⟨s1, ⟨v4, v5, v6, rfl⟩, no⟩
      rw [List.length_map, len] at no
      exact val_c _ (kN H' s1 (find_none no))
end
end K5
namespace K5
open PySem PySem.Spec PyProof.Rows L2
/-! ### the law's behind -/
theorem hu_of {k : Nat} {A : Around} (hr : Room k A) : A.units + 1 < cLine := by
  have := hr.units
  omega
theorem valV_dkv (os : List (Int × Int)) (a : Int) : valV (dkv os) (.inl a) = ((os.find? fun o => decide (o.1 = a)).map (·.2)).map V.int := by
  induction os with
  | nil => rfl
  | cons q r ih =>
    by_cases e : q.1 = a
    · rw [show valV (dkv (q :: r)) (.inl a) = some (.int q.2) from valV_pos (show (Sum.inl q.1 : Key) = .inl a by rw [e]), show (q :: r).find? (fun o => decide (o.1 = a)) = some q from List.find?_cons_of_pos (p := fun o : Int × Int => decide (o.1 = a)) (decide_eq_true e)]
      rfl
    · rw [show valV (dkv (q :: r)) (.inl a) = valV (dkv r) (.inl a) from valV_neg (show ¬ (Sum.inl q.1 : Key) = .inl a from fun z => e (by injection z)), ih, show (q :: r).find? (fun o => decide (o.1 = a)) = r.find? (fun o => decide (o.1 = a)) from List.find?_cons_of_neg (p := fun o : Int × Int => decide (o.1 = a)) (by show ¬ decide (q.1 = a) = true; rw [decide_eq_false e]; exact Bool.false_ne_true)]
theorem beh_row {rs : List RwD} {d : Str} {w a : Int} : behR rs d w a = match rowR rs d w with
    | some r => (r.2.find? fun o => decide (o.1 = a)).map (·.2)
    | none => none := by
  unfold behR outsR rowR
  cases rs.find? fun r => decide (r.1.1 = d) && decide ((r.1.2 : Int) = w) <;> rfl
def spLBhd : Sp := fun vs H Q _ => ∃ (p q : Addr) (A : List (List RwD)) (ws : List Lt), vs = [.ref p, .ref q] ∧ PcAt H p A ∧ PcX A ∧ WdAt H q ws ∧ (∀ l ∈ ws, LtOk l) ∧ ∀ H', Same H H' → Q (optV (runR A 0 ws)) H'
abbrev nmLB : List Str := ["_law_pact", "_law_word", "_law_at", "_law_door", "_law_worth", "_law_answer", "_law_table"]
theorem sc__law_behind : FnScope nmLB ["_law_pact", "_law_word"] (defScope s__law_behind) := ⟨rfl, rfl, rfl, by decide +kernel, rfl, by decide +kernel, by decide +kernel⟩
section
variable {P : Program} {w : World} {K : PySem.W.Frag} {mg : Str → Option Value} {base : Heap}
theorem ok_law_behind {f fO : Addr} {fd dO : FuncData} (B : Bt mg) (m_dict : mg "dict" = none) (D : Df K mg "_law_behind" s__law_behind f fd ["_law_pact", "_law_word"]) (DO : Df K mg "_law_outcomes" s__law_outcomes fO dO ["_law_pact", "_law_state", "_law_door", "_law_worth"]) : FnOk P w K mg base CX0 2 f fd ["_law_pact", "_law_word"] spLBhd := by
  have GO : FnOk P w K mg base CX0 1 fO dO ["_law_pact", "_law_state", "_law_door", "_law_worth"] spLOuts := ok_law_outcomes B m_dict DO
  refine D.F.ok sc__law_behind (fun vs H Q E h => ?_) (fun cdv A0 outer s H vs Q E hr h => ?_)
  · obtain ⟨p, q, A, ws, rfl, _⟩ := h
    rfl
  · obtain ⟨p, q, A, ws, rfl, hp, px, hq, wok, k⟩ := h
    have S := sc__law_behind
    refine ⟨_, (pss_cons (ps_set (i := 2) S.nd rfl (.inl rfl) pe_int)
      (pss_cons (ps_for PassesOwn.never rfl (pi_tup (pv 1)) (pg_tup (by rfl) (pgs_cons (pg_name (i := 3) S.nd rfl (.inl rfl)) (pgs_cons (pg_name (i := 4) S.nd rfl (.inl rfl)) (pgs_cons (pg_name (i := 5) S.nd rfl (.inl rfl)) pgs_nil))))
        (pss_cons (ps_set (i := 6) S.nd rfl (.inl rfl) (pe_call GO (hr.mono (by decide)) (by rfl) DO.g DO.F.kp DO.b .nil pass0 (pa_cons (pv 0) (pa_cons (pv 2) (pa_cons (pv 3) (pa_cons (pv 4) pa_nil))))))
      (pss_cons (ps_if (PW.pt (pw_or (pt_cmpR op_isN1 (pv 6) pe_non (nomark _)) (pw_or1 (pt_cmp (pc_dnotin (hu_of hr) (pv 5) (pv 6))))))
        (pss_one (ps_ret pe_non))
        pss_nil)
      (pss_one (ps_set (i := 2) S.nd rfl (.inl rfl) (pe_dget (hu_of hr) (pv 6) (pv 5) (fun _ _ => rfl)))))))
      (pss_one (ps_ret (pv 2))))), ?_⟩
    obtain ⟨ls, hl, pl⟩ := hq
    have len := Paired.length pl
    dsimp only [tSeq, tAsg]
    refine val_c _ ?_
    try dsimp only [gName]
    refine forV (xs := ls.map V.ref) (fun i σ H' => Same H H' ∧ ∃ (a : Nat) (v3 v4 v5 v6 : Option V), σ = [some (.ref p), some (.ref q), some (.int (a : Nat)), v3, v4, v5, v6] ∧ a < A.length ∧ runR A 0 ws = runR A a (ws.drop i)) q (fun Q kq => (val_var rfl) _ (kq H hl (Same.refl _))) ?_ ?_ ?_ ?_
    · exact fun H3 s3 _ => ⟨s3, 0, none, none, none, none, rfl, px.l0, rfl⟩
    · rintro i σ H' _ ⟨s3, _⟩
      exact SqT.of (s3 _ _ hl)
    · rintro i x σ H' hx ⟨s3, a, v3, v4, v5, v6, rfl, al, er⟩
      obtain ⟨t', et, rfl⟩ : ∃ t, ls[i]? = some t ∧ x = .ref t := by
        rw [List.getElem?_map] at hx
        cases e : ls[i]? with
        | none => rw [e] at hx; cases hx
        | some i => rw [e] at hx; exact ⟨i, rfl, (Option.some.inj hx).symm⟩
      obtain ⟨l0, eq, ht⟩ := paired_at i pl et
      obtain ⟨rs, ers⟩ : ∃ rs, A[a]? = some rs := ⟨_, List.getElem?_eq_getElem al⟩
      obtain ⟨sx, _, rok⟩ := px.ok rs (List.mem_of_getElem? ers)
      have lok := wok l0 (List.mem_of_getElem? eq)
      refine ⟨t', _, rfl, SqT.of (s3 _ _ ht), rfl, _, _, rfl, _, _, rfl, _, _, rfl, rfl, ?_⟩
      try dsimp only [gName, List.set]
      rw [drop_at eq] at er
      have er : runR A 0 ws = match behR rs l0.1.1 l0.1.2 l0.2 with
          | some n => runR A n.toNat (ws.drop (i + 1))
          | none => none := by
        rw [er]
        show (match A[a]? with
          | some rs => match behR rs l0.1.1 l0.1.2 l0.2 with
            | some n => runR A n.toNat (ws.drop (i + 1))
            | none => none
          | none => none) = _
        rw [ers]
      try dsimp only [tSeq, tAsg, tCall, tCons, tNil]
      refine (val_var rfl) _ ((val_var (v := .int (a : Nat)) rfl) _ ((val_var (v := .str l0.1.1) rfl) _ ((val_var (v := .int l0.1.2) rfl) _ ⟨p, A, a, A.length, rs, l0.1.1, l0.1.2, rfl, hp.mono (TKeep.same s3), ers, sx, rok, pool_ok _ lok.1, fun H4 s4 e4 => ?_, fun H4 t r s4 e4 nt h4 => ?_⟩)))
      · rw [beh_row, e4] at er
        try dsimp only [gName, List.set]
        try dsimp only [tSeq, tIfS, tOr, tTest]
        refine (val_op (z := .bl true) (val_var (v := .non) rfl) val_c fun Q q => ⟨rfl, q⟩) _ ⟨_, rfl, ?_⟩
        have kk := k H4 (s3.trans s4)
        rw [er] at kk
        exact iteT (iteT (val_c _ kk))
      · have eb := beh_row (rs := rs) (d := l0.1.1) (w := l0.1.2) (a := l0.2)
        rw [e4] at eb
        have vv := valV_dkv r.2 l0.2
        rw [← show behR rs l0.1.1 l0.1.2 l0.2 = (r.2.find? fun o => decide (o.1 = l0.2)).map (·.2) from eb] at vv
        try dsimp only [gName, List.set]
        try dsimp only [tSeq, tIfS, tOr, tTest]
        refine (val_op (z := .bl false) (val_var (v := .ref t) rfl) val_c fun Q q => ⟨rfl, q⟩) _ ⟨_, rfl, ?_⟩
        refine iteF ?_
        try dsimp only [L2.tB, tDNotIn]
        refine (val_var (v := .int l0.2) rfl) _ ((val_var (v := .ref t) rfl) _ ⟨t, _, rfl, DGet.k (k := .inl l0.2) h4, _, rfl, ?_⟩)
        rw [vv]
        cases e5 : behR rs l0.1.1 l0.1.2 l0.2 with
        | none =>
          rw [e5] at er
          have kk := k H4 (s3.trans s4)
          rw [er] at kk
          exact iteT (val_c _ kk)
        | some n =>
          rw [e5] at er vv
          obtain ⟨n0, n1⟩ := beh_in sx e5
          refine iteF ?_
          try dsimp only [tNext, tSeq, tAsg, tDGet]
          refine (val_var (v := .ref t) rfl) _ ((val_var (v := .int l0.2) rfl) _ ⟨t, .int n, rfl, ?_, ?_⟩)
          · have g := DGet.k (H := H4) (a := t) (k := .inl l0.2) h4
            rw [vv] at g
            exact g
          · refine ⟨s3.trans s4, n.toNat, some (.str l0.1.1), some (.int l0.1.2), some (.int l0.2), some (.ref t), ?_, by omega, er⟩
            rw [Int.toNat_of_nonneg n0]
            rfl
    · rintro σ H' ⟨s3, a, v3, v4, v5, v6, rfl, al, er⟩
      rw [List.length_map, len, List.drop_length] at er
      have er : runR A 0 ws = some (a : Int) := er
      have kk := k H' s3
      rw [er] at kk
      exact (val_var (v := .int (a : Nat)) rfl) _ kk
end
end K5
namespace K5
open PySem PySem.Spec PyProof.Rows L2
/-! ### {k: v}, k a tuple of whole numbers and texts -/
theorem dict_pairsK {K : Type} [DecidableEq K] {P : Program} {w : World} {knd : HeapKind P w K} {s : Shared} {env : Env} {keys : List (Option Expr)} {values : List Expr} {pos : Pos} {Q : Value → Shared → Prop} {E : Value → Shared → Prop} {A : Around} (hu : knd.room A) (hall : keys.all (·.isSome) = true) (hl : keys.length = values.length) (h0 : keys ≠ []) (h15 : keys.length ≤ 15)
    (h : wpAny (model P w) A (evalPairs (pairTrees keys values env pos)) (fun vs s₁ => ∃ ps, CarriesH knd s₁.heap vs ps ∧ s₁.heap.DictOfH knd s.heap.objs.size [] ∧
      ∀ h' tk, h'.DictOfH knd s.heap.objs.size (storedAllH [] ps) → Heap.SameBut s.heap.objs.size s₁.heap h' → Q (.ref s.heap.objs.size) { s₁ with heap := h', toks := tk }) E
      { s with heap := s.heap.push { cls := .type "dict", data := .dict #[] } }) :
    wpAny (model P w) A (eval (.Dict keys values pos) env) Q E s := by
  have hn := pairTrees_length keys values env pos hall hl
  have h1 : pairTrees keys values env pos ≠ [] := fun he => by
    rw [he] at hn
    exact h0 (List.length_eq_zero_iff.mp hn.symm)
  rw [arm_eval_Dict, zip_pairTrees keys values env pos hall hl, dictDisplay_pairs _ h1 (by omega)]
  exact wpAny_bind (wpAny_standAt (wpAny_bind (wpAny_subDictH (knd := knd) (Q := fun d s' => wpAny (model P w) A (pure (Value.ref d)) Q E s') hu (by omega)
    (wpAny_mono h (fun vs s₁ h₁ => by obtain ⟨ps, hc, hm, hq⟩ := h₁; exact ⟨ps, hc, hm, fun h' tk a b => wpAny_pure (hq h' tk a b)⟩) fun _ _ e => e))))
def tDisp1T (tk tv : TE) : TE := fun σ H Q => ∀ (p : Addr) (H1 : Hp), H p = none → Same H H1 → H1 p = some (.dT []) → tk σ H1 fun y H2 => tv σ H2 fun v H3 => ∃ (b : Addr) (k : List Key), y = .ref b ∧ H3 p = some (.dT []) ∧ H3 b = some (.tup (k.map kV)) ∧ Q (.ref p) (upd H3 p (.dT [(k, v)]))
theorem pe_disp1T {X : Cx} {i value : Expr} {pos : Pos} {tk tv : TE} (hu : (tupleKind (mixKind X.prog X.w)).room X.A) (hk : PE X i tk) (hv : PE X value tv) : PE X (.Dict [some i] [value] pos) (tDisp1T tk tv) := by
  refine ⟨fun pins s σ H Q I q => ?_⟩
  have hn := I.hok.fresh (Nat.le_refl s.heap.objs.size)
  have I1 := I.laid (a := s.heap.objs.size) (o := .dT []) (h' := s.heap.push { cls := .type "dict", data := .dict #[] }) (t' := s.toks) (fun _ _ q => Heap.get?_push_of_some _ q) (Nat.le_refl _) (dt_empty s.heap I.big)
  have P2 : PPs X pos [some i] [value] [(tk, tv)] := pps_cons hk hv pps_nil
  refine dict_pairsK hu rfl rfl (by intro z; cases z) (show 1 ≤ 15 by decide) (thn (P2.run pins _ σ _ (fun ps H3 => match ps with
    | [(y, v)] => ∃ (b : Addr) (k : List Key), y = .ref b ∧ H3 s.heap.objs.size = some (.dT []) ∧ H3 b = some (.tup (k.map kV)) ∧ Q (.ref s.heap.objs.size) (upd H3 s.heap.objs.size (.dT [(k, v)]))
    | _ => False) I1 (q _ _ hn (same_upd hn) upd_same)) fun ws s2 h2 => ?_)
  obtain ⟨ps, H3, I3, rel, h3⟩ := h2
  match ps, rel, h3 with
  | [(y, v)], .cons ⟨ry, rv⟩ .nil, ⟨b, k, ey, e, hb, q3⟩ =>
    rename_i yv
    obtain ⟨u, r⟩ := yv
    subst ey
    obtain rfl : u = Value.ref b := ry
    obtain ⟨z, ne, xs, kt, dd⟩ := dt_of I3.hok e
    cases kt
    refine ⟨[(k, b, r)], ⟨rfl, rfl, key_of I3.hok hb, True.intro⟩, dd, fun h' tk dd' hs' => ?_⟩
    obtain ⟨ob, es, ep, hq, h2, h3, h4, _, h5⟩ := dd'
    have nb : b ≠ s.heap.objs.size := fun z => by
      rw [z, e] at hb
      cases hb
    have I4 := d_write (t' := tk) I3 (ob := .dT [(k, v)]) (by rw [e]; exact True.intro) hs' ⟨ob, hq⟩ ⟨show 1 ≤ sizeLine by decide, ne, [(k, b, r)], .cons ⟨rfl, by rw [upd_ne nb]; exact hb, rv⟩ .nil, ob, es, ep, hq, h2, h3, h4, h5⟩
    exact ⟨.ref s.heap.objs.size, _, I4, rfl, q3⟩
end K5
namespace K5
open PySem PySem.Spec PyProof.Rows L2
/-! ### the order of letters -/
instance (a b : Str) : Decidable (SLt a b) := by
  unfold SLt
  infer_instance
def ltL (a b : Lt) : Bool := decide (SLt a.1.1 b.1.1) || (decide (a.1.1 = b.1.1) && (decide (a.1.2 < b.1.2) || (decide (a.1.2 = b.1.2) && decide (a.2 < b.2))))
theorem ltL_iff {a b : Lt} : ltL a b = true ↔ SLt a.1.1 b.1.1 ∨ (a.1.1 = b.1.1 ∧ (a.1.2 < b.1.2 ∨ (a.1.2 = b.1.2 ∧ a.2 < b.2))) := by
  simp [ltL]
theorem slt_tr {a b c : Str} (h : SLt a b) (g : SLt b c) : SLt a c := List.lt_trans h g
theorem slt_irr {a : Str} (h : SLt a a) : False := List.lt_irrefl _ h
theorem slt_tri {a b : Str} (h : ¬ SLt a b) (g : ¬ SLt b a) : a = b := by
  have e : a.cps.toList = b.cps.toList := List.le_antisymm (show ¬ b.cps.toList < a.cps.toList from g) (show ¬ a.cps.toList < b.cps.toList from h)
  cases a
  cases b
  congr
  exact Array.toList_inj.mp e
theorem ltL_lin : V13.Lin ltL where
  irr := fun a => by
    cases h : ltL a a with
    | false => rfl
    | true =>
      rcases ltL_iff.mp h with h | ⟨_, h | ⟨_, h⟩⟩
      · exact (slt_irr h).elim
      · omega
      · omega
  tr := fun a b c h g => by
    rw [ltL_iff] at h g ⊢
    rcases h with h | ⟨e, h⟩
    · rcases g with g | ⟨e2, _⟩
      · exact .inl (slt_tr h g)
      · exact .inl (e2 ▸ h)
    · rcases g with g | ⟨e2, g⟩
      · exact .inl (e ▸ g)
      · refine .inr ⟨e.trans e2, ?_⟩
        rcases h with h | ⟨h1, h2⟩
        · rcases g with g | ⟨g1, g2⟩
          · exact .inl (by omega)
          · exact .inl (by omega)
        · rcases g with g | ⟨g1, g2⟩
          · exact .inl (by omega)
          · exact .inr ⟨by omega, by omega⟩
  tri := fun a b h g => by
    have h : ¬ ltL a b = true := by rw [h]; exact Bool.false_ne_true
    have g : ¬ ltL b a = true := by rw [g]; exact Bool.false_ne_true
    rw [ltL_iff] at h g
    have e1 : a.1.1 = b.1.1 := slt_tri (fun z => h (.inl z)) (fun z => g (.inl z))
    have e2 : a.1.2 = b.1.2 := by
      have h1 : ¬ a.1.2 < b.1.2 := fun z => h (.inr ⟨e1, .inl z⟩)
      have h2 : ¬ b.1.2 < a.1.2 := fun z => g (.inr ⟨e1.symm, .inl z⟩)
      omega
    have e3 : a.2 = b.2 := by
      have h1 : ¬ a.2 < b.2 := fun z => h (.inr ⟨e1, .inr ⟨e2, z⟩⟩)
      have h2 : ¬ b.2 < a.2 := fun z => g (.inr ⟨e1.symm, .inr ⟨e2.symm, z⟩⟩)
      omega
    obtain ⟨⟨a1, a2⟩, a3⟩ := a
    obtain ⟨⟨b1, b2⟩, b3⟩ := b
    simp only at e1 e2 e3
    rw [e1, e2, e3]
/-- the letters of a state ascend -/
theorem lets_asc {m : Nat} {rs : List RwD} (h : StX 4 m rs) : (letsR rs).Pairwise fun y z => ltL y.1 z.1 = true := by
  have row : ∀ r ∈ rs, (letR r).Pairwise fun y z => ltL y.1 z.1 = true := fun r hr => by
    unfold letR
    refine List.pairwise_map.mpr ((List.pairwise_map.mp (h.2 r hr).2.2.1).imp fun {a b} l => ?_)
    exact ltL_iff.mpr (.inr ⟨rfl, .inr ⟨rfl, l⟩⟩)
  have keys := List.pairwise_map.mp h.1
  clear h
  induction rs with
  | nil => exact .nil
  | cons r rs ih =>
    obtain ⟨k1, k2⟩ := List.pairwise_cons.mp keys
    show (letR r ++ letsR rs).Pairwise _
    refine List.pairwise_append.mpr ⟨row r List.mem_cons_self, ih (fun x hx => row x (List.mem_cons_of_mem _ hx)) k2, fun y hy z hz => ?_⟩
    unfold letR at hy
    unfold letsR at hz
    obtain ⟨o, _, rfl⟩ := List.mem_map.mp hy
    obtain ⟨r2, hr2, hz⟩ := List.mem_flatMap.mp hz
    unfold letR at hz
    obtain ⟨o2, _, rfl⟩ := List.mem_map.mp hz
    rcases k1 r2 hr2 with g | ⟨g1, g2⟩
    · exact ltL_iff.mpr (.inl g)
    · exact ltL_iff.mpr (.inr ⟨g1, .inl g2⟩)
theorem af_asc {A : List (List RwD)} (h : PcX A) (s : Nat) : (Af A s).Pairwise fun y z => ltL y.1 z.1 = true := by
  unfold Af
  cases e : A[s]? with
  | none => exact .nil
  | some rs => exact List.pairwise_map.mpr ((lets_asc (h.ok rs (List.mem_of_getElem? e)).1).imp fun {a b} l => l)
theorem cand_in {A B : List (List RwD)} (hA : PcX A) (hB : PcX B) (p : Nat × Nat) (w : List Lt) (c : V13.Cand Lt) (q : Nat × Nat) (hp : p ∈ allP A.length B.length) (hc : c ∈ V13.cand (Af A) (Bf B) (p, w)) (k : V13.key c = some q) : q ∈ allP A.length B.length := by
  obtain ⟨p1, p2⟩ := allP_mem.mp hp
  obtain ⟨z, hz, rfl⟩ := List.mem_map.mp hc
  obtain ⟨rs, ers⟩ : ∃ rs, A[p.1]? = some rs := ⟨_, List.getElem?_eq_getElem p1⟩
  obtain ⟨rt, ert⟩ : ∃ rs, B[p.2]? = some rs := ⟨_, List.getElem?_eq_getElem p2⟩
  have hz : z ∈ (match A[p.1]? with
    | some rs => (letsR rs).map fun (e : Lt × Int) => (e.1, e.2.toNat)
    | none => []) := hz
  rw [ers] at hz
  obtain ⟨e, he, rfl⟩ := List.mem_map.mp hz
  obtain ⟨a1, a2, a3⟩ := hA.ok rs (List.mem_of_getElem? ers)
  obtain ⟨b1, b2, b3⟩ := hB.ok rt (List.mem_of_getElem? ert)
  obtain ⟨n0, n1, _⟩ := let_in a1 a3 he
  have k : (Bf B p.2 e.1).map (fun b => (e.2.toNat, b)) = some q := k
  have eB : Bf B p.2 e.1 = (behR rt e.1.1.1 e.1.1.2 e.1.2).map Int.toNat := by
    unfold Bf
    rw [ert]
  rw [eB] at k
  cases eb : behR rt e.1.1.1 e.1.1.2 e.1.2 with
  | none =>
    rw [eb] at k
    cases k
  | some n =>
    rw [eb] at k
    obtain ⟨m0, m1⟩ := beh_in b1 eb
    injection k with k
    rw [← k]
    exact allP_mem.mpr ⟨by show e.2.toNat < _; omega, by show n.toNat < _; omega⟩
end K5
namespace K5
open PySem PySem.Spec PyProof.Rows L2
/-! ### an error that is kept behind its suite -/
/-- an error of the class cls, its dict at d, at a -/
def ExK (cls : Value) (d : Option Addr) (a : Addr) : HO := .ext fun h => ∃ (oe : Obj) (vs : Array Value), h.get? a = some oe ∧ Zc cls d oe ∧ oe.data = .fields vs
theorem exK_ok {P : Program} {w : World} {H : Hp} {h : Heap} {a : Addr} {cls : Value} {d : Option Addr} {oe : Obj} {vs : Array Value} (e : h.get? a = some oe) (z : Zc cls d oe) (f : oe.data = .fields vs) : ObjOk P w H h a (ExK cls d a) :=
  ⟨⟨oe, vs, e, z, f⟩, ⟨oe, e⟩, fun h1 h2 ⟨o1, v1, q1, q2, q3⟩ k => ⟨o1, v1, k _ q1, q2, q3⟩⟩
section
variable {X : Cx} {pins : List (Addr × Obj)} {σ σ' : L2.St} {H H' : Hp} {s sI : Shared}
/-- what came since J may be laid on the ledger -/
theorem track {a : Addr} {o : HO} (I : Inv X pins σ H s) (J : Inv X pins σ' H' sI) (new : sI.heap.get? a = none) (hx : X.ex = []) (hn : H a = none) (nL : a ≠ X.env.locals) (ok : ObjOk X.prog X.w (upd H a o) s.heap a o) : Inv X pins σ (upd H a o) s := by
  have old : ∀ b u, X.s_0.heap.get? b = some u → b ≠ a := fun b u e z => by
    obtain ⟨u2, e2⟩ := J.base.there b u e (by rw [hx]; exact List.not_mem_nil)
    rw [z, new] at e2
    cases e2
  have kp : ∀ b u, H b = some u → upd H a o b = some u := fun b u e => by
    rw [upd_ne (ne_of_none e hn)]
    exact e
  refine ⟨I.ok, I.os, I.bare, ⟨I.base.keep, I.base.slot, fun b u e n x => ?_, I.base.there, fun b xs e => kp _ _ (I.base.tups b xs e), fun b u v e => kp _ _ (I.base.frzs b u v e), fun b ps e => ?_⟩, I.loc, I.cell, ?_, fun x c e => ?_, fun p hp => ?_, fun b u e => ?_, I.len⟩
  · rw [upd_ne (old b u e)]
    exact I.base.free b u e n x
  · obtain ⟨more, e2⟩ := I.base.tbls b ps e
    exact ⟨more, kp _ _ e2⟩
  · rw [upd_ne nL.symm]
    exact I.free
  · have nc : c ≠ a := fun z => by
      obtain ⟨v, hv⟩ := J.cell x c e
      rw [z] at hv
      obtain ⟨ob, h1, _⟩ := hv
      rw [new] at h1
      cases h1
    rw [upd_ne nc]
    exact I.freeC x c e
  · obtain ⟨e1, e2, e3⟩ := I.pin p hp
    have np : p.1 ≠ a := fun z => by
      obtain ⟨q1, _⟩ := J.pin p hp
      rw [z, new] at q1
      cases q1
    rw [upd_ne np]
    exact ⟨e1, e2, e3⟩
  · by_cases c : b = a
    · subst c
      rw [upd_same] at e
      cases e
      exact ok
    · rw [upd_ne c] at e
      exact (I.hok b u e).stay (fun c v _ q => q) (fun c q => kp _ _ q) fun c xs q => kp _ _ q
end
end K5
namespace K5
open PySem PySem.Spec PyProof.Rows L2
/-- what the clause 'except x as n' wishes, whose suite runs through; the error stays known behind it -/
def wKeep (K : PySem.W.Frag) (c : Value) (i : Nat) (ts : Addr → Value → Option Addr → TS) (Wout : WX) (D : L2.Ends) : WX := fun cls d σ H =>
  ∃ b, PySem.W.exmOne K cls c = some b ∧
    (b = true → ∀ a, H a = none → ts a cls d { nx := fun σ' H' => D.nx (σ'.set i none) (upd H' a (ExK cls d a)), rt := fun _ _ => False, bk := fun _ _ => False, ct := fun _ _ => False } (σ.set i (some (.ref a))) H) ∧
    (b = false → Wout cls d σ H)
section
variable {X : Cx} {x n : Str} {c : Value} {i : Nat} {body suite : List Stmt} {b0 : Stmt} {np pos pos' : Pos} {tb : WX → TS} {ts : Addr → Value → Option Addr → TS} {Wout : WX}
theorem ps_try_keep (hs : X.stack = X.env :: X.outer) (hf : X.env.frame = some X.env.locals) (hex : X.ex = []) (nodup : X.N.Nodup) (at1 : X.N[i]? = some n) (loc1 : X.env.kindOf n = some .local) (names : Names X x c) (tk : Takes X Wout)
    (bodyOk : ∀ (W : WX) (pn : List (Addr × Obj)) (xe : Value → Shared → Prop), Takes (X.tr pn xe) W → PassesOwn (model X.prog X.w) X.A X.env xe → PSs (X.tr pn xe) body (tb W))
    (suiteOk : ∀ (a : Addr) (oe : Obj) (cls : Value) (d : Option Addr) (pn : List (Addr × Obj)), Zc cls d oe → (∃ vs, oe.data = .fields vs) → PSs (X.suite a ((a, oe) :: pn)) (b0 :: suite) (ts a cls d)) :
    PS X (.Try body [.ExceptHandler (some (.Name x np)) (some n) (b0 :: suite) pos'] [] [] pos) (fun D σ H => tb (wKeep X.K c i ts Wout D) D σ H) := by
  refine ⟨fun pins s σ H D I h => ?_⟩
  have okX := I.ok
  have frames : X.A.frames = some (X.env :: X.outer) := by
    rw [okX.frames, hs]
  refine wpAny_Try_except ?_
  -- what the body lets out is looked at by the clause
  let out : Value → Shared → Prop := fun e s1 => wpAny (model X.prog X.w) X.A (noteFrame e X.env) (fun _ s2 => wpAny (model X.prog X.w) X.A (setFlight e none) (fun _ s3 =>
    wpAny (model X.prog X.w) X.A (handleBy e X.env [.ExceptHandler (some (.Name x np)) (some n) (b0 :: suite) pos']) (SP X pins D) X.xe s3) X.xe s2) X.xe s1
  have catches : Takes (X.tr (X.pn ++ pins) out) (wKeep X.K c i ts Wout D) := fun u s' raised => by
    obtain ⟨a, B, sI, pins1, σ1, H1, cls, d, rfl, J0, kept, up, sky, na, os1, ag, b, isb, yes, no⟩ := raised
    have J : Inv X pins σ1 H1 sI := J0.ofTry okX
    have sky1 : Sky B (X.env :: X.outer) a (Zc cls d) X.env.locals s'.heap := by
      rw [← hs]
      exact sky
    show wpAny (model X.prog X.w) X.A (noteFrame (.ref a) X.env) _ _ _
    refine Sky.land Zc.steady frames hf sky1 fun hA flA upA => ?_
    have JA : Inv X pins σ1 H1 { s' with heap := hA } := J.landed kept flA.1 (up.trans upA) os1 ag
    obtain ⟨oA, vA, eA, zA, dA⟩ := flA.there
    -- it is no frame
    have noFrame : a ∉ frs (X.env :: X.outer) := fun q => by
      obtain ⟨_, o2, e2, nf⟩ := flA.2.2.1.mem q
      rw [eA] at e2
      cases e2
      exact nf _ dA
    have nL : a ≠ X.env.locals := fun q => noFrame (List.mem_filterMap.mpr ⟨X.env, List.mem_cons_self, by rw [hf, q]⟩)
    have nF : a ∉ X.fs := fun q => by
      obtain ⟨e, h1, h2⟩ := List.mem_filterMap.mp q
      exact noFrame (List.mem_filterMap.mpr ⟨e, List.mem_cons_of_mem _ h1, h2⟩)
    -- it is new
    have new : sI.heap.get? a = none := by
      cases e : sI.heap.get? a with
      | none => rfl
      | some o =>
        have q := kept a o e (by rw [hs]; exact noFrame)
        rw [flA.2.1] at q
        cases q
    have SA := JA.suite eA dA na nL nF
    refine wpAny_handleBy_cons (codeAny_handlers_test ?_) (fun q => nomatch q)
    have tyA : PySem.W.Looks (model X.prog X.w) hA (typeOf (.ref a)) cls := fun A Q E s k q => wpAny_typeOf_ref (k _ _ eA) (by rw [zA.1]; exact q)
    have asks := PySem.W.exm_one (M := model X.prog X.w) (JA.kIn) tyA isb
    have named : ∀ {Q : Value → Shared → Prop} {E : Value → Shared → Prop}, Q c { s' with heap := hA } → wpAny (model X.prog X.w) (X.A.mark (some (.ref a))) (eval (.Name x np) X.env) Q E { s' with heap := hA } := fun {Q E} q => by
      obtain ⟨g1, g2, g3 | ⟨g3, g4, g5⟩⟩ := names
      · exact ld_glob (X := X.suite a ((a, oA) :: (X.pn ++ pins))) SA g1 g3 q g2
      · exact ld_blt (X := X.suite a ((a, oA) :: (X.pn ++ pins))) SA g1 g3 g4 q g5 g2
    refine named (asks.here ?_)
    cases b with
    | true =>
      refine codeAny_handlers_suite_as ?_
      refine HandSPX.lands_againZ flA fun hB flB upB => ?_
      have JB : Inv X pins σ1 H1 { s' with heap := hB } := J.landed kept flB.1 ((up.trans upA).trans upB) os1 ag
      obtain ⟨oB, vB, eB, zB, dB⟩ := flB.there
      refine store_ok (X := X.suite a ((a, oB) :: (X.pn ++ pins))) (v := .ref a) (JB.suite eB dB na nL nF) nodup at1 (.inl loc1) rfl (fun s5 S5 => ?_) (.inr loc1)
      refine wpAny_mono ((suiteOk a oB cls d (X.pn ++ pins) zB ⟨_, dB⟩).run [] s5 _ H1 _ S5 (yes rfl a na)) (fun f s6 done => ?_) (fun _ _ z => False.elim z)
      cases f with
      | next =>
        obtain ⟨σ6, H6, S6, q6⟩ := done
        obtain ⟨p1, p2, _⟩ := S6.pin (a, oB) (List.mem_append_left _ List.mem_cons_self)
        have laid : Inv X pins σ6 (upd H6 a (ExK cls d a)) s6 := track (S6.unsuite okX) J new hex p2 nL (exK_ok p1 zB dB)
        exact gone_ok laid nodup at1 loc1 fun s7 J7 => ⟨_, _, J7, q6⟩
      | brk =>
        obtain ⟨_, _, _, z⟩ := done
        exact z.elim
      | cont =>
        obtain ⟨_, _, _, z⟩ := done
        exact z.elim
      | ret u =>
        obtain ⟨_, _, _, _, _, z⟩ := done
        exact z.elim
    | false =>
      show wpAny _ X.A (handleBy (.ref a) X.env []) _ _ _
      refine wpAny_handleBy_nil ?_
      obtain ⟨oC, vC, tr, _, _, eC, _, dC, at3, _⟩ := flA.2.2.2
      unfold PySem.passOn
      refine wpAny_bind (wpAny_field eC dC at3 ?_)
      rw [if_neg (show ¬ ((Value.ref tr == Value.none) = true) from by simp)]
      have on : wpAny (model X.prog X.w) X.A (setFlight (.ref a) X.env.frame) (fun _ s4 => wpAny (model X.prog X.w) X.A (throw (.ref a) : Sem Flow) (SP X pins D) X.xe s4) X.xe { s' with heap := hA } := by
        rw [hf]
        refine HandSPX.setFlight_upZ flA fun hC held upC => wpAny_throw (tk _ _ ?_)
        exact ⟨a, B, sI, pins, σ1, H1, cls, d, rfl, J, kept, (up.trans upA).trans upC, .inr (.inr (by rw [hs]; exact held)), na, os1, ag, no rfl⟩
      first
        | exact wpAny_bind (wpAny_pure (wpAny_bind on))
        | exact wpAny_bind on
  refine wpAny_mono ((bodyOk (wKeep X.K c i ts Wout D) (X.pn ++ pins) out catches PassesOwn.looking).run [] s σ H D (I.toTry _) h) (fun f s1 done => ?_) (fun e s1 z => z)
  cases f with
  | next =>
    obtain ⟨σ2, H2, J2, q⟩ := done
    exact wpAny_execs_nil ⟨σ2, H2, J2.ofTry okX, q⟩
  | brk =>
    obtain ⟨σ2, H2, J2, q⟩ := done
    exact ⟨σ2, H2, J2.ofTry okX, q⟩
  | cont =>
    obtain ⟨σ2, H2, J2, q⟩ := done
    exact ⟨σ2, H2, J2.ofTry okX, q⟩
  | ret u =>
    obtain ⟨v2, σ2, H2, J2, r2, q⟩ := done
    exact ⟨v2, σ2, H2, J2.ofTry okX, r2, q⟩
end
end K5
namespace K5
open PySem PySem.Spec PyProof.Rows L2
/-- isinstance(e, c), e a kept error that has its dict -/
def rIsK (K : PySem.W.Frag) : List V → Hp → VK → Prop := fun xs H Q => ∃ (a D dd : Addr) (fs : List (Str × V)) (c : V) (cv : Value) (b : Bool), xs = [.ref a, c] ∧ H a = some (ExK (.ref D) (some dd) a) ∧ H dd = some (.xd fs) ∧ ExcC K D ∧ (∀ u, RelV c u → u = cv) ∧ PySem.W.kitOne K (.ref D) cv = some b ∧ Q (.bl b) H
theorem inst_kept {X : Cx} {pins : List (Addr × Obj)} {σ : L2.St} {H : Hp} {s : Shared} {a D dd : Addr} {fs : List (Str × V)} (I : Inv X pins σ H s) (h1 : H a = some (ExK (.ref D) (some dd) a)) (h2 : H dd = some (.xd fs)) :
    ∃ oe od mA, PySem.W.InstAt s.heap a oe D (some od) ∧ s.heap.get? dd = some od ∧ s.heap.Ns1 dd mA ∧ ∀ f, RelO (fs.lookup f) (mA f) := by
  obtain ⟨⟨oe, vs, e, z, f⟩, _⟩ := (show ObjOk X.prog X.w H s.heap a (ExK (.ref D) (some dd) a) from I.hok a _ h1)
  obtain ⟨mA, hns, hr⟩ := (show ObjOk X.prog X.w H s.heap dd (.xd fs) from I.hok dd _ h2)
  obtain ⟨od, ho, _⟩ := lookIn_ns hns
  refine ⟨oe, od, mA, ⟨e, z.1, ?_, ?_⟩, ho, hns, hr⟩
  · unfold PySem.W.notCls
    rw [f]
  · rw [z.2]
    exact ho
theorem call_isK {X : Cx} : CallR X (.builtin "isinstance") (rIsK X.K) := by
  intro pins s σ H xs us Q I r h
  obtain ⟨a, D, dd, fs, c, cv, b, rfl, h1, h2, C, hcv, hb, q⟩ := h
  cases r with
  | cons rx rr =>
    cases rr with
    | cons rt rr =>
      cases rr
      cases rx
      have ec := hcv _ rt
      subst ec
      obtain ⟨oe, od, _, J, _⟩ := inst_kept I h1 h2
      have hcl : (PySem.W.clsIn X.K D).isSome = true := by
        obtain ⟨cd, e, _⟩ := PySem.W.any_some C.hd
        rw [e]
        rfl
      exact PySem.W.kia_one (PySem.W.kitx_exc hcl C.hg C.hk C.hs C.ha C.hn C.ht C.hm) I.kIn J hb (fun z => nomatch z) fun tk => ⟨.bl b, H, I.kept (t' := tk) fun _ _ z => z, rfl, q⟩
/-- e.n, e a kept error -/
def tXk (K : PySem.W.Frag) (n : Str) (te : TE) : TE := fun σ H Q => te σ H fun x H1 => ∃ (a C dd : Addr) (fs : List (Str × V)) (v : V), x = .ref a ∧ H1 a = some (ExK (.ref C) (some dd) a) ∧ H1 dd = some (.xd fs) ∧ XfC K C ∧ PySem.W.findIn K (.ref C) n = some none ∧ fs.lookup n = some v ∧ Q v H1
theorem pe_xk {X : Cx} {e : Expr} {te : TE} {pos : Pos} {n : Str} (he : PE X e te) (hb : attributeBase e n X.env (eval e X.env) = eval e X.env := by rfl) : PE X (.Attribute e n pos) (tXk X.K n te) := by
  refine ⟨fun pins s σ H Q I h => ?_⟩
  refine attr_of hb (thn (he.run pins s σ H _ I h) fun u s1 hh => ?_)
  obtain ⟨x, H1, I1, rx, a, C, dd, fs, v, ex, h1, h2, T, hno, l, q⟩ := hh
  subst ex
  obtain rfl : u = Value.ref a := rx
  obtain ⟨oe, od, mA, J, ho, hns, hr⟩ := inst_kept I1 h1 h2
  obtain ⟨od2, ho2, hl⟩ := lookIn_ns hns
  rw [ho] at ho2
  cases ho2
  obtain ⟨u, hu, ru⟩ := RelO.some_of (v := v) (o := mA n) (by rw [← l]; exact hr n)
  exact HandSPX.exc_get I1.kIn J T.ga T.gg T.exC (PySem.W.findObj_own T.hdC hno rfl (by rw [hl, hu])) (handed_of ru) ⟨v, H1, I1.tok _, ru, q⟩
end K5
namespace K5
open PySem PySem.Spec PyProof.Rows L2
/-- what may be known of the slots may be forgotten -/
theorem forget {X : Cx} {pins : List (Addr × Obj)} {σ : L2.St} {H : Hp} {s : Shared} (I : Inv X pins σ H s) : Inv X pins (List.replicate X.N.length none) H s := by
  obtain ⟨m, h1, _⟩ := I.loc
  refine ⟨I.ok, I.os, I.bare, I.base, ⟨m, h1, fun i x v _ e _ => ?_⟩, I.cell, I.free, I.freeC, I.pin, I.hok, List.length_replicate⟩
  rw [List.getElem?_replicate] at e
  split at e
  · cases e
  · cases e
/-- xs.count(y) of flat things -/
def rCntF (K : PySem.W.Frag) : V → List V → Hp → VK → Prop := fun x xs H Q => ∃ (a : Addr) (ys : List V) (y : V), x = V.ref a ∧ xs = [y] ∧ SqL K H a ys ∧ flatV y = true ∧ ys.all flatV = true ∧ Q (.int ((ys.countP fun z => eqV z y : Nat) : Int)) H
theorem count_flat {y : V} : ∀ {ys : List V} {us : List Value}, Vals ys us → ys.all flatV = true → us.countP (eqU y) = ys.countP fun z => eqV z y
  | _, _, .nil, _ => rfl
  | z :: ys, u :: us, .cons r t, f => by
    rw [List.all_cons, Bool.and_eq_true] at f
    rw [List.countP_cons, List.countP_cons, count_flat t f.2, eqU_of r f.1]
theorem mt_cntF {X : Cx} : MtR X "list.count" (rCntF X.K) := by
  intro pins s σ H x xs v us Q I rx rxs h
  obtain ⟨a, ys, y, rfl, rfl, hs, fy, fys, q⟩ := h
  cases rx
  obtain ⟨uy, rfl, ry⟩ := rxs.one
  obtain ⟨things, rvs, ⟨⟨cls, dd, data, sl⟩, n, at1, h1, h2, h3⟩, few⟩ := I.list hs
  simp only at h1 h3
  subst h1 h3
  refine call_meets PySem.F.slot_list_count ⟨_, at1, rfl⟩ PySem.F.entry_list_count (PySem.F.args_list_count_2 _ _)
    (SeqAt.list_countAt a things.toArray n dd sl uy (eqU y)) ⟨at1, fun w hw => mem_eqAt ry fy rvs fys w (by simpa using hw), ?_⟩
  have e : things.toArray.toList.countP (eqU y) = ys.countP fun z => eqV z y := count_flat rvs fys
  refine ⟨.int ((ys.countP fun z => eqV z y : Nat) : Int), H, I.tok _, ⟨s.toks, ?_⟩, q⟩
  show Value.int ((things.toArray.toList.countP (eqU y) : Nat) : Int) s.toks = _
  rw [e]
theorem takes_forget {X : Cx} {W : WX} (k : Nat) (hk : X.N.length = k) (tk : Takes X W) : Takes X (fun cls d _ H => W cls d (List.replicate k none) H) := fun u s' ⟨a, B, sI, pins, σ, H, cls, d, e, I, nb, up, sky, na, os, ag, w⟩ => by
  subst hk
  exact tk u s' ⟨a, B, sI, pins, _, H, cls, d, e, forget I, nb, up, sky, na, os, ag, w⟩
/-! ### what a call is caught with -/
theorem lk_hd {f : Str} {v : V} {r : List (Str × V)} : List.lookup f ((f, v) :: r) = some v := by simp [List.lookup]
def wd2 : Fin 2 → Str := fun i => ([("pact" : Str), "word"] : List Str).get i
structure E2 (K : PySem.W.Frag) (CE : Addr) (C : Fin 2 → Addr) : Prop where
  e : ∀ i, PySem.W.exmOne K (.ref (C i)) (.ref CE) = some true
  x : ∀ i, ExcC K (C i)
  f : ∀ i, XfC K (C i)
  v : ∀ i, PySem.W.findIn K (.ref (C i)) "value" = some none
  k : ∀ i j, PySem.W.kitOne K (.ref (C i)) (.ref (C j)) = some (decide (i = j))
/-- an error of these classes, with its value; then the pair is told -/
def XCt (C : Fin 2 → Addr) (Q : VK) : XK := fun cls d H' => ∃ (i : Fin 2) (dd : Addr) (v : V) (dv : PyData), cls = .ref (C i) ∧ d = some dd ∧ H' dd = some (.xd [(("value" : Str), v)]) ∧ Dq H' v dv ∧ ShQ dv ∧ ∀ (H2 : Hp) (t : Addr), Same H' H2 → H2 t = some (.tup [.str (wd2 i), .str dv.shown]) → Q (.ref t) H2
/-- what is asked is refused -/
def TCt (C : Fin 2 → Addr) : (XK → Hp → VK → Prop) → Hp → VK → Prop := fun tl H Q => ∀ (E' : XK) (N' : VK), (∀ cls d H', XCt C Q cls d H' → E' cls d H') → tl E' H N'
abbrev nmCt : List Str := ["_law_ask", "_law_caught_here", "_law_marks", "error"]
theorem sc__law_caught : FnScope nmCt ["_law_ask"] (defScope s__law_caught) := ⟨rfl, rfl, rfl, by decide +kernel, rfl, by decide +kernel, by decide +kernel⟩
theorem marks2 : ∀ i : Fin 2, ([decide (i = 0), decide (i = 1)].map V.bl).countP (fun z => eqV z (.bl true)) = 1 ∧ ([decide (i = 0), decide (i = 1)].map V.bl)[i.val]? = some (.bl true) ∧ ∀ m, m < i.val → ([decide (i = 0), decide (i = 1)].map V.bl)[m]? = some (.bl false) := by
  intro i
  match i with
  | ⟨0, _⟩ => exact ⟨rfl, rfl, fun m h => absurd h (Nat.not_lt_zero m)⟩
  | ⟨1, _⟩ => exact ⟨rfl, rfl, fun m h => by
      have : m = 0 := Nat.lt_one_iff.mp h
      subst this
      rfl⟩
theorem caught_gives {X : Cx} {g : Addr} {cdg : Value} {q : Str} {CE : Addr} {C : Fin 2 → Addr} (B : Bt X.mg) (E : E2 X.K CE C) (gE : X.mg "WireError" = some (.ref CE)) (g0 : X.mg "BadPact" = some (.ref (C 0))) (g1 : X.mg "BadWord" = some (.ref (C 1))) (gu : X.A.guards = some []) (room : Room 1 X.A) :
    LamX.GivesTo X nmCt "_law_caught" (defScope s__law_caught) g cdg (defBody s__law_caught) "_law_ask" q (TCt C) := by
  intro f c' s H Q tl act hc h
  have S := sc__law_caught
  have hu : X.A.units + 3 + 64 < cLine := by
    have := room.un
    omega
  refine ⟨_, (pss_cons (ps_set (i := 1) S.nd rfl (.inl rfl) pe_non)
      (pss_cons (ps_try_keep (i := 3) (Wout := fun _ _ _ _ => False) (ts := fun _ _ _ => tAsg (tVar 3) (gName 1)) (tb := fun W D σ H => ∃ Ech : XK, (∀ cls d H', Ech cls d H' → W cls d (List.replicate 4 none) H') ∧ σ[0]? = some (some (.ref f)) ∧ H c' = some (LamX.CodeO c' q) ∧ tl Ech H fun _ H' => D.nx σ H') rfl rfl rfl S.nd rfl rfl ⟨by rfl, by decide, .inl gE⟩ LamX.takes0
        (fun W pn xe tk _ => ?_) (fun a oe cls d pn _ _ => pss_one (ps_set (i := 1) S.nd rfl (.inl rfl) (pv 3))))
      (pss_cons (ps_set (i := 2) S.nd rfl (.inl rfl) (pe_lst (pa_cons (pe_callB call_isK (by rfl) B.m_isinstance PyProof.Rows.boot_isinstance (pa_cons (pv 1) (pa_cons (pe_glob (v := .ref (C 0)) (by rfl) g0 rfl) pa_nil))) (pa_cons (pe_callB call_isK (by rfl) B.m_isinstance PyProof.Rows.boot_isinstance (pa_cons (pv 1) (pa_cons (pe_glob (v := .ref (C 1)) (by rfl) g1 rfl) pa_nil))) pa_nil))))
      (pss_cons (ps_if (pt_cmpR op_ne (pe_bm PySem.F.plainAttrs_list PySem.F.slot_list_count PySem.F.type_list_count mt_cntF (pv 2) (pa_cons pe_bl pa_nil)) pe_int (nomark _))
        (pss_one (ps_ret (pe_tup (pa_cons pe_str (pa_cons pe_str pa_nil)))))
        pss_nil)
      (pss_one (ps_ret (pe_tup (pa_cons (pe_ix (show IxR _ (rIxL X.K) from ix_list) (pe_lst (pa_cons pe_str (pa_cons pe_str pa_nil))) (pe_bm PySem.F.plainAttrs_list PySem.F.slot_list_index PySem.F.type_list_index mt_index (pv 2) (pa_cons pe_bl pa_nil)) (fun _ _ => rfl)) (pa_cons (pe_callB (call_reprQ gu hu) (by rfl) B.m_repr PyProof.Rows.boot_repr (pa_cons (pe_xk (pv 1)) pa_nil)) pa_nil))))))))), ?_⟩
  · refine ⟨fun pins s' σ H' D I h' => ?_⟩
    obtain ⟨Ech, hW, h1, h2, h3⟩ := h'
    exact (pss_one (ps_expr (act (fun cls d _ H => W cls d (List.replicate 4 none) H) pn xe Ech _ _ (takes_forget 4 rfl tk) (fun cls d _ H' e => hW cls d H' e)))).run pins s' σ H' D I ⟨h1, h2, h3⟩
  · try dsimp only [tSeq, tAsg]
    refine val_c _ ?_
    try dsimp only [gName]
    refine ⟨fun cls d H' => wKeep X.K (.ref CE) 3 (fun _ _ _ => tAsg (tVar 3) (gName 1)) (fun _ _ _ _ => False) _ cls d (List.replicate 4 none) H', fun _ _ _ e => e, rfl, hc, h _ _ (fun cls d H' hx => ?_)⟩
    obtain ⟨i, dd, v, dv, rfl, rfl, hdd, hdq, shd, kq⟩ := hx
    refine ⟨true, E.e i, fun _ a na => ?_, fun z => nomatch z⟩
    have nda : dd ≠ a := ne_of_none hdd na
    have hE : (upd H' a (ExK (.ref (C i)) (some dd) a)) a = some (ExK (.ref (C i)) (some dd) a) := upd_same
    have hD : (upd H' a (ExK (.ref (C i)) (some dd) a)) dd = some (.xd [(("value" : Str), v)]) := by
      rw [upd_ne nda]
      exact hdd
    have s1 := same_upd (o := ExK (.ref (C i)) (some dd) a) na
    show tVar 3 _ _ _
    refine (val_var rfl) _ ?_
    dsimp only [gName]
    generalize (upd H' a (ExK (.ref (C i)) (some dd) a)) = H1 at hE hD s1
    have isk : ∀ (j : Fin 2) {σ : L2.St} {H2 : Hp}, σ[1]? = some (some (.ref a)) → Same H1 H2 → Val (tCB (rIsK X.K) (tCons (tVar 1) (tCons (tC (.ref (C j))) tNil))) σ H2 (.bl (decide (i = j))) := fun j σ H2 h s Q q =>
      (val_var h) _ ⟨a, C i, dd, _, .ref (C j), .ref (C j), _, rfl, s _ _ hE, s _ _ hD, E.x i, fun u r => r, E.k i j, q⟩
    obtain ⟨m1, m2, m3⟩ := marks2 i
    try dsimp only [tNext, tSeq, tAsg]
    dsimp only [tLst]
    refine (va_cons (isk 0 rfl (Same.refl _)) (va_cons (isk 1 rfl (Same.refl _)) va_nil)) _ ⟨by show 2 ≤ sizeLine; decide, fun l3 n3 => ?_⟩
    have s4 := same_upd (o := .lst [.bl (decide (i = 0)), .bl (decide (i = 1))]) n3
    have h4 : (upd H1 l3 (.lst [.bl (decide (i = 0)), .bl (decide (i = 1))])) l3 = some (.lst ([decide (i = 0), decide (i = 1)].map V.bl)) := upd_same
    generalize (upd H1 l3 (.lst [.bl (decide (i = 0)), .bl (decide (i = 1))])) = H4 at s4 h4 ⊢
    have fl : ([decide (i = 0), decide (i = 1)].map V.bl).all flatV = true := rfl
    generalize [decide (i = 0), decide (i = 1)].map V.bl = ms at m1 m2 m3 h4 fl
    dsimp only [gName, List.set]
    try dsimp only [tSeq, tIfS, tTest, tOp]
    refine bm_run (x := .ref l3) (val_var rfl) (.inl ⟨rfl, _, SqL.of h4⟩) ?_
    try dsimp only [tCons, tNil]
    refine val_c _ ⟨l3, ms, .bl true, rfl, rfl, SqL.of h4, rfl, fl, ?_⟩
    rw [m1]
    refine val_c _ ⟨rfl, _, rfl, ?_⟩
    refine ite2 (fun e => by simp at e) fun _ => ?_
    try dsimp only [tNext, tRet, tTup, tOp, tLst, tCB, tCons, tNil]
    refine val_c _ (val_c _ ⟨by show 2 ≤ sizeLine; decide, fun l4 n4 => ?_⟩)
    have s5 := same_upd (o := .lst [.str "pact", .str "word"]) n4
    have h5 : (upd H4 l4 (.lst [.str "pact", .str "word"])) l4 = some (.lst [.str "pact", .str "word"]) := upd_same
    have h45 := s5 _ _ h4
    generalize (upd H4 l4 (.lst [.str "pact", .str "word"])) = H5 at s5 h5 h45 ⊢
    have s15 := s4.trans s5
    refine bm_run (x := .ref l3) (val_var rfl) (.inl ⟨rfl, _, SqL.of h45⟩) ?_
    try dsimp only [tCons, tNil]
    refine val_c _ ⟨l3, ms, .bl true, i.val, .bl true, rfl, rfl, SqL.of h45, rfl, fl, m2, rfl, fun m z' hm hz => ?_, ?_⟩
    · rw [m3 m hm] at hz
      cases hz
      rfl
    refine ⟨l4, [.str "pact", .str "word"], (i.val : Int), .str (wd2 i), rfl, rfl, SqL.of h5, atI_nat ?_, ?_⟩
    · match i with
      | ⟨0, _⟩ => rfl
      | ⟨1, _⟩ => rfl
    refine (val_var rfl) _ ⟨a, C i, dd, _, v, rfl, s15 _ _ hE, s15 _ _ hD, E.f i, E.v i, lk_hd, ?_⟩
    refine ⟨v, dv, rfl, hdq.mono (s1.trans s15), shd, ?_⟩
    refine ⟨by show 2 ≤ sizeLine; decide, fun t nt => ?_⟩
    exact kq _ t ((s1.trans s15).trans (same_upd nt)) upd_same
end K5
namespace K5
open PySem PySem.Spec PyProof.Rows L2
/-! ### d.items() where the keys are tuples -/
section
variable {X : Cx} {pins : List (Addr × Obj)} {σ : L2.St} {H : Hp} {s : Shared} {d : Addr} {o : Obj}
theorem frzT2 {kvs : List (List Key × V)} (I : Inv X pins σ H s) (h : H d = some (.frz o (.dT kvs))) :
    (d == sysModules) = false ∧ s.heap.get? d = some o ∧ o.ExactDict ∧ ∃ (es : Array DictEntry) (ep : Nat), o.data = .dict es ep ∧ es.size = kvs.length ∧
      ∀ (i : Nat) (k : List Key) (v : V), kvs[i]? = some (k, v) → ∃ (en : DictEntry) (q : Addr), es[i]? = some en ∧ en.key = .ref q ∧ H q = some (.tup (k.map kV)) ∧ RelV v en.val := by
  obtain ⟨hd, z, hs, xs, pr, o', es, ep, ho, hx, hdt, he, _⟩ := I.hok d _ h
  rw [hd] at ho
  cases ho
  refine ⟨hs, hd, hx, es, ep, hdt, ?_, fun i k v e => ?_⟩
  · have l1 : es.size = xs.length := size_of_entries he
    have l2 : kvs.length = xs.length := Paired.length pr
    omega
  · obtain ⟨b, hb, e1, e2, e3⟩ := paired_get pr e
    have q := entry_at he i
    rw [hb] at q
    exact ⟨_, b.2.1, q, rfl, e2, e3⟩
end
def Itit (d : Addr) (o : Obj) (kvs : List (List Key × V)) : It :=
  ⟨fun i H => H d = some (.frz o (.dT kvs)) ∧ i < kvs.length, fun i H x H' => ∃ (T : Addr) (k : List Key) (v : V) (q : Addr), kvs[i]? = some (k, v) ∧ x = .ref T ∧ H T = none ∧ H q = some (.tup (k.map kV)) ∧ H' = upd H T (.tup [.ref q, v]), fun i H => H d = some (.frz o (.dT kvs)) ∧ kvs.length ≤ i⟩
theorem walk_itemsT {d : Addr} {o : Obj} {kvs : List (List Key × V)} : Walk (Itit d o kvs) kvs.length (fun H => H d = some (.frz o (.dT kvs))) (fun i H x H' => ∃ (T : Addr) (k : List Key) (v : V) (q : Addr), kvs[i]? = some (k, v) ∧ x = .ref T ∧ H T = none ∧ H q = some (.tup (k.map kV)) ∧ H' = upd H T (.tup [.ref q, v])) :=
  ⟨fun _ _ hi q => ⟨q, hi⟩, fun _ q => ⟨q, Nat.le_refl _⟩, fun _ _ _ _ _ _ y => y⟩
section
variable {P : Program} {w : World} {K : PySem.W.Frag} {tg : Expr} {d : Addr} {o : Obj} {es : Array DictEntry} {ep : Nat}
theorem turn_itemsT {kvs : List (List Key × V)} {elts : List Expr} {kk : Nat} {tpos : Pos} (it : Addr) (hod : o.data = .dict es ep) :
    Turn P w K (.Tuple elts kk tpos) (Itit d o kvs) [it] it (fun i h => ∃ ok ov, IsItemIter h it d i kvs.length ep ok ov) where
  mem := by simp
  obj := fun i h st b hb => by
    have e : b = it := by simpa using hb
    subst e
    obtain ⟨ok, ov, e⟩ := st
    exact ⟨_, e, fun v z => nomatch z⟩
  keep := fun i h h' st k => let ⟨ok, ov, e⟩ := st; ⟨ok, ov, k it (by simp) _ e⟩
  item := by
    intro X hP hw hK hc i pins s σ H E I hf st hg
    subst hP hw hK
    obtain ⟨hd, hi⟩ := hg
    obtain ⟨hs, hgd, hx, es', ep', hdt, hsz, ent⟩ := frzT2 I hd
    obtain ⟨rfl, rfl⟩ := dict_ep hod hdt
    obtain ⟨⟨k, v⟩, hkv⟩ : ∃ p, kvs[i]? = some p := ⟨kvs[i], List.getElem?_eq_getElem hi⟩
    obtain ⟨en, q, hen, hkey, hq, ru⟩ := ent i k v hkv
    obtain ⟨ok, ov, he⟩ := st
    rw [← hsz] at he
    have hlt : it < s.heap.objs.size := Heap.lt_size he
    have hi' : i < es'.size := by omega
    have e1 : es'[i] = en := by
      rw [Array.getElem?_eq_getElem hi'] at hen
      exact Option.some.inj hen
    refine wpAny_pyNext_items_item_raw he ⟨o, hgd, hx, hdt⟩ hi' fun h' ho hT hz hk => ?_
    rw [e1, hkey] at ho hT
    refine ⟨_, rfl, wpAny_letOwnedTupleGo_items (s := { s with heap := h' }) ho fun h'' he' sb => ?_⟩
    have hT2 : h''.get? s.heap.objs.size = some { cls := .type "tuple", data := .seq #[.ref q, en.val] } := (sb.2 _ (Nat.ne_of_gt hlt)).trans hT
    have new : ObjOk X.prog X.w (upd H s.heap.objs.size (.tup [.ref q, v])) h'' s.heap.objs.size (.tup [.ref q, v]) :=
      ⟨by show 2 ≤ sizeLine; decide, [.ref q, en.val], .cons rfl (.cons ru .nil), ⟨_, hT2, rfl, _, rfl⟩⟩
    have I1 : Inv X pins σ (upd H s.heap.objs.size (.tup [.ref q, v])) { s with heap := h'' } :=
      I.turnedNew (t' := s.toks) (ch := [it]) (fun b ob hb e => (sb.2 b (by simpa using hb)).trans (hk b ob (by simpa using hb) e)) hf (Nat.le_refl _) new
    refine ⟨.ref s.heap.objs.size, _, I1, rfl, ⟨_, k, v, q, hkv, rfl, I.hok.fresh (Nat.le_refl _), hq, rfl⟩, ⟨.ref q, en.val, ?_⟩, fun b hb => ?_⟩
    · rw [← hsz]; exact he'
    · have e : b = it := by simpa using hb
      rw [e, upd_ne (Nat.ne_of_lt hlt)]
      exact (hf it (by simp)).1
  done := by
    intro X hP hw hK hc i pins s σ H E I hf st hg
    subst hP hw hK
    obtain ⟨hd, hi⟩ := hg
    obtain ⟨f0, f1, f2, f3, f4, f5⟩ := hf it (by simp)
    obtain ⟨hs, hgd, hx, es', ep', hdt, hsz, ent⟩ := frzT2 I hd
    obtain ⟨rfl, rfl⟩ := dict_ep hod hdt
    obtain ⟨ok, ov, he⟩ := st
    rw [← hsz] at he
    exact wpAny_pyNext_items_end_raw (I.ok.hd hc) he ⟨o, hgd, hx, hdt⟩ (by omega) fun h' eb => ⟨rfl, I.turned (t' := s.toks) (fun b ob hb e => eb b ob hb e) f0 f1 f3 f4 f5⟩
  self := fun A i s Q E st h => let ⟨_, _, e⟩ := st; PySem.W.kcp_self e h
end
def iItemsT (td : TE) : TI := fun σ H R => td σ H fun x H1 => ∃ d o kvs, x = .ref d ∧ H1 d = some (.frz o (.dT kvs)) ∧ R (Itit d o kvs) H1
section
variable {X : Cx} {tg e : Expr} {td : TE} {apos cpos : Pos}
theorem pi_itemsT {elts : List Expr} {kk : Nat} {tpos : Pos} (he : PE X e td) (hbase : attributeBase e "items" X.env (eval e X.env) = eval e X.env := by rfl) (hline : (apos.endLine == cpos.line) = true := by rfl) :
    PI X (.Tuple elts kk tpos) (.Call (.Attribute e "items" apos) [] [] cpos) (iItemsT td) := by
  refine ⟨fun pins s σ H R I h => ?_⟩
  refine wpAny_Call_method (T := "dict") (id := "dict.items") hbase rfl hline F.plainAttrs_dict F.slot_dict_items F.type_dict_items (thn (he.run pins s σ H _ I h) fun u s1 ⟨x, H1, I1, rx, d, o, kvs, ex, hd, q⟩ => ?_)
  subst ex
  obtain rfl : u = Value.ref d := rx
  obtain ⟨hs, hgd, hx, es, ep, hdt, hsz, ent⟩ := frzT2 I1 hd
  have raw : s1.heap.DictRaw d es ep := ⟨o, hgd, hx, hdt⟩
  have ty : s1.TypeIs (.ref d) "dict" := ⟨o, hgd, hx.1⟩
  refine ⟨ty, ?_, ?_⟩
  · exact fun b e => ⟨o, by cases e; exact hgd, hx.2.1⟩
  have I2 : Inv X pins σ H1 { s1 with heap := s1.heap.push { cls := .type "dict_items", data := .fields #[.ref d] } } := I1.kept (t' := s1.toks) fun b ob q => Heap.get?_push_of_some _ q
  have fin : wpAny (model X.prog X.w) X.A (pyIter (.ref s1.heap.objs.size)) (PIE X pins σ (.Tuple elts kk tpos) R) X.xe { s1 with heap := s1.heap.push { cls := .type "dict_items", data := .fields #[.ref d] } } := by
    refine wpAny_pyIter_items_raw (d := d) (es := es) (ep := ep) ⟨_, Heap.get?_push_size _ rfl, rfl, rfl⟩ ⟨o, Heap.get?_push_of_some _ hgd, hx, hdt⟩ (pi_one (tk := s1.toks) I2 _ (turn_itemsT _ hdt) ⟨.none, .none, ?_⟩ q)
    rw [hsz]
    exact Heap.get?_push_size _ rfl
  show wpAny _ _ (callWith cpos (.builtin "dict.items") [.ref d] [] []) _ X.xe s1
  exact method_meetsIn F.slot_dict_items F.entry_dict_items rfl (PySem.evalArgs_none ⟨rfl, ty, F.args_dict_items_1 _, _, meets_dict_items_raw d hs, ⟨es, ep, raw⟩, fin⟩)
end
end K5
namespace K5
open PySem PySem.Spec PyProof.Rows L2
/-! ### min(x, y) and min(list) of alike data -/
section
variable {prog : Program} {w : World} {A : Around} {E : Value → Shared → Prop} {s : Shared}
theorem call_min_twoH {a b : Value} {Q : Value → Shared → Prop}
    (h : wpAny (model prog w) A.in1 (pyIter (.ref s.heap.objs.size)) (fun it s₂ => ∃ I fp wr G n P St H bt, it = .ref I ∧ WalksS prog w A.in1 I fp wr G n P St ∧ St 0 s₂ ∧ (∀ b ∈ fp, b < s₂.heap.objs.size) ∧ 0 < n ∧
      (∀ b o, H.get? b = some o → b ∉ wr) ∧ (∀ b o, H.get? b = some o → s₂.heap.get? b = some o) ∧ CmpIn prog w A.in1 .Lt H P bt ∧ ∀ v s', P (argBest bt (n - 1)) v → Moved wr G s₂ s' → Q v s') E
      { s with heap := s.heap.push { cls := .type "tuple", data := .seq #[a, b] } }) :
    wpAny (model prog w) A (call (.builtin "min") [a, b]) Q E s := by
  have hname : (toString "min" ++ toString ".loop" : String) = "min.loop" := by decide
  refine call_function_tree F.kind_min F.plain_min F.entry_min (F.args_min2 _ _) ?_
  show wpAny _ A.in1 (Builtin.Builtins.bindParams "min" ["key", "default"] 0 ⟨[], []⟩ >>= _) _ _ s
  refine wpAny_bind (wpAny_of_eq (show Builtin.Builtins.bindParams "min" ["key", "default"] 0 ⟨[], []⟩ = pure [none, none] from rfl) ?_)
  show wpAny _ A.in1 (newTuple [a, b] >>= _) _ _ s
  refine wpAny_bind (wpAny_newObj_type ?_)
  refine wpAny_bind (wpAny_mono h (fun it s₂ h₂ => ?_) fun _ _ e => e)
  obtain ⟨I, fp, wr, G, n, P, St, H, bt, rfl, W, hst, hfp, hn, hw, hkeep, hcmp, hQ⟩ := h₂
  refine wpAny_bind (wpAny_newObj_type ?_)
  have hSf : s₂.heap.objs.size ∉ fp := fun hm => Nat.lt_irrefl _ (hfp _ hm)
  rw [hname]
  refine wpAny_pure ⟨plainId_quiet F.plain_min_loop _, codeAny_min_loop_firstH W H hw bt hcmp s₂.heap.objs.size hSf (fresh_in hkeep) _ hn (fun b o e => Heap.get?_push_of_some _ (hkeep b o e)) (W.frame 0 s₂ _ s₂.toks hst (Nat.le_refl _) fun b _ o e => Heap.get?_push_of_some _ e) (Heap.get?_push_size _ rfl) fun v s' hP hm => ?_⟩
  exact hQ v s' hP (Moved.drop_new (tk := s₂.toks) hm (Nat.le_refl _))
theorem min_two_data {a b : Value} {x y : PyData} {as bs : List Addr} {Q : Value → Shared → Prop} (hh : A.handled = none) (ra : Reads s.heap a x as) (rb : Reads s.heap b y bs) (ha : PySem.W.AlikeAll [x, y]) (hu : A.units + 1 + PyData.depthAll [x, y] < cLine)
    (h : ∀ h' tk, (∀ b o, s.heap.get? b = some o → h'.get? b = some o) → Q (if PySem.W.dataLt y x = true then b else a) { s with heap := h', toks := tk }) :
    wpAny (model prog w) A (call (.builtin "min") [a, b]) Q E s := by
  have k0 : ∀ (c : Addr) (o : Obj), s.heap.get? c = some o → (s.heap.push { cls := .type "tuple", data := .seq #[a, b] }).get? c = some o := fun c o e => Heap.get?_push_of_some _ e
  have hr : ReadsAll (s.heap.push { cls := .type "tuple", data := .seq #[a, b] }) (#[a, b] : Array Value).toList [x, y] (as ++ (bs ++ [])) := .cons (PySem.W.reads_keeps k0 ra) (.cons (PySem.W.reads_keeps k0 rb) .nil)
  have hl : (s.heap.push { cls := .type "tuple", data := .seq #[a, b] }).IsTuple s.heap.objs.size #[a, b] := ⟨_, Heap.get?_push_size _ rfl, rfl, _, rfl⟩
  refine call_min_twoH (PySem.W.iter_tupleW (A := A.in1) (s := { s with heap := s.heap.push { cls := .type "tuple", data := .seq #[a, b] } }) hh hl fun s₂ e W st hfp hw hk => ?_)
  refine ⟨_, _, _, _, _, _, _, (s.heap.push { cls := .type "tuple", data := .seq #[a, b] }), _, rfl, W, st, hfp, (by show 0 < 2; decide), hw, hk, PySem.W.cmpIn_lt (A := A.in1) (s := { s with heap := s.heap.push { cls := .type "tuple", data := .seq #[a, b] } }) hr ha (by show A.units + 1 + _ < _; exact hu), fun v s' hP m => ?_⟩
  obtain ⟨h', tk, rfl, hk'⟩ := PySem.W.moved_old e rfl m
  have hP : (#[a, b] : Array Value)[if PySem.W.dataLt y x = true then 1 else 0]? = some v := hP
  have ev : v = if PySem.W.dataLt y x = true then b else a := by
    split at hP <;> rename_i c
    · rw [if_pos c]
      exact (Option.some.inj hP).symm
    · rw [if_neg c]
      exact (Option.some.inj hP).symm
  rw [ev]
  exact h h' tk fun c o e => hk' c o (k0 c o e)
end
section
variable {X : Cx}
def rMin2D : List V → Hp → VK → Prop := fun xs H Q => ∃ (x y : V) (d e : PyData), xs = [x, y] ∧ Dq H x d ∧ Dq H y e ∧ PySem.W.AlikeAll [d, e] ∧ PyData.depthAll [d, e] ≤ 8 ∧ Q (if PySem.W.dataLt e d = true then y else x) H
theorem call_min2D (hc : X.calm = true) (hu : X.A.units + 64 < cLine) : CallR X (.builtin "min") rMin2D := by
  intro pins s σ H xs us Q I r h
  obtain ⟨x, y, d, e, rfl, hx, hy, al, dp, q⟩ := h
  obtain ⟨u, v, rfl, r1, r2⟩ := vals2 r
  obtain ⟨as, ra, _⟩ := hx.reads I u r1
  obtain ⟨bs, rb, _⟩ := hy.reads I v r2
  refine min_two_data (I.ok.hd hc) ra rb al (by omega) fun h' tk k => ⟨_, H, I.kept k, ?_, q⟩
  by_cases c : PySem.W.dataLt e d = true
  · rw [if_pos c, if_pos c]; exact r2
  · rw [if_neg c, if_neg c]; exact r1
theorem vals_at2 {xs : List V} {us : List Value} (h : Vals xs us) : ∀ {j : Nat} {u : Value}, us[j]? = some u → ∃ x, xs[j]? = some x ∧ RelV x u := by
  induction h with
  | nil => intro j u e; cases e
  | cons r t ih =>
    intro j u e
    cases j with
    | zero =>
      injection e with e
      subst e
      exact ⟨_, rfl, r⟩
    | succ j => exact ih e
def rMinLD (K : PySem.W.Frag) : List V → Hp → VK → Prop := fun vs H Q => ∃ (a : Addr) (xs : List V) (d : PyData) (ds : List PyData), vs = [.ref a] ∧ SqL K H a xs ∧ DqA H xs (d :: ds) ∧ PySem.W.AlikeAll (d :: ds) ∧ PyData.depthAll (d :: ds) ≤ 8 ∧ ∀ (j : Nat) (x : V), xs[j]? = some x → (d :: ds)[j]? = some (PySem.W.minD d ds) → Q x H
theorem call_minLD (hc : X.calm = true) (hu : X.A.units + 64 < cLine) : CallR X (.builtin "min") (rMinLD X.K) := by
  intro pins s σ H vs us Q I r h
  obtain ⟨a, xs, d, ds, rfl, hs, hd, al, dp, q⟩ := h
  obtain ⟨its, rv, hl, _⟩ := I.list hs
  rw [Vals.ref1 r]
  obtain ⟨as, ra, _⟩ := Dq.readsAll I hd its rv
  have hl := hl.isList
  have ra2 : ReadsAll s.heap its.toArray.toList (d :: ds) as := by simpa using ra
  have hn : its.toArray.size = ds.length + 1 := PySem.W.readsAll_len ra2
  refine call_min_walkH (PySem.W.iter_listW (A := X.A.in1) (I.ok.hd hc) hl fun s₂ e W st hfp hw hk => ?_)
  refine ⟨_, _, _, _, _, _, _, s.heap, _, rfl, W, st, hfp, by omega, hw, hk, PySem.W.cmpIn_lt (A := X.A.in1) (vs := its.toArray) ra2 al (by show X.A.units + 1 + _ < _; omega), fun v s' hP m => ?_⟩
  obtain ⟨h', tk, rfl, hk'⟩ := PySem.W.moved_old e rfl m
  have e1 : its.toArray.size - 1 = ds.length := by omega
  have e2 := (PySem.W.argBest_fold PySem.W.dataLt PyData.none d ds ds.length (Nat.le_refl _)).2
  rw [List.take_length] at e2
  rw [e1] at hP
  generalize argBest (fun i j => PySem.W.dataLt ((d :: ds).getD i PyData.none) ((d :: ds).getD j PyData.none)) ds.length = j at hP e2
  have hj : its[j]? = some v := by simpa using hP
  obtain ⟨x, hx, rx⟩ := vals_at2 rv hj
  obtain ⟨dx, hdx, qx⟩ := DqA.atV j hd hx
  have ed : PySem.W.minD d ds = dx := by
    unfold PySem.W.minD
    rw [← e2, List.getD_eq_getElem?_getD, hdx]
    rfl
  exact ⟨x, H, I.kept hk', rx, q j x hx (by rw [ed]; exact hdx)⟩
end
end K5
namespace K5
open PySem PySem.Spec PyProof.Rows L2
/-! ### d != {} -/
section
variable {prog : Program} {w : World} {A : Around} {E : Value → Shared → Prop} {s : Shared}
theorem samePairs0 {nm : String} {a b : Addr} {es es' : Array DictEntry} {ep ep' : Nat} {Q : Bool → Shared → Prop} (ha : (a == sysModules) = false) (hb : (b == sysModules) = false)
    (da : s.heap.DictRaw a es ep) (db : s.heap.DictRaw b es' ep') (e0 : es'.size = 0) (h : Q (es.size == 0) s) :
    wpAny (model prog w) A (Builtin.Dict.samePairs nm a b) Q E s := by
  obtain ⟨oa, hoa, _, hda⟩ := da
  obtain ⟨ob, hob, _, hdb⟩ := db
  unfold Builtin.Dict.samePairs Builtin.Dict.showsAll
  rw [if_neg (show ¬ (a == sysModules) = true by rw [ha]; exact Bool.false_ne_true), if_neg (show ¬ (b == sysModules) = true by rw [hb]; exact Bool.false_ne_true)]
  refine wpAny_bind (wpAny_pure (wpAny_bind (wpAny_pure ?_)))
  refine wpAny_bind (wpAny_dictEntries hoa hda ?_)
  dsimp only
  refine wpAny_bind (wpAny_dictEntries hob hdb ?_)
  by_cases hsz : es.size = es'.size
  case neg =>
    rw [if_pos (by simpa using hsz)]
    have hbf : (es.size == 0) = false := by
      rw [e0] at hsz
      simpa using hsz
    rw [hbf] at h
    exact wpAny_bind (wpAny_rule (wpAny_pure h))
  case pos =>
    have hz : es.size = 0 := hsz.trans e0
    have h' : Q true s := by simpa [hz] using h
    rw [if_neg (by rw [hsz]; simp)]
    refine wpAny_bind (wpAny_dictEpoch hoa hda ?_)
    refine wpAny_bind ?_
    rw [Std.Legacy.Range.forIn_eq_forIn_range']
    simp only [Std.Legacy.Range.size, Nat.sub_zero, Nat.add_sub_cancel, Nat.div_one]
    rw [hz]
    exact wpAny_pure (wpAny_pure h')
theorem ne_empty {a b : Addr} {es es' : Array DictEntry} {ep ep' : Nat} {Q : Value → Shared → Prop} (ha : (a == sysModules) = false) (hb : (b == sysModules) = false)
    (da : s.heap.DictRaw a es ep) (db : s.heap.DictRaw b es' ep') (e0 : es'.size = 0) (hu : A.units < cLine) (h : Q (.bool (!(es.size == 0))) s) :
    wpAny (model prog w) A (compareOp .NotEq (.ref a) (.ref b)) Q E s := by
  refine wpAny_richCompare_same_room (op := .NotEq) da.typeIs db.typeIs PySem.F.slot_dict_ne (wpAny_call_entry PySem.F.slot_dict_ne da.typeIs PySem.F.entry_dict_ne ?_ (PySem.F.args_dict_ne_2 _ _)) hu
  show wpAny _ _ (Builtin.Dict.dictSlotArgs "__ne__" ⟨[.ref a, .ref b], []⟩ >>= _) _ _ s
  refine wpAny_bind ?_
  unfold Builtin.Dict.dictSlotArgs
  refine wpAny_bind (wpAny_notOrdered_dict da.typeIs ?_)
  show wpAny _ _ (pure (Value.ref a, Value.ref b)) _ _ s
  refine wpAny_pure ?_
  refine wpAny_bind (wpAny_isInstance (T := "dict") db.typeIs PySem.F.sub_dict_dict ?_)
  simp only [Bool.not_true, Bool.false_eq_true, if_false]
  refine wpAny_bind (wpAny_pure (wpAny_bind (wpAny_pure ?_)))
  refine wpAny_bind (samePairs0 ha hb da db e0 ?_)
  refine wpAny_pure ⟨_, rfl, ?_, ?_⟩
  · exact fun x => nomatch x
  · simpa using h
end
section
variable {X : Cx}
def rNeDT : R2 := fun x y H Q => ∃ (a b : Addr) (ks : List (List Key × V)), x = .ref a ∧ y = .ref b ∧ H a = some (.dT ks) ∧ H b = some (.dT []) ∧ Q (.bl (!(ks.length == 0))) H
theorem op_neDT (hu : X.A.units < cLine) : OpR X (compareOp .NotEq) rNeDT := by
  intro pins s σ H x y v u Q I rx ry h
  obtain ⟨a, b, ks, rfl, rfl, ea, eb, q⟩ := h
  obtain rfl : v = Value.ref a := rx
  obtain rfl : u = Value.ref b := ry
  obtain ⟨_, ya, xs, ra, o, es, ep, ho, hx, hd, he, _⟩ := dt_of I.hok ea
  obtain ⟨_, yb, xs2, rb, o2, es2, ep2, ho2, hx2, hd2, he2, _⟩ := dt_of I.hok eb
  have l1 : es.size = ks.length := by
    have l1 : es.size = xs.length := size_of_entries he
    have l2 : ks.length = xs.length := Paired.length ra
    omega
  have l2 : es2.size = 0 := by
    have l1 : es2.size = xs2.length := size_of_entries he2
    have l2 : ([] : List (List Key × V)).length = xs2.length := Paired.length rb
    rw [l1, ← l2]
    rfl
  refine ne_empty ya yb ⟨o, ho, hx, hd⟩ ⟨o2, ho2, hx2, hd2⟩ l2 hu (fin_bl I q (by rw [l1]))
end
end K5
namespace K5
open PySem PySem.Spec PyProof.Rows L2
/-! ### dict(pairs) with keys that are tuples -/
section
variable {X : Cx}
def mergeT (kvs more : List (List Key × V)) : List (List Key × V) := more.foldl (fun acc kv => putK acc kv.1 kv.2) kvs
theorem length_mergeT : ∀ (more kvs : List (List Key × V)), (mergeT kvs more).length ≤ kvs.length + more.length
  | [], kvs => Nat.le_refl _
  | p :: r, kvs => by
    have h1 := length_mergeT r (putK kvs p.1 p.2)
    have h2 := length_putK kvs p.1 p.2
    show (mergeT (putK kvs p.1 p.2) r).length ≤ kvs.length + (r.length + 1)
    omega
theorem KT.merge {H : Hp} : ∀ {more : List (List Key × V)} {rs : List (List Key × Addr × Value)} {kvs : List (List Key × V)} {vs : List (List Key × Addr × Value)}, KT H more rs → KT H kvs vs → KT H (mergeT kvs more) (storedAllH vs rs)
  | [], _, _, _, .nil, h => h
  | p :: ps, _, _, _, .cons (b := x) (l₂ := xs) a t, h => by
    have e := h.put p.1 a.2.1 a.2.2
    have m := KT.merge t e
    show KT H (mergeT (putK _ p.1 p.2) ps) (storedAllH (storedH _ x.1 x.2.1 x.2.2) xs)
    rw [← a.1]
    exact m
theorem kt_of {H : Hp} : ∀ {kvs : List (List Key × V)} {xs : List (List Key × Addr × Value)}, xs.length = kvs.length → (∀ (j : Nat) (x : List Key × Addr × Value), xs[j]? = some x → ∃ p : List Key × V, kvs[j]? = some p ∧ p.1 = x.1 ∧ H x.2.1 = some (.tup (x.1.map kV)) ∧ RelV p.2 x.2.2) → KT H kvs xs
  | [], [], _, _ => .nil
  | [], _ :: _, e, _ => by cases e
  | _ :: _, [], e, _ => by cases e
  | p :: ps, x :: xs, e, h => by
    obtain ⟨p', h1, h2, h3, h4⟩ := h 0 x rfl
    obtain rfl : p = p' := Option.some.inj h1
    exact .cons ⟨h2, by rw [h2]; exact h3, h4⟩ (kt_of (Nat.succ.inj e) fun j y ey => h (j + 1) y ey)
theorem kt_keys {H : Hp} : ∀ {kvs : List (List Key × V)} {xs : List (List Key × Addr × Value)}, KT H kvs xs → kvs.map (·.1) = xs.map (·.1)
  | [], _, .nil => rfl
  | p :: ps, _, .cons a t => by rw [List.map_cons, List.map_cons, kt_keys t, a.1]
theorem pt_of {pins : List (Addr × Obj)} {σ : L2.St} {H : Hp} {s : Shared} (I : Inv X pins σ H s) : ∀ zs : List (Addr × List Key × Addr × V), (∀ z ∈ zs, H z.1 = some (.tup [.ref z.2.2.1, z.2.2.2]) ∧ H z.2.2.1 = some (.tup (z.2.1.map kV))) →
    ∃ ps : List (List Key × Addr × Value), ps.map (fun p => (p.1, p.2.1)) = zs.map (fun z => (z.2.1, z.2.2.1)) ∧ ∀ (j : Nat) (p : List Key × Addr × Value), ps[j]? = some p → ∃ z, zs[j]? = some z ∧ (p.1 = z.2.1 ∧ p.2.1 = z.2.2.1 ∧ RelV z.2.2.2 p.2.2 ∧ H z.2.2.1 = some (.tup (z.2.1.map kV))) ∧ IsTup s.heap z.1 #[.ref p.2.1, p.2.2]
  | [], _ => ⟨[], rfl, fun j p e => by cases e⟩
  | z :: zs, h => by
    obtain ⟨ps, h1, h2⟩ := pt_of I zs fun y hy => h y (List.mem_cons_of_mem _ hy)
    obtain ⟨g1, g2⟩ := h z (List.mem_cons_self ..)
    obtain ⟨its, rv, ht, _⟩ := I.tuple (SqT.of g1)
    cases rv with
    | cons ra rb =>
      cases rb with
      | cons rb rc =>
        cases rc
        cases ra
        rename_i y
        refine ⟨(z.2.1, z.2.2.1, y) :: ps, by rw [List.map_cons, List.map_cons, h1], fun j p e => ?_⟩
        cases j with
        | zero =>
          obtain rfl : (z.2.1, z.2.2.1, y) = p := Option.some.inj e
          exact ⟨z, rfl, ⟨rfl, rfl, rb, g2⟩, ht⟩
        | succ j => exact h2 j p e
/-- dict(xs) of a list of pairs (key, value), the keys tuples -/
theorem call_dictPT (hcalm : X.calm = true) (hu : X.A.units + 64 < cLine) : CallR X (.type "dict") (fun xs H Q => ∃ (a : Addr) (zs : List (Addr × List Key × Addr × V)), xs = [.ref a] ∧ H a = some (.lst (zs.map fun z => V.ref z.1)) ∧
    (∀ z ∈ zs, H z.1 = some (.tup [.ref z.2.2.1, z.2.2.2]) ∧ H z.2.2.1 = some (.tup (z.2.1.map kV))) ∧ ∀ p, H p = none → Q (.ref p) (upd H p (.dT (mergeT [] (zs.map fun z => (z.2.1, z.2.2.2)))))) := by
  intro pins s σ H xs us Q I r q
  obtain ⟨a, zs, rfl, hq, hz, q⟩ := q
  obtain ⟨u, eu, rx⟩ := vals1 r
  subst eu
  cases rx
  obtain ⟨its, rv, pl, hsz⟩ := I.list (SqL.of hq)
  have ei : its = zs.map fun z => Value.ref z.1 := by
    have e : (zs.map fun z => V.ref z.1) = (zs.map (·.1)).map V.ref := by rw [List.map_map]; rfl
    rw [e] at rv
    have := refs_at rv
    rw [this, List.map_map]
    rfl
  subst ei
  rw [List.length_map] at hsz
  obtain ⟨ps, hp1, hp2⟩ := pt_of I zs hz
  obtain ⟨o, n, ho, hc, hd, hdat⟩ := pl
  have lps : ps.length = zs.length := by
    have e := congrArg List.length hp1
    rw [List.length_map, List.length_map] at e
    exact e
  have la : ∀ j k v, (ps.map fun p => (Value.ref p.2.1, p.2.2))[j]? = some (k, v) → ((zs.map fun z => Value.ref z.1).toArray)[j]? = some (.ref ((zs.getD j (0, [], 0, .non)).1)) ∧ PairAt s.heap ((zs.getD j (0, [], 0, .non)).1) k v := fun j k v e => by
    rw [List.getElem?_map] at e
    cases hj : ps[j]? with
    | none => rw [hj] at e; cases e
    | some p =>
      rw [hj] at e
      have e : (Value.ref p.2.1, p.2.2) = (k, v) := Option.some.inj e
      obtain ⟨z, hzj, h1, h2⟩ := hp2 j p hj
      have ed : zs.getD j (0, [], 0, .non) = z := by rw [List.getD_eq_getElem?_getD, hzj]; rfl
      rw [ed, List.getElem?_toArray, List.getElem?_map, hzj]
      injection e with e1 e2
      subst e1 e2
      obtain ⟨ob, g1, g2, g3, g4⟩ := h2
      exact ⟨rfl, .inl ⟨ob, g1, g2, g3, g4⟩⟩
  have small : (ps.map fun p => (Value.ref p.2.1, p.2.2)).length ≤ sizeLine := by rw [List.length_map, lps]; exact hsz
  refine call_dict_pairsH (knd := tupleKind (mixKind X.prog X.w)) (ps := ps) (PairArg.list a (zs.map fun z => Value.ref z.1).toArray (fun j => (zs.getD j (0, [], 0, .non)).1) (ps.map fun p => (Value.ref p.2.1, p.2.2))) (I.ok.hd hcalm) (tupleKind_room_in1 (by show X.A.units + 1 + 1 < cLine; omega)) ⟨⟨o, n, ho, hc, hd, hdat⟩, by rw [List.size_toArray, List.length_map, List.length_map, lps], la⟩ ⟨by rw [List.length_map], fun i key v e => ?_⟩ (fun h' hk x hx => ?_) small fun h' tk dd keep => ?_
  · have e : (ps.map fun p => (Value.ref p.2.1, p.2.2))[i]? = some (key, v) := e
    rw [List.getElem?_map] at e
    cases hj : ps[i]? with
    | none => rw [hj] at e; cases e
    | some p =>
      rw [hj] at e
      have e : (Value.ref p.2.1, p.2.2) = (key, v) := Option.some.inj e
      injection e with e1 e2
      exact ⟨p.1, p.2.1, by rw [← e2], e1.symm⟩
  · obtain ⟨j, hj⟩ := List.mem_iff_getElem?.mp hx
    obtain ⟨z, _, ⟨g1, g2, _, g4⟩, _⟩ := hp2 j x hj
    rw [g1, g2]
    exact key_of (I.hok.kept fun b u e => hk b u (Nat.ne_of_lt (Heap.lt_size e)) List.not_mem_nil e) g4
  · have keep : ∀ b o, s.heap.get? b = some o → h'.get? b = some o := fun b o e => keep b o List.not_mem_nil e
    have hm : (s.heap.objs.size == sysModules) = false := beq_eq_false_iff_ne.mpr (Nat.ne_of_gt I.big)
    have hn := I.hok.fresh (Nat.le_refl s.heap.objs.size)
    have kt : KT H (zs.map fun z => (z.2.1, z.2.2.2)) ps := kt_of (by rw [List.length_map]; exact lps) fun j p e => by
      obtain ⟨z, h1, ⟨g1, g2, g3, g4⟩, _⟩ := hp2 j p e
      refine ⟨(z.2.1, z.2.2.2), by rw [List.getElem?_map, h1]; rfl, g1.symm, ?_, g3⟩
      rw [g1, g2]
      exact g4
    have hlen : (mergeT [] (zs.map fun z => (z.2.1, z.2.2.2))).length ≤ sizeLine := by
      refine Nat.le_trans (length_mergeT _ _) ?_
      rw [List.length_map]
      show 0 + zs.length ≤ sizeLine
      omega
    obtain ⟨q', es, ep, hq', h2, h3, h4, _, h5⟩ := dd
    exact ⟨.ref s.heap.objs.size, upd H s.heap.objs.size (.dT (mergeT [] (zs.map fun z => (z.2.1, z.2.2.2)))), I.laid (t' := tk) keep (Nat.le_refl _)
      (show ObjOk X.prog X.w _ _ _ (.dT (mergeT [] (zs.map fun z => (z.2.1, z.2.2.2)))) from ⟨hlen, hm, _, (KT.merge kt .nil).keeps fun c ys ec => by rw [upd_ne (ne_of_none ec hn)]; exact ec, q', es, ep, hq', h2, h3, h4, h5⟩), rfl, q _ hn⟩
end
/-! ### xs != [] -/
def rNeL0 (K : PySem.W.Frag) : R2 := fun x y H Q => ∃ a b xs, x = .ref a ∧ y = .ref b ∧ SqL K H a xs ∧ SqL K H b [] ∧ Q (.bl (!(xs.length == 0))) H
theorem op_neL0 {X : Cx} (hu : X.A.units + 64 < cLine) : OpR X (compareOp .NotEq) (rNeL0 X.K) := by
  intro pins s σ H x y v u Q I rx ry h
  obtain ⟨a, b, xs, rfl, rfl, ha, hb, q⟩ := h
  cases rx
  cases ry
  obtain ⟨its, rv, p, _⟩ := I.list ha
  obtain ⟨its2, rv2, p2, _⟩ := I.list hb
  have l1 := rv.length
  have l2 : 0 = its2.length := rv2.length
  by_cases e0 : xs.length = 0
  · rw [e0] at q
    have z : its.toArray.size = 0 := by rw [List.size_toArray]; omega
    refine SeqAt.RcNeAt.lists (items := its.toArray) (items2 := its2.toArray) (e := fun _ => true) p.isList p2.isList (by rw [List.size_toArray, List.size_toArray]; omega) (by omega) (fun j h1 _ => by rw [List.size_toArray] at h1; omega) _ _ _ _ ?_
    rw [z]
    exact ⟨.bl false, H, I, rfl, q⟩
  · have e1 : (xs.length == 0) = false := by simpa using e0
    rw [e1] at q
    refine SeqAt.RcNeAt.lists_lengths (items := its.toArray) (items2 := its2.toArray) p.isList p2.isList ?_ (by omega) _ _ _ _ ⟨.bl true, H, I, rfl, q⟩
    rw [bne_iff_ne, List.size_toArray, List.size_toArray]
    have : ([] : List V).length = 0 := rfl
    omega
end K5
namespace K5
open PySem PySem.Spec PyProof.Rows L2
/-! ### steps, folded -/
section
variable {K : PySem.W.Frag} {σ : L2.St} {H : Hp} {Q : VK} {D : L2.Ends} {te ta tb tc td : TE} {g : TG} {t t2 u : TS} {c : TT} {va vb vc vd : V} {i j : Nat}
theorem s_asg (h : te σ H fun x H1 => g x σ H1 (u D)) : tSeq (tAsg te g) u D σ H := h
theorem s_set (h : te σ H fun x H1 => u D (σ.set i (some x)) H1) : tSeq (tAsg te (gName i)) u D σ H := h
theorem e_asg (h : te σ H fun x H1 => g x σ H1 D.nx) : tAsg te g D σ H := h
theorem e_set (h : te σ H fun x H1 => D.nx (σ.set i (some x)) H1) : tAsg te (gName i) D σ H := h
theorem s_par (h : ta σ H fun x H1 => tb σ H1 fun y H2 => ∃ v w, [x, y] = [v, w] ∧ u D ((σ.set i (some v)).set j (some w)) H2) : tSeq (tPar i j (tCons ta (tCons tb tNil))) u D σ H := h
theorem s_if (h : c σ H fun b H1 => if b = true then t { D with nx := u D } σ H1 else t2 { D with nx := u D } σ H1) : tSeq (tIfS c t t2) u D σ H := h
theorem e_if (h : c σ H fun b H1 => if b = true then t D σ H1 else t2 D σ H1) : tIfS c t t2 D σ H := h
theorem s_drop (h : te σ H fun _ H1 => u D σ H1) : tSeq (tDrop te) u D σ H := h
theorem e_drop (h : te σ H fun _ H1 => D.nx σ H1) : tDrop te D σ H := h
theorem e_ret (h : te σ H D.rt) : tRet te D σ H := h
theorem s_lock {d : Addr} {o : HO} (hd : H d = some o) (m : Mut (some o)) (h : ∀ od, t ⟨fun σ' H' => H' d = some (.frz od o) ∧ u D σ' (upd H' d o), fun v H' => H' d = some (.frz od o) ∧ D.rt v (upd H' d o), fun σ' H' => H' d = some (.frz od o) ∧ D.bk σ' (upd H' d o), fun σ' H' => H' d = some (.frz od o) ∧ D.ct σ' (upd H' d o)⟩ σ (upd H d (.frz od o))) : tSeq (tLock t) u D σ H := ⟨d, o, hd, m, h⟩
theorem r_lockE {d : Addr} {o : HO} (hd : H d = some o) (m : Mut (some o)) (h : ∀ od, te σ (upd H d (.frz od o)) fun v H' => H' d = some (.frz od o) ∧ Q v (upd H' d o)) : tLockE te σ H Q := ⟨d, o, hd, m, h⟩
theorem r_tup0 (k : ∀ t H2, Same H H2 → H t = none → H2 t = some (.tup []) → Q (.ref t) H2) : tTup tNil σ H Q := ⟨Nat.zero_le _, fun t nt => k t _ (same_upd nt) nt upd_same⟩
theorem r_tup1 (ha : Val ta σ H va) (k : ∀ t H2, Same H H2 → H t = none → H2 t = some (.tup [va]) → Q (.ref t) H2) : tTup (tCons ta tNil) σ H Q := ha _ ⟨by show 1 ≤ sizeLine; decide, fun t nt => k t _ (same_upd nt) nt upd_same⟩
theorem r_tup2 (ha : Val ta σ H va) (hb : Val tb σ H vb) (k : ∀ t H2, Same H H2 → H t = none → H2 t = some (.tup [va, vb]) → Q (.ref t) H2) : tTup (tCons ta (tCons tb tNil)) σ H Q := ha _ (hb _ ⟨by show 2 ≤ sizeLine; decide, fun t nt => k t _ (same_upd nt) nt upd_same⟩)
theorem r_tup3 (ha : Val ta σ H va) (hb : Val tb σ H vb) (hc : Val tc σ H vc) (k : ∀ t H2, Same H H2 → H t = none → H2 t = some (.tup [va, vb, vc]) → Q (.ref t) H2) : tTup (tCons ta (tCons tb (tCons tc tNil))) σ H Q := ha _ (hb _ (hc _ ⟨by show 3 ≤ sizeLine; decide, fun t nt => k t _ (same_upd nt) nt upd_same⟩))
theorem r_lst0 (k : ∀ t H2, Same H H2 → H t = none → H2 t = some (.lst []) → Q (.ref t) H2) : tLst tNil σ H Q := ⟨Nat.zero_le _, fun t nt => k t _ (same_upd nt) nt upd_same⟩
theorem r_lst1 (ha : Val ta σ H va) (k : ∀ t H2, Same H H2 → H t = none → H2 t = some (.lst [va]) → Q (.ref t) H2) : tLst (tCons ta tNil) σ H Q := ha _ ⟨by show 1 ≤ sizeLine; decide, fun t nt => k t _ (same_upd nt) nt upd_same⟩
theorem r_lstT (h : ta σ H fun x H1 => [x].length ≤ sizeLine ∧ ∀ p, H1 p = none → Q (.ref p) (upd H1 p (.lst [x]))) : tLst (tCons ta tNil) σ H Q := h
theorem r_tupT (h : ta σ H fun x H1 => tb σ H1 fun y H2 => [x, y].length ≤ sizeLine ∧ ∀ p, H2 p = none → Q (.ref p) (upd H2 p (.tup [x, y]))) : tTup (tCons ta (tCons tb tNil)) σ H Q := h
theorem r_tupT1 (h : ta σ H fun x H1 => [x].length ≤ sizeLine ∧ ∀ p, H1 p = none → Q (.ref p) (upd H1 p (.tup [x]))) : tTup (tCons ta tNil) σ H Q := h
theorem r_tup3T (ha : Val ta σ H va) (hb : Val tb σ H vb) (h : tc σ H fun z H1 => [va, vb, z].length ≤ sizeLine ∧ ∀ p, H1 p = none → Q (.ref p) (upd H1 p (.tup [va, vb, z]))) : tTup (tCons ta (tCons tb (tCons tc tNil))) σ H Q := ha _ (hb _ h)
theorem r_tupleL {p : Addr} {xs : List V} (ha : Val ta σ H (.ref p)) (hs : SqL K H p xs) (k : ∀ t H2, Same H H2 → H t = none → H2 t = some (.tup xs) → Q (.ref t) H2) : tThen ta (kTup K) σ H Q := ha _ (.inl ⟨p, _, rfl, hs, fun t nt => k t _ (same_upd nt) nt upd_same⟩)
theorem r_dnotin {ty td : TE} {a : Addr} {y : V} {o : Option V} {R : Bool → Hp → Prop} (hy : Val ty σ H y) (hd : Val td σ H (.ref a)) (g : DGet H a y o) (k : R (!o.isSome) H) : L2.tB (tDNotIn ty td) σ H R := hy _ (hd _ ⟨a, o, rfl, g, _, rfl, k⟩)
theorem r_dnewT (k : ∀ t H2, Same H H2 → H t = none → H2 t = some (.dT []) → Q (.ref t) H2) : tDNewT σ H Q := fun t nt => k t _ (same_upd nt) nt upd_same
theorem r_op {r : R2} (h : ta σ H fun x H1 => tb σ H1 fun y H2 => r x y H2 Q) : tOp r ta tb σ H Q := h
theorem r_opv {r : R2} (ha : Val ta σ H va) (hb : Val tb σ H vb) (h : r va vb H Q) : tOp r ta tb σ H Q := ha _ (hb _ h)
theorem r_call1 {sp : Sp} {E : XK} (ha : Val ta σ H va) (h : sp [va] H Q E) : tCall sp [] E (tCons ta tNil) σ H Q := ha _ h
theorem r_call2 {sp : Sp} {E : XK} (ha : Val ta σ H va) (hb : Val tb σ H vb) (h : sp [va, vb] H Q E) : tCall sp [] E (tCons ta (tCons tb tNil)) σ H Q := ha _ (hb _ h)
theorem r_call3 {sp : Sp} {E : XK} (ha : Val ta σ H va) (hb : Val tb σ H vb) (hc : Val tc σ H vc) (h : sp [va, vb, vc] H Q E) : tCall sp [] E (tCons ta (tCons tb (tCons tc tNil))) σ H Q := ha _ (hb _ (hc _ h))
theorem r_cb1 {r : List V → Hp → VK → Prop} (ha : Val ta σ H va) (h : r [va] H Q) : tCB r (tCons ta tNil) σ H Q := ha _ h
theorem r_cbT {r : List V → Hp → VK → Prop} (h : ta σ H fun x H1 => r [x] H1 Q) : tCB r (tCons ta tNil) σ H Q := h
theorem r_cbT2 {r : List V → Hp → VK → Prop} (h : ta σ H fun x H1 => tb σ H1 fun y H2 => r [x, y] H2 Q) : tCB r (tCons ta (tCons tb tNil)) σ H Q := h
theorem r_bm {T : String} {r : V → List V → Hp → VK → Prop} (ho : Val ta σ H va) (ht : tyV K T va H) (h : tb σ H fun x H1 => r va [x] H1 Q) : tBM K T r ta (tCons tb tNil) σ H Q := ho _ ⟨ht, h⟩
theorem r_test {te : TE} {R : Bool → Hp → Prop} {b : Bool} (h : Val te σ H (.bl b)) (k : R b H) : tTest te σ H R := h _ ⟨b, rfl, k⟩
theorem r_testT {te : TE} {R : Bool → Hp → Prop} (h : te σ H fun x H' => ∃ k, x = .bl k ∧ R k H') : tTest te σ H R := h
theorem g_pair {x y : V} {n : Nat} {p : Addr} {QS : L2.St → Hp → Prop} (ht : H p = some (.tup [x, y])) (hn : 2 = n) (q : QS ((σ.set i (some x)).set j (some y)) H) : gTup K n (gCons (gName i) (gCons (gName j) gNil)) (.ref p) σ H QS :=
  ⟨p, _, rfl, SqT.of ht, hn, _, _, rfl, _, _, rfl, rfl, q⟩
theorem g_nest {x y z : V} {n n2 k : Nat} {p q : Addr} {QS : L2.St → Hp → Prop} (ht : H p = some (.tup [.ref q, z])) (hq : H q = some (.tup [x, y])) (hn : 2 = n) (hn2 : 2 = n2) (h : QS (((σ.set i (some x)).set j (some y)).set k (some z)) H) :
    gTup K n (gCons (gTup K n2 (gCons (gName i) (gCons (gName j) gNil))) (gCons (gName k) gNil)) (.ref p) σ H QS :=
  ⟨p, _, rfl, SqT.of ht, hn, _, _, rfl, ⟨q, _, rfl, SqT.of hq, hn2, _, _, rfl, _, _, rfl, rfl, _, _, rfl, rfl, h⟩⟩
end
end K5
namespace K5
open PySem PySem.Spec PyProof.Rows L2
/-! ### rings -/
theorem r_row {σ : L2.St} {H : Hp} {Q : VK} {ta tn : TE} {d : Str} {w : Nat} {a n : Int} (ha : ∀ H2, Val ta σ H2 (.int a)) (hn : ∀ H2, Val tn σ H2 (.int n)) (k : ∀ t H2, Same H H2 → RowD H2 t ((d, w), [(a, n)]) → Q (.ref t) H2) :
    tTup (tCons (tC (.str d)) (tCons (tC (.int (w : Int))) (tCons (tTup (tCons (tTup (tCons ta (tCons tn tNil))) tNil)) tNil))) σ H Q := by
  refine r_tup3T val_c val_c (r_tupT1 (r_tup2 (ha _) (hn _) fun t1 H1 s1 n1 h1 => ⟨by show 1 ≤ sizeLine; decide, fun t2 n2 => ⟨by show 3 ≤ sizeLine; decide, fun t3 n3 => ?_⟩⟩))
  have s2 := same_upd (o := .tup [.ref t1]) n2
  have s3 := same_upd (o := .tup [.str d, .int (w : Int), .ref t2]) n3
  exact k t3 _ (s1.trans (s2.trans s3)) ⟨t2, upd_same, [t1], s3 _ _ upd_same, .cons (s3 _ _ (s2 _ _ h1)) .nil⟩
def ringS (n a : Nat) : List RwD := (("get", 0), [(0, (((a + 1) % n : Nat) : Int))]) :: (if a = n - 1 then [(("put", 0), [(0, 0)])] else [])
def ringR (n : Nat) : List (List RwD) := (List.range n).map (ringS n)
def spRing : Sp := fun vs H Q _ => ∃ n : Nat, vs = [.int (n : Nat), .int 1] ∧ 1 ≤ n ∧ n ≤ 90 ∧ ∀ (H' : Hp) (r : Addr), Same H H' → PcAt H' r (ringR n) → Q (.ref r) H'
abbrev nmRing : List Str := ["_law_size", "_law_times", "_law_found", "_law_many", "_law_at", "_law_some_here"]
theorem sc__law_ring : FnScope nmRing ["_law_size", "_law_times"] (defScope s__law_ring) := ⟨rfl, rfl, rfl, by decide +kernel, rfl, by decide +kernel, by decide +kernel⟩
theorem ring_at {n i : Nat} (h : i < n) : (ringR n)[i]? = some (ringS n i) := by
  unfold ringR
  rw [List.getElem?_map, List.getElem?_range h]
  rfl
section
variable {P : Program} {w : World} {K : PySem.W.Frag} {mg : Str → Option Value} {base : Heap}
theorem ok_law_ring {f : Addr} {fd : FuncData} (B : Bt mg) (D : Df K mg "_law_ring" s__law_ring f fd ["_law_size", "_law_times"]) : FnOk P w K mg base CX0 1 f fd ["_law_size", "_law_times"] spRing := by
  refine D.F.ok sc__law_ring (fun vs H Q E h => ?_) (fun cdv A0 outer s H vs Q E hr h => ?_)
  · obtain ⟨n, rfl, _⟩ := h
    rfl
  · obtain ⟨n, rfl, n1, n90, k⟩ := h
    have S := sc__law_ring
    refine ⟨_, (pss_cons (ps_par (i := 2) (j := 3) (by rfl) S.nd rfl rfl (by decide) rfl rfl (pa_cons (pe_lst pa_nil) (pa_cons (pe_op op_mul (pv 0) (pv 1)) pa_nil)) (by rfl))
      (pss_cons (ps_for PassesOwn.never rfl (pi_range1 (by rfl) B.m_range (pa_cons (pv 3) pa_nil)) (pg_name (i := 4) S.nd rfl (.inl rfl))
        (pss_cons (ps_set (i := 5) S.nd rfl (.inl rfl) (pe_lst (pa_cons (pe_tup (pa_cons pe_str (pa_cons pe_int (pa_cons (pe_tup (pa_cons (pe_tup (pa_cons pe_int (pa_cons (pe_op op_mod (pe_toInt (by rfl) B.m_int (pe_op op_add (pv 4) pe_int)) (pv 3)) pa_nil))) pa_nil)) pa_nil)))) pa_nil)))
      (pss_cons (ps_if (pt_cmpR op_eq (pe_op op_mod (pe_toInt (by rfl) B.m_int (pv 4)) (pv 0)) (pe_op op_sub (pv 0) pe_int) (nomark _))
        (pss_one (ps_expr (pe_bm PySem.F.plainAttrs_list PySem.F.slot_list_append PySem.F.type_list_append mt_append (pv 5) (pa_cons (pe_tup (pa_cons pe_str (pa_cons pe_int (pa_cons (pe_tup (pa_cons (pe_tup (pa_cons pe_int (pa_cons pe_int pa_nil))) pa_nil)) pa_nil)))) pa_nil))))
        pss_nil)
      (pss_one (ps_expr (pe_bm PySem.F.plainAttrs_list PySem.F.slot_list_append PySem.F.type_list_append mt_append (pv 2) (pa_cons (pe_tupleOf (by rfl) B.m_tuple (pv 5)) pa_nil)))))))
      (pss_one (ps_ret (pe_tupleOf (by rfl) B.m_tuple (pv 2)))))), ?_⟩
    refine s_par (r_lst0 fun F H0 s0 nF hF => ?_)
    refine r_opv (va := .int (n : Nat)) (vb := .int 1) (val_var rfl) (val_var rfl) ⟨(n : Nat), 1, rfl, rfl, .inr (by decide), ?_⟩
    refine ⟨_, _, rfl, ?_⟩
    refine ⟨.int ((n : Nat) * 1), rfl, (n : Nat), by rw [Int.mul_one], by omega, by omega, ?_⟩
    show ∃ W : Nat → Nat → L2.St → Hp → Prop, _
    refine for_range (lo := 0) (n := ((n : Nat) : Int).toNat) (fun i σ H' => ∃ (ps : List Addr) (v4 v5 : Option V), σ = [some (.int (n : Nat)), some (.int 1), some (.ref F), some (.int ((n : Nat) * 1)), v4, v5] ∧ Same H H' ∧ H' F = some (.lst (ps.map V.ref)) ∧ Paired (StD H') ps ((ringR n).take i)) ⟨[], none, none, rfl, s0, hF, .nil⟩ (fun i σ H' hi h => ?_) fun σ H' h => ?_
    · obtain ⟨ps, v4, v5, rfl, s1, hF, pp⟩ := h
      have hi : i < n := hi
      have lp := Paired.length pp
      have nF0 : H F = none := nF
      try dsimp only [gName, List.set]
      rw [show (0 : Int) + ((i : Nat) : Int) = ((i : Nat) : Int) by omega]
      have mn : (((i + 1) % n : Nat) : Int) = (((i : Nat) : Int) + 1) % ((n : Nat) * 1) := by
        rw [Int.mul_one, Int.natCast_emod]
        rfl
      refine s_set (r_lstT (r_row (d := "get") (w := 0) (a := 0) (n := (((i + 1) % n : Nat) : Int)) (fun _ => val_c) (fun H2 => ?_) fun t1 H2 s2 hr1 => ⟨by show 1 ≤ sizeLine; decide, fun L nL => ?_⟩))
      · rw [mn]
        exact val_iC (g := fun i j => i % j) (val_toInt (val_i0 (g := fun i j => i + j) (val_var (v := .int (i : Nat)) rfl) val_c)) (val_var (v := .int ((n : Nat) * 1)) rfl) (show (0 : Int) < (n : Nat) * 1 by omega)
      have hL : (upd H2 L (.lst [.ref t1])) L = some (.lst [.ref t1]) := upd_same
      have s3 := same_upd (o := .lst [.ref t1]) nL
      have hFH := s2 _ _ hF
      have LF : L ≠ F := fun z => by
        rw [z, hFH] at nL
        cases nL
      have nLH : H L = none := s1.free (s2.free nL)
      have nL' : H' L = none := s2.free nL
      have s23 := s2.trans s3
      have hr1 := hr1.mono (TKeep.same s3)
      generalize (upd H2 L (.lst [.ref t1])) = H3 at hL s3 s23 hr1 ⊢
      have tail : ∀ (D : L2.Ends) (H5 : Hp) (ts : List Addr), (∀ x o, x ≠ L → H3 x = some o → H5 x = some o) → H5 L = some (.lst (ts.map V.ref)) → Paired (RowD H5) ts (ringS n i) → D.nx = (fun (σ : L2.St) (H' : Hp) => ∃ (ps : List Addr) (v4 v5 : Option V), σ = [some (.int (n : Nat)), some (.int 1), some (.ref F), some (.int ((n : Nat) * 1)), v4, v5] ∧ Same H H' ∧ H' F = some (.lst (ps.map V.ref)) ∧ Paired (StD H') ps ((ringR n).take (i + 1))) →
          tDrop (tBM K "list" rAppend (tVar 2) (tCons (tThen (tVar 5) (kTup K)) tNil)) D [some (.int (n : Nat)), some (.int 1), some (.ref F), some (.int ((n : Nat) * 1)), some (.int (i : Nat)), some (.ref L)] H5 := by
        intro D H5 ts keep h5 pr eD
        have hF5 := keep _ _ LF.symm (s3 _ _ hFH)
        refine e_drop (r_bm (va := .ref F) (val_var rfl) (.inl ⟨rfl, _, SqL.of hF5⟩) (r_tupleL (val_var (v := .ref L) rfl) (SqL.of h5) fun t6 H6 s6 n6 h6 => ⟨F, _, _, rfl, rfl, s6 _ _ hF5, by rw [List.length_map, lp, List.length_take]; exact Nat.lt_of_lt_of_le (show _ < 100 by omega) (by decide), ?_⟩))
        rw [eD]
        have hF6 := s6 _ _ hF5
        have tk : TKeep H5 (upd H6 F (.lst (ps.map V.ref ++ [.ref t6]))) := fun x ys e => by
          have e := s6 _ _ e
          rw [upd_ne (fun z => by rw [z, hF6] at e; cases e)]
          exact e
        refine ⟨ps ++ [t6], _, _, rfl, fun x o e => ?_, by rw [upd_same, List.map_append]; rfl, ?_⟩
        · rw [upd_ne (ne_of_none e nF0)]
          exact s6 _ _ (keep _ _ (ne_of_none e nLH) (s23 _ _ (s1 _ _ e)))
        · rw [List.take_add_one, ring_at hi]
          refine paired_app (Paired.mapP pp fun x y z => (z.mono (H' := H5) fun b xs e => keep _ _ (ne_of_none e nL') (s23 _ _ e)).mono tk) ⟨ts, ?_, Paired.mapP pr fun _ _ z => z.mono tk⟩
          rw [upd_ne (fun z => by rw [z, hF6] at h6; cases h6)]
          exact h6
      refine s_if (r_test (b := decide (i = n - 1)) (val_op (z := .bl (decide (i = n - 1))) (val_iC (g := fun i j => i % j) (val_toInt (val_var (v := .int (i : Nat)) rfl)) (val_var (v := .int (n : Nat)) rfl) (show (0 : Int) < (n : Nat) by omega)) (val_i0 (g := fun i j => i - j) (val_var (v := .int (n : Nat)) rfl) val_c) fun Q q => ⟨rfl, ?_⟩) ?_)
      · have : decide (V.int (((i : Nat) : Int) % (n : Nat)) = V.int (((n : Nat) : Int) - 1)) = decide (i = n - 1) := by
          rw [deqI]
          refine decide_eq_decide.mpr ?_
          rw [← Int.natCast_emod, Nat.mod_eq_of_lt hi]
          omega
        rw [this]
        exact q
      by_cases e : i = n - 1
      · rw [decide_eq_true e]
        refine iteT ?_
        refine e_drop (r_bm (va := .ref L) (val_var rfl) (.inl ⟨rfl, _, SqL.of hL⟩) (r_row (d := "put") (w := 0) (a := 0) (n := 0) (fun _ => val_c) (fun _ => val_c) fun t2 H4 s4 hr2 => ⟨L, _, _, rfl, rfl, s4 _ _ hL, (by show 1 < sizeLine; decide), ?_⟩))
        have hL4 := s4 _ _ hL
        have tk : TKeep H4 (upd H4 L (.lst ([.ref t1] ++ [.ref t2]))) := fun x ys e => by
          rw [upd_ne (fun z => by rw [z, hL4] at e; cases e)]
          exact e
        refine tail _ _ [t1, t2] (fun x o nx e => ?_) upd_same ?_ rfl
        · rw [upd_ne nx]
          exact s4 _ _ e
        · unfold ringS
          rw [if_pos e]
          exact .cons ((hr1.mono (TKeep.same s4)).mono tk) (.cons (hr2.mono tk) .nil)
      · rw [decide_eq_false e]
        refine iteF ?_
        dsimp only [tNext]
        refine tail _ _ [t1] (fun x o nx e => e) hL ?_ rfl
        unfold ringS
        rw [if_neg e]
        exact .cons hr1 .nil
    · obtain ⟨ps, v4, v5, rfl, s1, hF, pp⟩ := h
      have e : (ringR n).take ((n : Nat) : Int).toNat = ringR n := List.take_of_length_le (by unfold ringR; rw [List.length_map, List.length_range]; omega)
      rw [e] at pp
      dsimp only [tRet, tThen]
      refine (val_var rfl) _ (.inl ⟨F, _, rfl, SqL.of hF, fun r nr => ?_⟩)
      have s2 := same_upd (o := .tup (ps.map V.ref)) nr
      exact k _ r (s1.trans s2) ⟨ps, upd_same, Paired.mapP pp fun _ _ z => z.mono (TKeep.same s2)⟩
end
end K5
namespace K5
open PySem PySem.Spec PyProof.Rows L2
/-! ### keys of pairs of states and of letters; the order of words as data -/
def kP (p : Nat × Nat) : List Key := [.inl (p.1 : Int), .inl (p.2 : Int)]
def kL (l : Lt) : List Key := [.inr l.1.1, .inl (l.1.2 : Int), .inl l.2]
theorem kP_inj {p q : Nat × Nat} (h : kP p = kP q) : p = q := by
  obtain ⟨a, b⟩ := p
  obtain ⟨c, d⟩ := q
  unfold kP at h
  injection h with h1 h2
  injection h2 with h2 _
  injection h1 with h1
  injection h2 with h2
  have h1 : (a : Int) = c := h1
  have h2 : (b : Int) = d := h2
  have : a = c := by omega
  have : b = d := by omega
  simp_all
theorem kL_inj {p q : Lt} (h : kL p = kL q) : p = q := by
  obtain ⟨⟨a, b⟩, c⟩ := p
  obtain ⟨⟨d, e⟩, f⟩ := q
  unfold kL at h
  injection h with h1 h2
  injection h2 with h2 h3
  injection h3 with h3 _
  injection h1 with h1
  injection h2 with h2
  injection h3 with h3
  have h1 : a = d := h1
  have h2 : (b : Int) = e := h2
  have h3 : c = f := h3
  have : b = e := by omega
  simp_all
section
variable {κ : Type} [DecidableEq κ]
theorem valV_notmem {kvs : List (κ × V)} {k : κ} (h : k ∉ kvs.map (·.1)) : valV kvs k = none := by
  cases e : valV kvs k with
  | none => rfl
  | some v => exact absurd (valV_in e) h
theorem valV_app {xs ys : List (κ × V)} {k : κ} : valV (xs ++ ys) k = match valV xs k with
    | some v => some v
    | none => valV ys k := by
  induction xs with
  | nil => rfl
  | cons p r ih =>
    by_cases e : p.1 = k
    · rw [List.cons_append, valV_pos e, valV_pos e]
    · rw [List.cons_append, valV_neg e, valV_neg e, ih]
end
theorem mergeT_new : ∀ (more acc : List (List Key × V)), (more.map (·.1)).Nodup → (∀ a ∈ more.map (·.1), a ∉ acc.map (·.1)) → mergeT acc more = acc ++ more
  | [], acc, _, _ => by rw [List.append_nil]; rfl
  | q :: r, acc, nd, h => by
    rw [List.map_cons, List.nodup_cons] at nd
    show mergeT (putK acc q.1 q.2) r = _
    rw [putK_new q.2 (valV_notmem (h q.1 (List.mem_cons_self ..))), mergeT_new r (acc ++ [(q.1, q.2)]) nd.2 fun a ha hm => ?_, List.append_assoc]
    · rfl
    · rw [List.map_append] at hm
      rcases List.mem_append.mp hm with hm | hm
      · exact h a (List.mem_cons_of_mem _ ha) hm
      · rw [List.mem_singleton.mp hm] at ha
        exact nd.1 ha
theorem mergeT_nil {more : List (List Key × V)} (nd : (more.map (·.1)).Nodup) : mergeT [] more = more := by
  rw [mergeT_new more [] nd fun a _ h => nomatch h]
  rfl
/-! the table of a state -/
def tabL (rs : List RwD) : List (List Key × V) := (letsR rs).map fun e => (kL e.1, .int e.2)
theorem lets_nodup {m : Nat} {rs : List RwD} (x : StX 4 m rs) : ((tabL rs).map (·.1)).Nodup := by
  unfold tabL
  rw [List.map_map]
  refine List.pairwise_map.mpr ((lets_asc x).imp fun {a b} h e => ?_)
  rw [kL_inj e, ltL_lin.irr] at h
  cases h
theorem row_val (r : RwD) (l : Lt) : valV ((letR r).map fun e => (kL e.1, V.int e.2)) (kL l) = if r.1 = l.1 then ((r.2.find? fun o => decide (o.1 = l.2)).map (·.2)).map V.int else none := by
  obtain ⟨k, os⟩ := r
  unfold letR
  rw [List.map_map]
  by_cases e : k = l.1
  · rw [if_pos e]
    induction os with
    | nil => rfl
    | cons o r ih =>
      by_cases e2 : o.1 = l.2
      · rw [List.find?_cons_of_pos (p := fun o : Int × Int => decide (o.1 = l.2)) (decide_eq_true e2)]
        exact valV_pos (p := (kL (k, o.1), V.int o.2)) (by rw [e, e2])
      · rw [List.find?_cons_of_neg (p := fun o : Int × Int => decide (o.1 = l.2)) (by rw [decide_eq_false e2]; exact Bool.false_ne_true)]
        exact (valV_neg (p := (kL (k, o.1), V.int o.2)) fun z => e2 (by have := kL_inj z; rw [← this])).trans ih
  · rw [if_neg e]
    refine valV_notmem fun h => ?_
    rw [List.map_map] at h
    obtain ⟨o, _, ho⟩ := List.mem_map.mp h
    exact e (by have : (k, o.1) = l := kL_inj ho; rw [← this])
theorem tab_val {m : Nat} {rs : List RwD} (x : StX 4 m rs) (l : Lt) : valV (tabL rs) (kL l) = (behR rs l.1.1 l.1.2 l.2).map V.int := by
  have keys := List.pairwise_map.mp x.1
  clear x
  rw [beh_row]
  unfold rowR tabL
  induction rs with
  | nil => rfl
  | cons r rs ih =>
    obtain ⟨k1, k2⟩ := List.pairwise_cons.mp keys
    show valV ((letR r ++ letsR rs).map _) _ = _
    rw [List.map_append, valV_app, row_val]
    by_cases e : r.1 = l.1
    · rw [if_pos e, List.find?_cons_of_pos (p := fun r : RwD => decide (r.1.1 = l.1.1) && decide ((r.1.2 : Int) = (l.1.2 : Nat))) (by rw [e]; simp)]
      show _ = ((r.2.find? fun o => decide (o.1 = l.2)).map (·.2)).map V.int
      cases q : (r.2.find? fun o => decide (o.1 = l.2)) with
      | some o => rfl
      | none =>
        refine valV_notmem fun h => ?_
        rw [List.map_map] at h
        obtain ⟨z, hz, ez⟩ := List.mem_map.mp h
        have ez := kL_inj ez
        obtain ⟨r2, hr2, hz⟩ := List.mem_flatMap.mp hz
        unfold letR at hz
        obtain ⟨o, _, rfl⟩ := List.mem_map.mp hz
        have e2 : r2.1 = r.1 := by rw [e, ← ez]
        have := k1 r2 hr2
        rw [e2] at this
        rcases this with h | ⟨_, h⟩
        · exact slt_irr h
        · omega
    · rw [if_neg e, List.find?_cons_of_neg (p := fun r : RwD => decide (r.1.1 = l.1.1) && decide ((r.1.2 : Int) = (l.1.2 : Nat))) ?_]
      · exact ih k2
      · rw [Bool.and_eq_true, decide_eq_true_eq, decide_eq_true_eq]
        rintro ⟨h1, h2⟩
        have h2 : r.1.2 = l.1.2 := by omega
        exact e (Prod.ext h1 h2)
/-! words as data -/
theorem lt_alike (a b : Lt) : PySem.W.alike (ltD a) (ltD b) = true := rfl
theorem words_alike : ∀ (x y : List Lt), PySem.W.alikeAll (x.map ltD) (y.map ltD) = true
  | [], _ => by simp [PySem.W.alikeAll]
  | _ :: _, [] => by simp [PySem.W.alikeAll]
  | a :: x, b :: y => by
    rw [List.map_cons, List.map_cons, PySem.W.alikeAll, lt_alike, words_alike x y]
    rfl
theorem word_alike (x y : List Lt) : PySem.W.alike (wordD x) (wordD y) = true := by
  unfold wordD
  rw [PySem.W.alike]
  exact words_alike x y
theorem lt_eqv (a b : Lt) : PyData.eqv (ltD a) (ltD b) = decide (a = b) := by
  obtain ⟨⟨a1, a2⟩, a3⟩ := a
  obtain ⟨⟨b1, b2⟩, b3⟩ := b
  unfold ltD
  simp only [PyData.eqv, PyData.eqvAll, Bool.and_true]
  rw [Bool.eq_iff_iff]
  simp
  constructor
  · rintro ⟨h1, h2, h3⟩
    exact ⟨⟨h1, by omega⟩, h3⟩
  · rintro ⟨⟨h1, h2⟩, h3⟩
    exact ⟨h1, by omega, h3⟩
theorem ltD_lt (a b : Lt) : PySem.W.dataLt (ltD a) (ltD b) = ltL a b := by
  obtain ⟨⟨a1, a2⟩, a3⟩ := a
  obtain ⟨⟨b1, b2⟩, b3⟩ := b
  unfold ltD
  rw [PySem.W.dataLt_tuple, PySem.W.dataLt_cons (by simp [PySem.W.alike]), PySem.W.dataLt_cons (by simp [PySem.W.alike]), PySem.W.dataLt_cons (by simp [PySem.W.alike]), PySem.W.dataLt_int, PySem.W.dataLt_int, PySem.W.dataLt_str]
  have e0 : PyProof.Rows.lexLt PyProof.Rows.itemOrd (PySem.W.keyToksAll []) (PySem.W.keyToksAll []) = false := PyProof.Rows.lex_irrefl _
  rw [e0]
  simp only [PyData.eqv, beq_iff_eq]
  rw [Bool.eq_iff_iff, ltL_iff]
  show _ ↔ SLt a1 b1 ∨ (a1 = b1 ∧ (a2 < b2 ∨ (a2 = b2 ∧ a3 < b3)))
  by_cases h1 : a1 = b1
  · rw [if_pos h1]
    have ns : ¬ SLt a1 b1 := fun z => z.ne h1
    by_cases h2 : a2 = b2
    · rw [if_pos (show ((a2 : Nat) : Int) = b2 by omega)]
      by_cases h3 : a3 = b3
      · rw [if_pos h3]
        constructor
        · intro z
          cases z
        · rintro (z | ⟨_, z | ⟨_, z⟩⟩)
          · exact absurd z ns
          · omega
          · omega
      · rw [if_neg h3, decide_eq_true_iff]
        constructor
        · exact fun z => .inr ⟨h1, .inr ⟨h2, z⟩⟩
        · rintro (z | ⟨_, z | ⟨_, z⟩⟩)
          · exact absurd z ns
          · omega
          · exact z
    · rw [if_neg (show ¬ ((a2 : Nat) : Int) = b2 by omega), decide_eq_true_iff]
      constructor
      · exact fun z => .inr ⟨h1, .inl (by omega)⟩
      · rintro (z | ⟨_, z | ⟨z, _⟩⟩)
        · exact absurd z ns
        · omega
        · exact absurd z h2
  · rw [if_neg h1, decide_eq_true_iff]
    constructor
    · exact fun z => .inl z
    · rintro (z | ⟨z, _⟩)
      · exact z
      · exact absurd z h1
theorem words_lt : ∀ (x y : List Lt), PyProof.Rows.lexLt PyProof.Rows.itemOrd (PySem.W.keyToksAll (x.map ltD)) (PySem.W.keyToksAll (y.map ltD)) = V13.wlt ltL x y
  | [], [] => PyProof.Rows.lex_irrefl _
  | [], b :: y => rfl
  | a :: x, [] => rfl
  | a :: x, b :: y => by
    rw [List.map_cons, List.map_cons, PySem.W.dataLt_cons (lt_alike a b), lt_eqv, words_lt x y, ltD_lt]
    show _ = if a = b then V13.wlt ltL x y else ltL a b
    by_cases e : a = b
    · rw [if_pos (decide_eq_true e), if_pos e]
    · rw [if_neg (by rw [decide_eq_false e]; exact Bool.false_ne_true), if_neg e]
theorem word_lt (x y : List Lt) : PySem.W.dataLt (wordD x) (wordD y) = V13.wlt ltL x y := by
  unfold wordD
  rw [PySem.W.dataLt_tuple]
  exact words_lt x y
theorem word_inj {x y : List Lt} (h : wordD x = wordD y) : x = y := by
  unfold wordD at h
  injection h with h
  induction x generalizing y with
  | nil =>
    cases y with
    | nil => rfl
    | cons _ _ => cases h
  | cons a x ih =>
    cases y with
    | nil => cases h
    | cons b y =>
      rw [List.map_cons, List.map_cons] at h
      injection h with h1 h2
      rw [ih h2]
      obtain ⟨⟨a1, a2⟩, a3⟩ := a
      obtain ⟨⟨b1, b2⟩, b3⟩ := b
      unfold ltD at h1
      injection h1 with h1
      injection h1 with h1 h3
      injection h3 with h3 h4
      injection h4 with h4 _
      injection h1 with h1
      injection h3 with h3
      injection h4 with h4
      have h1 : a1 = b1 := h1
      have h3 : (a2 : Int) = b2 := h3
      have h4 : a3 = b3 := h4
      have : a2 = b2 := by omega
      simp_all
theorem words_depth : ∀ ws : List Lt, PyData.depthAll (ws.map ltD) ≤ 2
  | [] => by simp [PyData.depthAll]
  | a :: ws => by
    rw [List.map_cons, PyData.depthAll]
    have h := words_depth ws
    have h2 : (ltD a).depth ≤ 2 := by unfold ltD; simp [PyData.depth, PyData.depthAll]
    omega
theorem word_depth (ws : List Lt) : (wordD ws).depth ≤ 3 := by
  unfold wordD
  rw [PyData.depth]
  have := words_depth ws
  omega
theorem wordsD_depth : ∀ ws : List (List Lt), PyData.depthAll (ws.map wordD) ≤ 3
  | [] => by simp [PyData.depthAll]
  | a :: ws => by
    rw [List.map_cons, PyData.depthAll]
    have h := wordsD_depth ws
    have h2 := word_depth a
    omega
theorem words_al (ws : List (List Lt)) : PySem.W.AlikeAll (ws.map wordD) := by
  refine ⟨fun x hx y hy => ?_, fun x hx e => ?_⟩
  · obtain ⟨a, _, rfl⟩ := List.mem_map.mp hx
    obtain ⟨b, _, rfl⟩ := List.mem_map.mp hy
    exact word_alike a b
  · obtain ⟨a, _, rfl⟩ := List.mem_map.mp hx
    cases e
theorem min_word (w : List Lt) (ws : List (List Lt)) : PySem.W.minD (wordD w) (ws.map wordD) = wordD (ws.foldl (fun m x => if V13.wlt ltL x m then x else m) w) := by
  unfold PySem.W.minD
  induction ws generalizing w with
  | nil => rfl
  | cons x ws ih =>
    rw [List.map_cons, List.foldl_cons, List.foldl_cons, word_lt]
    by_cases c : V13.wlt ltL x w = true
    · rw [if_pos c, if_pos c, ih]
    · rw [if_neg c, if_neg c, ih]
/-! pairs of states as data -/
theorem pair_eqP (p q : Nat × Nat) : PyData.eqv (pairE p) (pairE q) = decide (p = q) := by
  obtain ⟨a, b⟩ := p
  obtain ⟨c, d⟩ := q
  unfold pairE
  simp only [PyData.eqv, PyData.eqvAll, Bool.and_true]
  rw [Bool.eq_iff_iff]
  simp
  omega
theorem pairs_any (p : Nat × Nat) : ∀ ps : List (Nat × Nat), ((ps.map pairE).any fun z => PyData.eqv z (pairE p)) = decide (p ∈ ps)
  | [] => rfl
  | q :: ps => by
    rw [List.map_cons, List.any_cons, pairs_any p ps, pair_eqP]
    rw [Bool.eq_iff_iff]
    simp
    exact ⟨fun h => h.elim (fun z => .inl z.symm) .inr, fun h => h.elim (fun z => .inl z.symm) .inr⟩
theorem pairP_shaped (p : Nat × Nat) : SeqAt.shaped (pairE p) = true := by
  unfold SeqAt.shaped pairE
  simp [PyData.canLay0, PyData.canLayAll0, PyData.depth, PyData.depthAll]
theorem pairs_lay : ∀ ps : List (Nat × Nat), PyData.canLayAll0 (ps.map pairE) = true ∧ PyData.depthAll (ps.map pairE) ≤ 2
  | [] => ⟨rfl, by simp [PyData.depthAll]⟩
  | p :: ps => by
    obtain ⟨h1, h2⟩ := pairs_lay ps
    have h3 := SeqAt.canLay_of_shaped (pairP_shaped p)
    have h4 : (pairE p).depth ≤ 2 := by unfold pairE; simp [PyData.depth, PyData.depthAll]
    rw [List.map_cons, PyData.canLayAll0, PyData.depthAll, h1, h3]
    exact ⟨rfl, by omega⟩
theorem pairs_shaped (ps : List (Nat × Nat)) : SeqAt.shaped (.list (ps.map pairE)) = true := by
  obtain ⟨h1, h2⟩ := pairs_lay ps
  unfold SeqAt.shaped
  rw [PyData.canLay0, PyData.depth, h1, Bool.true_and]
  exact decide_eq_true (by omega)
/-! dicts of words -/
abbrev En := V13.Ent Lt
def Ek (H : Hp) (kv : List Key × V) (e : En) : Prop := kv.1 = kP e.1 ∧ ∃ t, kv.2 = .ref t ∧ WdAt H t e.2
theorem Ek.mono {H H' : Hp} (k : TKeep H H') {kv : List Key × V} {e : En} (h : Ek H kv e) : Ek H' kv e := by
  obtain ⟨h1, t, h2, h3⟩ := h
  exact ⟨h1, t, h2, h3.mono k⟩
theorem ek_keys {H : Hp} : ∀ {kvs : List (List Key × V)} {D : List En}, Paired (Ek H) kvs D → kvs.map (·.1) = (D.map (·.1)).map kP
  | _, _, .nil => rfl
  | _, _, .cons h r => by
    rw [List.map_cons, List.map_cons, List.map_cons, ek_keys r, h.1]
theorem ek_nodup {H : Hp} {kvs : List (List Key × V)} {D : List En} (h : Paired (Ek H) kvs D) (nd : (D.map (·.1)).Nodup) : (kvs.map (·.1)).Nodup := by
  rw [ek_keys h]
  exact List.pairwise_map.mpr (nd.imp fun {a b} n e => n (kP_inj e))
theorem ek_get {H : Hp} {p : Nat × Nat} : ∀ {kvs : List (List Key × V)} {D : List En}, Paired (Ek H) kvs D → match V13.dget D p with
    | none => valV kvs (kP p) = none
    | some w => ∃ t, valV kvs (kP p) = some (.ref t) ∧ WdAt H t w
  | _, _, .nil => rfl
  | _, _, .cons (a := kv) (b := e) (l₁ := kvs) (l₂ := D) h r => by
    have ih := ek_get (p := p) r
    obtain ⟨h1, t, h2, h3⟩ := h
    obtain ⟨q, w⟩ := e
    unfold V13.dget
    by_cases c : q = p
    · rw [if_pos c]
      exact ⟨t, by rw [valV_pos (h1.trans (by rw [c])), h2], h3⟩
    · rw [if_neg c]
      have nk : ¬ kv.1 = kP p := fun z => c (kP_inj (h1.symm.trans z))
      rw [valV_neg nk]
      exact ih
theorem dput_new {D : List En} {p : Nat × Nat} {w : List Lt} (h : p ∉ D.map (·.1)) : V13.dput D p w = D ++ [(p, w)] := by
  induction D with
  | nil => rfl
  | cons e D ih =>
    obtain ⟨q, v⟩ := e
    rw [List.map_cons, List.mem_cons, not_or] at h
    unfold V13.dput
    rw [if_neg (fun z => h.1 z.symm), ih h.2]
    rfl
theorem dput_map {D : List En} {p : Nat × Nat} {w : List Lt} (nd : (D.map (·.1)).Nodup) (h : p ∈ D.map (·.1)) : V13.dput D p w = D.map fun e => if e.1 = p then (e.1, w) else e := by
  induction D with
  | nil => cases h
  | cons e D ih =>
    obtain ⟨q, v⟩ := e
    rw [List.map_cons, List.nodup_cons] at nd
    unfold V13.dput
    rw [List.map_cons]
    by_cases c : q = p
    · rw [if_pos c, if_pos c]
      congr 1
      have : D.map (fun e : En => if e.1 = p then (e.1, w) else e) = D.map id := List.map_congr_left fun e he => if_neg fun z => nd.1 (by
        show q ∈ _
        rw [c, ← z]
        exact List.mem_map_of_mem (f := (·.1)) he)
      rw [this, List.map_id]
    · rw [if_neg c, if_neg c]
      congr 1
      refine ih nd.2 ?_
      rcases List.mem_cons.mp h with h | h
      · exact absurd h.symm c
      · exact h
theorem ek_put {H : Hp} {kvs : List (List Key × V)} {D : List En} {p : Nat × Nat} {t : Addr} {w : List Lt} (h : Paired (Ek H) kvs D) (nd : (D.map (·.1)).Nodup) (hw : WdAt H t w) : Paired (Ek H) (putK kvs (kP p) (.ref t)) (V13.dput D p w) := by
  by_cases m : p ∈ D.map (·.1)
  · rw [dput_map nd m]
    unfold putK
    have mk : kP p ∈ kvs.map (·.1) := by
      rw [ek_keys h]
      exact List.mem_map_of_mem m
    rw [if_pos ?_]
    · clear nd m mk
      induction h with
      | nil => exact .nil
      | cons a r ih =>
        refine .cons ?_ ih
        rename_i kv e _ _
        obtain ⟨a1, t2, a2, a3⟩ := a
        show Ek H (if kv.1 = kP p then (kv.1, V.ref t) else kv) (if e.1 = p then (e.1, w) else e)
        by_cases c : e.1 = p
        · rw [if_pos c, if_pos (a1.trans (by rw [c]))]
          exact ⟨a1, t, rfl, hw⟩
        · rw [if_neg c, if_neg (fun z => c (kP_inj (a1.symm.trans z)))]
          exact ⟨a1, t2, a2, a3⟩
    · obtain ⟨x, hx, ex⟩ := List.mem_map.mp mk
      exact List.any_eq_true.mpr ⟨x, hx, decide_eq_true ex⟩
  · rw [dput_new m, putK_new _ (valV_notmem (fun z => m ?_))]
    · exact paired_app h ⟨rfl, t, rfl, hw⟩
    · rw [ek_keys h] at z
      obtain ⟨q, hq, eq⟩ := List.mem_map.mp z
      rw [← kP_inj eq]
      exact hq
end K5
namespace K5
open PySem PySem.Spec PyProof.Rows L2
/-! ### the law's first word that one lets and the other does not -/
def PqAt (H : Hp) (t : Addr) (p : Nat × Nat) : Prop := H t = some (.tup [.int (p.1 : Int), .int (p.2 : Int)])
theorem map_ref_inj {xs ys : List Addr} (h : xs.map V.ref = ys.map V.ref) : xs = ys := by
  have e := congrArg (List.map fun v => match v with
    | V.ref a => a
    | _ => 0) h
  rw [List.map_map, List.map_map] at e
  have i : ((fun v => match v with
    | V.ref a => a
    | _ => 0) ∘ V.ref : Addr → Addr) = id := rfl
  rw [i, List.map_id, List.map_id] at e
  exact e
abbrev nmFM : List Str := ["_law_pact", "_law_other", "_law_latest", "_law_seen", "_law_told", "_law_coming", "_law_at", "_law_its", "_law_word", "_law_table", "_law_letter", "_law_later", "_law_longer", "_law_pair"]
theorem sc__law_first_more : FnScope nmFM ["_law_pact", "_law_other"] (defScope s__law_first_more) := ⟨rfl, rfl, rfl, by decide +kernel, rfl, by decide +kernel, by decide +kernel⟩
theorem hu65 {k : Nat} {A : Around} (hr : Room k A) : A.units + 65 < cLine := by
  have := hr.un
  omega
theorem hu0_of {k : Nat} {A : Around} (hr : Room k A) : A.units < cLine := hr.units0
def sgF (p q : V) (v2 v3 v4 v5 v6 v7 v8 v9 v10 v11 v12 v13 : Option V) : L2.St := [some p, some q, v2, v3, v4, v5, v6, v7, v8, v9, v10, v11, v12, v13]
abbrev Ls := List (List Lt) × List En
structure Lf (HB H' : Hp) (M c : Addr) (s : Ls) (n : Nat) : Prop where
  b : ∀ x o, x ≠ M → x ≠ c → HB x = some o → H' x = some o
  t : ∃ ls : List Addr, H' M = some (.lst (ls.map V.ref)) ∧ Paired (WdAt H') ls s.1
  c : ∃ kvs, H' c = some (.dT kvs) ∧ Paired (Ek H') kvs s.2
  nd : (s.2.map (·.1)).Nodup
  few : s.1.length + s.2.length ≤ n
theorem Lf.same {HB H' H2 : Hp} {M c : Addr} {s : Ls} {n : Nat} (L : Lf HB H' M c s n) (e : Same H' H2) : Lf HB H2 M c s n := by
  obtain ⟨ls, t1, t2⟩ := L.t
  obtain ⟨kvs, c1, c2⟩ := L.c
  exact ⟨fun x o a b h => e _ _ (L.b x o a b h), ⟨ls, e _ _ t1, Paired.mapP t2 fun _ _ z => z.mono (TKeep.same e)⟩, ⟨kvs, e _ _ c1, Paired.mapP c2 fun _ _ z => z.mono (TKeep.same e)⟩, L.nd, L.few⟩
theorem Lf.tk {HB H' : Hp} {M c : Addr} {s : Ls} {n : Nat} (L : Lf HB H' M c s n) {xs : List V} {ks : List (List Key × V)} (hM : HB M = some (.lst xs)) (hc : HB c = some (.dT ks)) : TKeep HB H' := fun x ys h =>
  L.b x _ (fun z => by rw [z, hM] at h; cases h) (fun z => by rw [z, hc] at h; cases h) h
theorem Lf.le {HB H' : Hp} {M c : Addr} {s : Ls} {n m : Nat} (L : Lf HB H' M c s n) (h : n ≤ m) : Lf HB H' M c s m := ⟨L.b, L.t, L.c, L.nd, Nat.le_trans L.few h⟩
theorem Lf.tell {HB H' : Hp} {M c : Addr} {s : Ls} {n : Nat} {ls : List Addr} (L : Lf HB H' M c s n) (ne : M ≠ c) (hl : H' M = some (.lst (ls.map V.ref))) {t : Addr} {w : List Lt} (hw : WdAt H' t w) : Lf HB (upd H' M (.lst (ls.map V.ref ++ [.ref t]))) M c (s.1 ++ [w], s.2) (n + 1) := by
  obtain ⟨ls2, t1, t2⟩ := L.t
  obtain ⟨kvs, c1, c2⟩ := L.c
  have el : ls2 = ls := by
    rw [hl] at t1
    injection t1 with t1
    injection t1 with t1
    exact (map_ref_inj t1).symm
  subst el
  have tk : TKeep H' (upd H' M (.lst (ls2.map V.ref ++ [.ref t]))) := fun x ys h => by
    rw [upd_ne (fun z => by rw [z, hl] at h; cases h)]
    exact h
  refine ⟨fun x o a b h => by rw [upd_ne a]; exact L.b x o a b h, ⟨ls2 ++ [t], by rw [upd_same, List.map_append]; rfl, paired_app (Paired.mapP t2 fun _ _ z => z.mono tk) (hw.mono tk)⟩, ⟨kvs, by rw [upd_ne ne.symm]; exact c1, Paired.mapP c2 fun _ _ z => z.mono tk⟩, L.nd, ?_⟩
  have := L.few
  show (s.1 ++ [w]).length + s.2.length ≤ n + 1
  rw [List.length_append]
  show s.1.length + 1 + s.2.length ≤ n + 1
  omega
theorem Lf.put {HB H' : Hp} {M c : Addr} {s : Ls} {n : Nat} {kvs : List (List Key × V)} (L : Lf HB H' M c s n) (ne : M ≠ c) (hk : H' c = some (.dT kvs)) {t : Addr} {p : Nat × Nat} {w : List Lt} (hw : WdAt H' t w) : Lf HB (upd H' c (.dT (putK kvs (kP p) (.ref t)))) M c (s.1, V13.dput s.2 p w) (n + 1) := by
  obtain ⟨ls2, t1, t2⟩ := L.t
  obtain ⟨kvs2, c1, c2⟩ := L.c
  obtain rfl : kvs2 = kvs := by
    rw [hk] at c1
    injection c1 with c1
    injection c1 with c1
    exact c1.symm
  have tk : TKeep H' (upd H' c (.dT (putK kvs2 (kP p) (.ref t)))) := fun x ys h => by
    rw [upd_ne (fun z => by rw [z, hk] at h; cases h)]
    exact h
  refine ⟨fun x o a b h => by rw [upd_ne b]; exact L.b x o a b h, ⟨ls2, by rw [upd_ne ne]; exact t1, Paired.mapP t2 fun _ _ z => z.mono tk⟩, ⟨_, upd_same, Paired.mapP (ek_put c2 L.nd hw) fun _ _ z => z.mono tk⟩, V13.dput_nod L.nd _ _, ?_⟩
  have h := L.few
  have h2 : (V13.dput s.2 p w).length ≤ s.2.length + 1 := by
    have e := congrArg List.length (V13.dput_keys s.2 p w)
    rw [List.length_map] at e
    rw [e]
    split
    · rw [List.length_map]
      omega
    · rw [List.length_append, List.length_map]
      exact Nat.le_refl _
  show s.1.length + (V13.dput s.2 p w).length ≤ n + 1
  omega
theorem ln_zs {H : Hp} : ∀ {ts : List Addr} {es : List (Lt × Int)}, Paired (LnAt H) ts es → ∃ zs : List (Addr × List Key × Addr × V), (zs.map fun z => V.ref z.1) = ts.map V.ref ∧ (∀ z ∈ zs, H z.1 = some (.tup [.ref z.2.2.1, z.2.2.2]) ∧ H z.2.2.1 = some (.tup (z.2.1.map kV))) ∧ (zs.map fun z => (z.2.1, z.2.2.2)) = es.map fun e => (kL e.1, V.int e.2)
  | _, _, .nil => ⟨[], rfl, (fun _ h => nomatch h), rfl⟩
  | _, _, .cons (a := t) (b := e) h r => by
    obtain ⟨zs, z1, z2, z3⟩ := ln_zs r
    obtain ⟨l, h1, h2⟩ := h
    refine ⟨(t, kL e.1, l, .int e.2) :: zs, by rw [List.map_cons, List.map_cons, z1], fun z hz => ?_, by rw [List.map_cons, List.map_cons, z3]⟩
    rcases List.mem_cons.mp hz with rfl | hz
    · exact ⟨h1, h2⟩
    · exact z2 z hz
theorem e_forL {K : PySem.W.Frag} {σ : L2.St} {H : Hp} {D : L2.Ends} {g : TG} {tb : TS} {te : TE} (R : Addr → List V → Hp → Prop) (hv : ∀ Q : VK, (∀ p xs H1, H1 p = some (.lst xs) → R p xs H1 → Q (.ref p) H1) → te σ H Q)
    (h : ∀ p xs H1, H1 p = some (.lst xs) → R p xs H1 → ∃ Pv : Nat → L2.St → Hp → Prop, Pv 0 σ H1 ∧ (∀ i σ H, i ≤ xs.length → Pv i σ H → SqL K H p xs) ∧ (∀ i x σ H, xs[i]? = some x → Pv i σ H → g x σ H fun σ2 H2 => tb { D with nx := Pv (i + 1), ct := Pv (i + 1), bk := D.nx } σ2 H2) ∧ ∀ σ H, Pv xs.length σ H → D.nx σ H) :
    tFor (iList K te) g tb D σ H := by
  unfold tFor iList
  refine hv _ fun p xs H1 hp r => ?_
  obtain ⟨Pv, h0, hl, hs, hd⟩ := h p xs H1 hp r
  exact ⟨p, rfl, ⟨_, SqL.of hp⟩, for_list (K := K) (a := p) (xs := xs) (D := D) Pv h0 hl hs hd⟩
theorem e_forI {σ : L2.St} {H : Hp} {D : L2.Ends} {g : TG} {tb : TS} {te : TE} {d : Addr} {o : Obj} {kvs : List (List Key × V)} (hv : Val te σ H (.ref d)) (hd : H d = some (.frz o (.dT kvs))) (Pv : Nat → L2.St → Hp → Prop) (h0 : Pv 0 σ H) (hG : ∀ i σ H, i ≤ kvs.length → Pv i σ H → H d = some (.frz o (.dT kvs)))
    (hs : ∀ i T k v q σ H, kvs[i]? = some (k, v) → Pv i σ H → H T = none → H q = some (.tup (k.map kV)) → g (.ref T) σ (upd H T (.tup [.ref q, v])) fun σ2 H2 => tb { D with nx := Pv (i + 1), ct := Pv (i + 1), bk := D.nx } σ2 H2) (he : ∀ σ H, Pv kvs.length σ H → D.nx σ H) : tFor (iItemsT te) g tb D σ H := by
  unfold tFor iItemsT
  refine hv _ ⟨d, o, kvs, rfl, hd, for_it walk_itemsT (D := D) Pv h0 hG (fun i x σ H H' _ p y => ?_) he⟩
  obtain ⟨T, k, v, q, e1, rfl, e3, e4, rfl⟩ := y
  exact hs i T k v q σ H e1 p e3 e4
theorem lstep_none {s : Ls} {w : List Lt} {n b : Nat} (h : V13.dget s.2 (n, b) = none) : V13.lstep ltL s (w, n, some b) = (s.1, V13.dput s.2 (n, b) w) := by
  unfold V13.lstep V13.key
  simp only [Option.map_some]
  rw [h]
theorem lstep_some {s : Ls} {w o : List Lt} {n b : Nat} (h : V13.dget s.2 (n, b) = some o) : V13.lstep ltL s (w, n, some b) = (s.1, V13.dput s.2 (n, b) (if V13.wlt ltL w o = true then w else o)) := by
  unfold V13.lstep V13.key
  simp only [Option.map_some]
  rw [h]
theorem r_lcI {σ : L2.St} {H : Hp} {te td : TE} {g : TG} {tt : TT} {vs : List Nat} {Q : VK} {d : Addr} {o : Obj} {kvs : List (List Key × V)} (hv : Val td σ H (.ref d)) (hd : H d = some (.frz o (.dT kvs))) (Pv : Addr → Nat → Hp → Prop) (h0 : ∀ D, H D = none → Pv D 0 (upd H D (.lst []))) (hG : ∀ D i H', i ≤ kvs.length → H D = none → Pv D i H' → H' d = some (.frz o (.dT kvs)))
    (hs : ∀ D i T k v q H', H D = none → kvs[i]? = some (k, v) → Pv D i H' → H' T = none → H' q = some (.tup (k.map kV)) → g (.ref T) (wipe σ vs) (upd H' T (.tup [.ref q, v])) fun σ2 H2 => wipe σ2 vs = wipe σ vs ∧ tt σ2 H2 fun b H3 =>
      if b = true then te σ2 H3 fun y H4 => ∃ acc, H4 D = some (.lst acc) ∧ acc.length < sizeLine ∧ Pv D (i + 1) (upd H4 D (.lst (acc ++ [y]))) else Pv D (i + 1) H3)
    (he : ∀ D H', H D = none → Pv D kvs.length H' → Q (.ref D) H') : tLc (iItemsT td) g tt te vs σ H Q := by
  unfold tLc iItemsT
  refine hv _ ⟨d, o, kvs, rfl, hd, fun D nD => lc_it walk_itemsT (Pv D) (h0 D nD) (fun i H' hi p => hG D i H' hi nD p) (fun i x H' H'' _ p y => ?_) fun H' p => he D H' nD p⟩
  obtain ⟨T, k, v, q, e1, rfl, e3, e4, rfl⟩ := y
  exact hs D i T k v q H' nD e1 p e3 e4
theorem ek_filter {H : Hp} {f : List Key × V → Bool} {g : En → Bool} (fg : ∀ kv e, Ek H kv e → f kv = g e) : ∀ {kvs : List (List Key × V)} {D : List En}, Paired (Ek H) kvs D → Paired (Ek H) (kvs.filter f) (D.filter g)
  | _, _, .nil => .nil
  | _, _, .cons (a := kv) (b := e) h r => by
    have ih := ek_filter fg r
    by_cases c : g e = true
    · rw [List.filter_cons_of_pos c, List.filter_cons_of_pos (by rw [fg _ _ h]; exact c)]
      exact .cons h ih
    · rw [List.filter_cons_of_neg c, List.filter_cons_of_neg (by rw [fg _ _ h]; exact c)]
      exact ih
theorem isk_pq {H : Hp} : ∀ {kvs : List (List Key × V)} {D : List En} {bs : List Addr}, Paired (Ek H) kvs D → IsKeys H kvs bs → Paired (PqAt H) bs (D.map (·.1))
  | _, _, _, .nil, .nil => .nil
  | _, _, _, .cons h r, .cons k s => .cons (by rw [h.1] at k; exact k) (isk_pq r s)
theorem dp_pairs {K : PySem.W.Frag} {H : Hp} : ∀ {ps : List Addr} {seen : List (Nat × Nat)}, Paired (PqAt H) ps seen → DpAll K H (ps.map V.ref) (seen.map pairE)
  | _, _, .nil => .nil
  | _, _, .cons h r => .cons (.tup (SqT.of h) (.cons (.int _) (.cons (.int _) .nil))) (dp_pairs r)
theorem wds_dq {H : Hp} : ∀ {ls : List Addr} {ws : List (List Lt)}, Paired (WdAt H) ls ws → DqA H (ls.map V.ref) (ws.map wordD)
  | _, _, .nil => .nil
  | _, _, .cons h r => .cons h.dq (wds_dq r)
def inK (seen : List (Nat × Nat)) (k : List Key) : Bool := seen.any fun p => decide (kP p = k)
theorem inK_eq (seen : List (Nat × Nat)) (p : Nat × Nat) : inK seen (kP p) = decide (p ∈ seen) := by
  unfold inK
  rw [Bool.eq_iff_iff, List.any_eq_true, decide_eq_true_iff]
  constructor
  · rintro ⟨x, hx, e⟩
    rw [← kP_inj (of_decide_eq_true e)]
    exact hx
  · exact fun h => ⟨p, h, decide_eq_true rfl⟩
def FmI (H : Hp) (p q : Addr) (A C : List (List RwD)) (m : Nat) (σ : L2.St) (H' : Hp) : Prop := ∃ (dL sA : Addr) (kvs : List (List Key × V)) (ps : List Addr) (latest : List En) (seen : List (Nat × Nat)) (Q : List En) (met : List (Nat × Nat)) (k : Nat) (v4 v5 v6 v7 v8 v9 v10 v11 v12 v13 : Option V),
      σ = sgF (.ref p) (.ref q) (some (.ref dL)) (some (.ref sA)) v4 v5 v6 v7 v8 v9 v10 v11 v12 v13 ∧ Same H H' ∧ H dL = none ∧ H' dL = some (.dT kvs) ∧ Paired (Ek H') kvs latest ∧ H' sA = some (.lst (ps.map V.ref)) ∧ Paired (PqAt H') ps seen ∧
      V13.Lv ltL (allP A.length C.length) latest seen Q met k ∧ seen.Nodup ∧ V13.bfs (Af A) (Bf C) m Q met = fmR A C ∧ Q.length + ((allP A.length C.length).length - met.length) ≤ m ∧ m + k ≤ fmN A C
def spLFm : Sp := fun vs H Q _ => ∃ (p q : Addr) (A C : List (List RwD)), vs = [.ref p, .ref q] ∧ PcAt H p A ∧ PcX A ∧ PcAt H q C ∧ PcX C ∧ (∀ H', Same H H' → fmR A C = none → Q .non H') ∧ ∀ (H' : Hp) (r : Addr) (ws : List Lt), Same H H' → fmR A C = some ws → WdAt H' r ws → Q (.ref r) H'
section
variable {P : Program} {w : World} {K : PySem.W.Frag} {mg : Str → Option Value} {base : Heap}
theorem ok_law_first_more {f fL : Addr} {fd dL : FuncData} (B : Bt mg) (m_dict : mg "dict" = none) (m_min : mg "min" = none) (D : Df K mg "_law_first_more" s__law_first_more f fd ["_law_pact", "_law_other"]) (DL : Df K mg "_law_letters" s__law_letters fL dL ["_law_pact", "_law_at"]) : FnOk P w K mg base CX0 2 f fd ["_law_pact", "_law_other"] spLFm := by
  have GL : FnOk P w K mg base CX0 1 fL dL ["_law_pact", "_law_at"] spLLet := ok_law_letters DL
  refine D.F.ok sc__law_first_more (fun vs H Q E h => ?_) (fun cdv A0 outer s H vs Q E hr h => ?_)
  · obtain ⟨p, q, A, C, rfl, _⟩ := h
    rfl
  · obtain ⟨p, q, A, C, rfl, hp, px, hq, qx, kN, kS⟩ := h
    have S := sc__law_first_more
    refine ⟨_, (pss_cons (ps_asg (pe_tup (pa_cons (pe_disp1T (by exact hr.units0) (pe_tup (pa_cons pe_int (pa_cons pe_int pa_nil))) (pe_tup pa_nil)) (pa_cons (pe_lst (pa_cons (pe_tup (pa_cons pe_int (pa_cons pe_int pa_nil))) pa_nil)) pa_nil))) (pg_tup (by rfl) (pgs_cons (pg_name (i := 2) S.nd rfl (.inl rfl)) (pgs_cons (pg_name (i := 3) S.nd rfl (.inr rfl)) pgs_nil))))
      (pss_cons (ps_while PassesOwn.never (pt_cmpR (op_neDT (hu0_of hr)) (pv 2) pe_dnewT (nomark _))
        (pss_cons (ps_par (i := 4) (j := 5) (by rfl) S.nd rfl rfl (by decide) rfl rfl (pa_cons (pe_lst pa_nil) (pa_cons pe_dnewT pa_nil)) (by rfl))
      (pss_cons (ps_lock (ps_for PassesOwn.never rfl (pi_itemsT (pv 2)) (pg_tup (by rfl) (pgs_cons (pg_tup (by rfl) (pgs_cons (pg_name (i := 6) S.nd rfl (.inl rfl)) (pgs_cons (pg_name (i := 7) S.nd rfl (.inl rfl)) pgs_nil))) (pgs_cons (pg_name (i := 8) S.nd rfl (.inl rfl)) pgs_nil)))
        (pss_cons (ps_set (i := 9) S.nd rfl (.inl rfl) (pe_callTy (call_dictPT rfl hr.units) (by rfl) m_dict (by decide +kernel) (pa_cons (pe_call GL (hr.mono (by decide)) (by rfl) DL.g DL.F.kp DL.b .nil pass0 (pa_cons (pv 1) (pa_cons (pv 7) pa_nil))) pa_nil)))
      (pss_one (ps_for PassesOwn.never rfl (pi_list (pe_call GL (hr.mono (by decide)) (by rfl) DL.g DL.F.kp DL.b .nil pass0 (pa_cons (pv 0) (pa_cons (pv 6) pa_nil)))) (pg_tup (by rfl) (pgs_cons (pg_name (i := 10) S.nd rfl (.inl rfl)) (pgs_cons (pg_name (i := 11) S.nd rfl (.inl rfl)) pgs_nil)))
        (pss_cons (ps_set (i := 12) S.nd rfl (.inl rfl) (pe_op op_catA (pv 8) (pe_tup (pa_cons (pv 10) pa_nil))))
      (pss_one (ps_if (pt_cmp (pc_dnotin (hu_of hr) (pv 10) (pv 9)))
        (pss_one (ps_expr (pe_bm PySem.F.plainAttrs_list PySem.F.slot_list_append PySem.F.type_list_append mt_append (pv 4) (pa_cons (pv 12) pa_nil))))
        (pss_cons (ps_set (i := 13) S.nd rfl (.inl rfl) (pe_tup (pa_cons (pv 11) (pa_cons (pe_dget (hu_of hr) (pv 9) (pv 10) (fun _ _ => rfl)) pa_nil))))
      (pss_one (ps_dput (hu_of hr) (pv 5) (pv 13) (pe_callB (call_min2D rfl hr.units) (by rfl) m_min (by decide +kernel) (pa_cons (pe_dget2 (hu_of hr) (pv 5) (pv 13) (pv 12) ⟨by rfl, by rfl, by rfl, by rfl⟩) (pa_cons (pv 12) pa_nil))) rfl)))))))))))
      (pss_cons (ps_if (pt_cmpR (op_neL0 hr.units) (pv 4) (pe_lst pa_nil) (nomark _))
        (pss_one (ps_ret (pe_callB (call_minLD rfl hr.units) (by rfl) m_min (by decide +kernel) (pa_cons (pv 4) pa_nil))))
        pss_nil)
      (pss_cons (ps_set (i := 2) S.nd rfl (.inl rfl) (pe_callTy (call_dictPT rfl hr.units) (by rfl) m_dict (by decide +kernel) (pa_cons (pe_lock (pe_lc (own := [("_law_pair", 13), ("_law_word", 8)]) (g := gTup K 2 (gCons (gName 13) (gCons (gName 8) gNil))) rfl S.nd (pi_itemsT (pv 5)) (blkOk_by (own := [("_law_pair", 13), ("_law_word", 8)]) (N := nmFM) (sc := defScope s__law_first_more) (by decide +kernel)) (fun _ _ _ _ _ => pg_tup (by rfl) (pgs_cons (pg_name (i := 13) S.nd rfl (Or.inl rfl)) (pgs_cons (pg_name (i := 8) S.nd rfl (Or.inl rfl)) pgs_nil))) (fun _ _ _ _ _ => pts_one (pt_cmpR (show OpR _ (compareOp .NotIn) (rNotInD K) from op_notInD (hu65 hr)) (pv 13) (pv 3) (by rfl))) (fun _ _ _ _ _ => (pe_tup (pa_cons (pv 13) (pa_cons (pv 8) pa_nil)))))) pa_nil)))
      (pss_one (ps_set (i := 3) S.nd rfl (.inr rfl) (pe_op op_cat (pv 3) (pe_callTy (call_list_dT rfl) (by rfl) B.m_list (by decide +kernel) (pa_cons (pv 2) pa_nil))))))))))
      (pss_one (ps_ret pe_non)))), ?_⟩
    show tSeq _ _ _ (sgF (.ref p) (.ref q) none none none none none none none none none none none none) H
    refine s_asg (r_tupT ?_)
    refine fun dL H1 nL s1 eL => ?_
    refine r_tup2 val_c val_c fun k0 H2 s2 nk hk => ?_
    refine r_tup0 fun t0 H3 s3 nt ht0 => ?_
    refine ⟨k0, [.inl 0, .inl 0], rfl, s3 _ _ (s2 _ _ eL), s3 _ _ hk, ?_⟩
    have s03 : Same H (upd H3 dL (.dT [([.inl 0, .inl 0], .ref t0)])) := fun b o e => by
      rw [upd_ne (ne_of_none e nL)]
      exact s3 _ _ (s2 _ _ (s1 _ _ e))
    have hdL : (upd H3 dL (.dT [([.inl 0, .inl 0], .ref t0)])) dL = some (.dT [([.inl 0, .inl 0], .ref t0)]) := upd_same
    have ht0 : (upd H3 dL (.dT [([.inl 0, .inl 0], .ref t0)])) t0 = some (.tup []) := by
      rw [upd_ne (fun z => by rw [z, s3 _ _ (s2 _ _ eL)] at ht0; cases ht0)]
      exact ht0
    generalize (upd H3 dL (.dT [([.inl 0, .inl 0], .ref t0)])) = H4 at s03 hdL ht0 ⊢
    refine r_lstT (r_tup2 val_c val_c fun k1 H5 s5 nk1 hk1 => ?_)
    refine ⟨by show 1 ≤ sizeLine; decide, fun sA nS => ?_⟩
    have hsA : (upd H5 sA (.lst [.ref k1])) sA = some (.lst [.ref k1]) := upd_same
    have s6 := same_upd (o := .lst [.ref k1]) nS
    generalize (upd H5 sA (.lst [.ref k1])) = H6 at hsA s6 ⊢
    refine ⟨by show 2 ≤ sizeLine; decide, fun t1 n1 => ?_⟩
    have s7 := same_upd (o := .tup [.ref dL, .ref sA]) n1
    refine g_pair upd_same rfl ?_
    generalize (upd H6 t1 (.tup [.ref dL, .ref sA])) = H7 at s7 ⊢
    have s47 := (s5.trans s6).trans s7
    have s07 := s03.trans s47
    have hdL := s47 _ _ hdL
    have ht0 := s47 _ _ ht0
    have hsA := s7 _ _ hsA
    have hk1 := s7 _ _ (s6 _ _ hk1)
    show tSeq (tWhile _ _) _ _ (sgF (.ref p) (.ref q) (some (.ref dL)) (some (.ref sA)) none none none none none none none none none none) H7
    dsimp only [tSeq]
    unfold tWhile
    refine ⟨FmI H p q A C, ⟨fmN A C, dL, sA, _, [k1], [((0, 0), [])], [(0, 0)], [((0, 0), [])], [(0, 0)], 0, _, _, _, _, _, _, _, _, _, _, rfl, s07, nL, hdL, ?_, hsA, .cons hk1 .nil, ?_, List.nodup_cons.mpr ⟨(fun z => nomatch z), .nil⟩, rfl, ?_, ?_⟩, ?_⟩
    · exact .cons ⟨rfl, t0, rfl, [], ht0, .nil⟩ .nil
    · exact V13.Lv.start (allP_mem.mpr ⟨px.l0, qx.l0⟩)
    · rw [allP_len]
      unfold fmN
      show 1 + (A.length * C.length - 1) ≤ _
      omega
    · exact Nat.le_refl _
    rintro m σ H8 ⟨dL, sA, kvs, ps, latest, seen, Q', met, k, v4, v5, v6, v7, v8, v9, v10, v11, v12, v13, rfl, s8, nL, hdL, ek, hsA, pps, LV, sd, ev, fe, fk⟩
    refine r_testT (r_op ((val_var (v := .ref dL) rfl) _ (r_dnewT fun z H9 s9 nz hz => ⟨dL, z, kvs, rfl, rfl, s9 _ _ hdL, hz, _, rfl, ?_⟩)))
    have lkv : kvs.length = latest.length := Paired.length ek
    have s89 := s8.trans s9
    by_cases e0 : kvs.length = 0
    · rw [e0]
      refine iteF ?_
      have el : latest = [] := List.eq_nil_of_length_eq_zero (by omega)
      subst el
      rw [V13.done LV] at ev
      dsimp only [tRet]
      exact val_c _ (kN H9 s89 ev.symm)
    · rw [show (kvs.length == 0) = false by simpa using e0]
      refine iteT ?_
      have lQ : 0 < Q'.length := by
        cases latest with
        | nil => rw [lkv] at e0; exact absurd rfl e0
        | cons e r => exact List.length_pos_of_mem ((LV.same e).mp List.mem_cons_self)
      have fw : latest.length ≤ 8100 := by
        have h1 := V13.len_le LV.nodL (ys := allP A.length C.length) fun x hx => by
          obtain ⟨e, he, rfl⟩ := List.mem_map.mp hx
          exact LV.sub _ (LV.inM e ((LV.same e).mp he))
        rw [List.length_map, allP_len] at h1
        have := Nat.mul_le_mul px.l1 qx.l1
        omega
      have k8 : k ≤ 8102 := by
        have := Nat.mul_le_mul px.l1 qx.l1
        unfold fmN at fk
        omega
      refine ⟨FmI H p q A C (m - Q'.length), fun σ' H' h => ⟨m - Q'.length, by omega, h⟩, ?_⟩
      have hdL9 := s9 _ _ hdL
      have hsA9 := s9 _ _ hsA
      have ek9 := Paired.mapP ek fun _ _ z => z.mono (TKeep.same s9)
      have pps9 := Paired.mapP pps fun _ _ z => s9 _ _ z
      clear s8 hdL hsA ek pps s9 nz hz
      refine s_par (r_lst0 fun M HM sM nM hM => r_dnewT fun c Hc sc nc hc => ⟨_, _, rfl, ?_⟩)
      show tSeq _ _ _ (sgF (.ref p) (.ref q) (some (.ref dL)) (some (.ref sA)) (some (.ref M)) (some (.ref c)) v6 v7 v8 v9 v10 v11 v12 v13) Hc
      have hMc := sc _ _ hM
      have sMc := sM.trans sc
      have hdLc := sMc _ _ hdL9
      have Mc : M ≠ c := ne_of_none hM nc
      have s0c := s89.trans sMc
      have ML : M ≠ dL := fun z => by rw [z, hdL9] at nM; cases nM
      have cL : c ≠ dL := fun z => by rw [z, sM _ _ hdL9] at nc; cases nc
      refine s_lock hdLc True.intro fun od => ?_
      have hB : (upd Hc dL (.frz od (.dT kvs))) dL = some (.frz od (.dT kvs)) := upd_same
      have keepB : ∀ x o, x ≠ dL → Hc x = some o → (upd Hc dL (.frz od (.dT kvs))) x = some o := fun x o n e => by
        rw [upd_ne n]
        exact e
      have s0B : Same H (upd Hc dL (.frz od (.dT kvs))) := fun x o e => keepB x o (ne_of_none e nL) (s0c x o e)
      have hMB := keepB _ _ ML hMc
      have hcB := keepB _ _ cL hc
      have hsAc := sMc _ _ hsA9
      have sAL : sA ≠ dL := fun z => by rw [z, hdL9] at hsA9; cases hsA9
      have hsAB := keepB _ _ sAL hsAc
      have sAM : sA ≠ M := ne_of_none hsA9 nM
      have sAc : sA ≠ c := ne_of_none (sM _ _ hsA9) nc
      have tkB : TKeep H9 (upd Hc dL (.frz od (.dT kvs))) := fun x ys e => keepB x _ (fun z => by rw [z, hdL9] at e; cases e) (sMc _ _ e)
      have ekB := Paired.mapP ek9 fun _ _ z => z.mono tkB
      have ppsB : Paired (PqAt (upd Hc dL (.frz od (.dT kvs)))) ps seen := Paired.mapP pps9 fun _ _ z => tkB _ _ z
      generalize (upd Hc dL (.frz od (.dT kvs))) = HB at hB s0B hMB hcB hsAB ekB ppsB ⊢
      have stN : ∀ i e, latest[i]? = some e → (V13.cands (Af A) (Bf C) (latest.take (i + 1))).foldl (V13.lstep ltL) ([], []) = (V13.cand (Af A) (Bf C) e).foldl (V13.lstep ltL) ((V13.cands (Af A) (Bf C) (latest.take i)).foldl (V13.lstep ltL) ([], [])) := fun i e h => by
        rw [← List.foldl_append]
        congr 1
        unfold V13.cands
        rw [List.take_add_one, h, List.flatMap_append]
        simp
      refine e_forI (val_var (v := .ref dL) rfl) hB (fun i σ H' => ∃ v6 v7 v8 v9 v10 v11 v12 v13 : Option V, σ = sgF (.ref p) (.ref q) (some (.ref dL)) (some (.ref sA)) (some (.ref M)) (some (.ref c)) v6 v7 v8 v9 v10 v11 v12 v13 ∧ Lf HB H' M c ((V13.cands (Af A) (Bf C) (latest.take i)).foldl (V13.lstep ltL) ([], [])) (i * 72)) ?_ ?_ ?_ ?_
      · refine ⟨_, _, _, _, _, _, _, _, rfl, fun x o _ _ e => e, ⟨[], hMB, .nil⟩, ⟨[], hcB, .nil⟩, .nil, ?_⟩
        exact Nat.zero_le _
      · rintro i σ H' _ ⟨_, _, _, _, _, _, _, _, _, L⟩
        exact L.b _ _ ML.symm cL.symm hB
      · rintro i T k0 v0 q0 σ H1 ekv ⟨v6, v7, v8, v9, v10, v11, v12, v13, rfl, L⟩ nT hq0
        obtain ⟨e, ee, ek0, tw, rfl, hwB⟩ := paired_at i ekB ekv
        have ek0 : k0 = kP e.1 := ek0
        subst ek0
        have sT := same_upd (o := .tup [.ref q0, .ref tw]) nT
        refine g_nest (x := .int (e.1.1 : Nat)) (y := .int (e.1.2 : Nat)) (z := .ref tw) (p := T) (q := q0) upd_same (sT _ _ hq0) rfl rfl ?_
        have L := L.same sT
        generalize (upd H1 T (.tup [.ref q0, .ref tw])) = H2 at L ⊢
        have tk2 := L.tk hMB hcB
        obtain ⟨e1, e2⟩ := allP_mem.mp (LV.sub _ (LV.inM e ((LV.same e).mp (List.mem_of_getElem? ee))))
        obtain ⟨ra, era⟩ : ∃ rs, A[e.1.1]? = some rs := ⟨_, List.getElem?_eq_getElem e1⟩
        obtain ⟨rb, erb⟩ : ∃ rs, C[e.1.2]? = some rs := ⟨_, List.getElem?_eq_getElem e2⟩
        obtain ⟨xa, la, oka⟩ := px.ok ra (List.mem_of_getElem? era)
        obtain ⟨xb, lb, okb⟩ := qx.ok rb (List.mem_of_getElem? erb)
        show tSeq _ _ _ (sgF (.ref p) (.ref q) (some (.ref dL)) (some (.ref sA)) (some (.ref M)) (some (.ref c)) (some (.int (e.1.1 : Nat))) (some (.int (e.1.2 : Nat))) (some (.ref tw)) v9 v10 v11 v12 v13) H2
        refine s_set (r_cbT (r_call2 (va := .ref q) (vb := .int (e.1.2 : Nat)) (val_var rfl) (val_var rfl) ⟨q, C, e.1.2, rb, rfl, (hq.mono (TKeep.same s0B)).mono tk2, erb, lb, fun r hr => (okb r hr).2.2, fun H3 Mt ts s3 nMt hMt plt => ?_⟩))
        obtain ⟨zs, z1, z2, z3⟩ := ln_zs plt
        refine ⟨Mt, zs, rfl, by rw [z1]; exact hMt, z2, fun tb ntb => ?_⟩
        have z3 : (zs.map fun z => (z.2.1, z.2.2.2)) = tabL rb := z3
        rw [z3, mergeT_nil (lets_nodup xb)]
        have s4 := same_upd (o := .dT (tabL rb)) ntb
        have htb : (upd H3 tb (.dT (tabL rb))) tb = some (.dT (tabL rb)) := upd_same
        have L3 := L.same s3
        have tbM : tb ≠ M := fun z => by
          obtain ⟨_, h, _⟩ := L3.t
          rw [z, h] at ntb
          cases ntb
        have tbc : tb ≠ c := fun z => by
          obtain ⟨_, h, _⟩ := L3.c
          rw [z, h] at ntb
          cases ntb
        have L := L3.same s4
        clear L3 z1 z2 z3 plt hMt nMt s3
        generalize (upd H3 tb (.dT (tabL rb))) = H4 at s4 htb L ⊢
        have tk4 := L.tk hMB hcB
        show tFor _ _ _ _ (sgF (.ref p) (.ref q) (some (.ref dL)) (some (.ref sA)) (some (.ref M)) (some (.ref c)) (some (.int (e.1.1 : Nat))) (some (.int (e.1.2 : Nat))) (some (.ref tw)) (some (.ref tb)) v10 v11 v12 v13) H4
        refine e_forL (fun L2 xs HL => ∃ ts : List Addr, xs = ts.map V.ref ∧ Same H4 HL ∧ H4 L2 = none ∧ Paired (LnAt HL) ts (letsR ra)) (fun Q kq => ?_) (fun ll xs HL hL hR => ?_)
        · exact r_call2 (va := .ref p) (vb := .int (e.1.1 : Nat)) (val_var rfl) (val_var rfl) ⟨p, A, e.1.1, ra, rfl, (hp.mono (TKeep.same s0B)).mono tk4, era, la, fun r hr => (oka r hr).2.2, fun H' M ts s nM hM pl => kq M _ H' hM ⟨ts, rfl, s, nM, pl⟩⟩
        obtain ⟨ts2, rfl, sL, nLL, pl⟩ := hR
        have lenL := Paired.length pl
        have few72 : (letsR ra).length ≤ 72 := Nat.le_trans (lets_few fun r hr => (oka r hr).2.2) (by omega)
        have llM : ll ≠ M := fun z => by
          obtain ⟨_, h, _⟩ := L.t
          rw [z, h] at nLL
          cases nLL
        have llc : ll ≠ c := fun z => by
          obtain ⟨_, h, _⟩ := L.c
          rw [z, h] at nLL
          cases nLL
        have L := L.same sL
        have htb := sL _ _ htb
        clear s4 tk4 tk2
        have tkL := L.tk hMB hcB
        have hw := hwB.mono tkL
        have cd : V13.cand (Af A) (Bf C) e = (letsR ra).map fun z => (e.2 ++ [z.1], z.2.toNat, Bf C e.1.2 z.1) := by
          unfold V13.cand Af
          rw [era, List.map_map]
          rfl
        refine ⟨fun j σ H' => ∃ v10 v11 v12 v13 : Option V, σ = sgF (.ref p) (.ref q) (some (.ref dL)) (some (.ref sA)) (some (.ref M)) (some (.ref c)) (some (.int (e.1.1 : Nat))) (some (.int (e.1.2 : Nat))) (some (.ref tw)) (some (.ref tb)) v10 v11 v12 v13 ∧
          Lf HB H' M c (((V13.cand (Af A) (Bf C) e).take j).foldl (V13.lstep ltL) ((V13.cands (Af A) (Bf C) (latest.take i)).foldl (V13.lstep ltL) ([], []))) (i * 72 + j) ∧ ∀ x o, x ≠ M → x ≠ c → HL x = some o → H' x = some o, ⟨_, _, _, _, rfl, L, fun x o _ _ h => h⟩, ?_, ?_, ?_⟩
        · rintro j σ H' _ ⟨_, _, _, _, _, _, kb⟩
          exact SqL.of (kb _ _ llM llc hL)
        · rintro j x σ H' hx ⟨v10, v11, v12, v13, rfl, Lj, kb⟩
          obtain ⟨tj, etj, rfl⟩ : ∃ t, ts2[j]? = some t ∧ x = .ref t := by
            rw [List.getElem?_map] at hx
            cases e : ts2[j]? with
            | none => rw [e] at hx; cases hx
            | some i => rw [e] at hx; exact ⟨i, rfl, (Option.some.inj hx).symm⟩
          obtain ⟨ln, eln, hln⟩ := paired_at j pl etj
          obtain ⟨ML1, hML1, _⟩ := L.t
          obtain ⟨cL1, hcL1, _⟩ := L.c
          have tkj : TKeep HL H' := fun x ys h => kb x _ (fun z => by rw [z, hML1] at h; cases h) (fun z => by rw [z, hcL1] at h; cases h) h
          obtain ⟨l, htj, hl⟩ := hln.mono tkj
          have jl : j < (letsR ra).length := (List.getElem?_eq_some_iff.mp eln).1
          have il : i < latest.length := (List.getElem?_eq_some_iff.mp ee).1
          refine g_pair htj rfl ?_
          obtain ⟨n0, n1, lok⟩ := let_in xa oka (List.mem_of_getElem? eln)
          have ec : (V13.cand (Af A) (Bf C) e)[j]? = some (e.2 ++ [ln.1], ln.2.toNat, Bf C e.1.2 ln.1) := by
            rw [cd, List.getElem?_map, eln]
            rfl
          have et : ((V13.cand (Af A) (Bf C) e).take (j + 1)).foldl (V13.lstep ltL) ((V13.cands (Af A) (Bf C) (latest.take i)).foldl (V13.lstep ltL) ([], [])) = V13.lstep ltL (((V13.cand (Af A) (Bf C) e).take j).foldl (V13.lstep ltL) ((V13.cands (Af A) (Bf C) (latest.take i)).foldl (V13.lstep ltL) ([], []))) (e.2 ++ [ln.1], ln.2.toNat, Bf C e.1.2 ln.1) := by
            rw [List.take_add_one, ec, List.foldl_append]
            rfl
          generalize hs : ((V13.cand (Af A) (Bf C) e).take j).foldl (V13.lstep ltL) ((V13.cands (Af A) (Bf C) (latest.take i)).foldl (V13.lstep ltL) ([], [])) = s at Lj et
          have eB : Bf C e.1.2 ln.1 = (behR rb ln.1.1.1 ln.1.1.2 ln.1.2).map Int.toNat := by
            unfold Bf
            rw [erb]
          obtain ⟨ls, hls, pls⟩ := id (hw.mono tkj)
          have llw := Paired.length pls
          have lw : e.2.length = k := LV.len e ((LV.same e).mp (List.mem_of_getElem? ee))
          show tSeq _ _ _ (sgF (.ref p) (.ref q) (some (.ref dL)) (some (.ref sA)) (some (.ref M)) (some (.ref c)) (some (.int (e.1.1 : Nat))) (some (.int (e.1.2 : Nat))) (some (.ref tw)) (some (.ref tb)) (some (.ref l)) (some (.int ln.2)) v12 v13) H'
          refine s_set (r_op ((val_var (v := .ref tw) rfl) _ (r_tup1 (va := .ref l) (val_var rfl) fun t5 H5 s5 n5 h5 => catA_any (s5 _ _ hls) h5 (by rw [List.length_map, llw, lw]; show k + 1 ≤ 20000; omega) fun r2 H6 s6 hr2 => ?_)))
          have s56 := s5.trans s6
          have hw2 : WdAt H6 r2 (e.2 ++ [ln.1]) := ⟨ls ++ [l], by rw [hr2, List.map_append]; rfl, paired_app (Paired.mapP pls fun _ _ z => s56 _ _ z) (s56 _ _ hl)⟩
          have Lj := Lj.same s56
          have kb6 : ∀ x o, x ≠ M → x ≠ c → HL x = some o → H6 x = some o := fun x o a b h => s56 _ _ (kb x o a b h)
          have htb6 := kb6 _ _ tbM tbc htb
          have hl6 := s56 _ _ hl
          clear s5 n5 h5 s6 hr2 s56 pls hls
          show tIfS _ _ _ _ (sgF (.ref p) (.ref q) (some (.ref dL)) (some (.ref sA)) (some (.ref M)) (some (.ref c)) (some (.int (e.1.1 : Nat))) (some (.int (e.1.2 : Nat))) (some (.ref tw)) (some (.ref tb)) (some (.ref l)) (some (.int ln.2)) (some (.ref r2)) v13) H6
          have vv := tab_val xb ln.1
          have gg := DGet.t (k := kL ln.1) htb6 (show H6 l = some (.tup ((kL ln.1).map kV)) from hl6)
          rw [vv] at gg
          refine e_if (r_dnotin (val_var (v := .ref l) rfl) (val_var (v := .ref tb) rfl) gg ?_)
          obtain ⟨ls3, hls3, pls3⟩ := Lj.t
          obtain ⟨kvs3, hkvs3, pkvs3⟩ := Lj.c
          have few := Lj.few
          cases eb : behR rb ln.1.1.1 ln.1.1.2 ln.1.2 with
          | none =>
            refine iteT ?_
            refine e_drop (r_bm (va := .ref M) (val_var rfl) (.inl ⟨rfl, _, SqL.of hls3⟩) ((val_var (v := .ref r2) rfl) _ ⟨M, _, _, rfl, rfl, hls3, ?_, ?_⟩))
            · rw [List.length_map, Paired.length pls3, sizeLine_eq]
              omega
            · rw [eB, eb] at et
              refine ⟨_, _, _, _, rfl, ?_, fun x o a b h => ?_⟩
              · rw [et]
                exact Lj.tell Mc hls3 hw2
              · rw [upd_ne a]
                exact kb6 x o a b h
          | some b =>
            obtain ⟨b0, b1⟩ := beh_in xb eb
            refine iteF ?_
            have cn : ((ln.2.toNat : Nat) : Int) = ln.2 := Int.toNat_of_nonneg n0
            have cb : ((b.toNat : Nat) : Int) = b := Int.toNat_of_nonneg b0
            rw [eb] at gg
            refine s_set (r_tupT ((val_var (v := .int ln.2) rfl) _ ((val_var (v := .ref tb) rfl) _ ((val_var (v := .ref l) rfl) _ ⟨tb, .int b, rfl, gg, ?_⟩))))
            refine ⟨by show 2 ≤ sizeLine; decide, fun t7 n7 => ?_⟩
            have s7 := same_upd (o := .tup [.int ln.2, .int b]) n7
            have h7 : (upd H6 t7 (.tup [.int ln.2, .int b])) t7 = some (.tup ((kP (ln.2.toNat, b.toNat)).map kV)) := by
              rw [upd_same]
              show _ = some (HO.tup [.int ((ln.2.toNat : Nat) : Int), .int ((b.toNat : Nat) : Int)])
              rw [cn, cb]
            generalize (upd H6 t7 (.tup [.int ln.2, .int b])) = H7 at s7 h7 ⊢
            have Lj7 := Lj.same s7
            have hk7 := s7 _ _ hkvs3
            have hw7 := hw2.mono (TKeep.same s7)
            have g7 := DGet.t (k := kP (ln.2.toNat, b.toNat)) hk7 h7
            have gd := ek_get (p := (ln.2.toNat, b.toNat)) (Paired.mapP pkvs3 fun _ _ z => z.mono (TKeep.same s7))
            show sDPut _ _ _ _ (sgF (.ref p) (.ref q) (some (.ref dL)) (some (.ref sA)) (some (.ref M)) (some (.ref c)) (some (.int (e.1.1 : Nat))) (some (.int (e.1.2 : Nat))) (some (.ref tw)) (some (.ref tb)) (some (.ref l)) (some (.int ln.2)) (some (.ref r2)) (some (.ref t7))) H7
            dsimp only [sDPut]
            rw [eB, eb] at et
            have et : _ = V13.lstep ltL s (e.2 ++ [ln.1], ln.2.toNat, some b.toNat) := et
            refine r_cbT2 ?_
            dsimp only [tDGet2]
            refine (val_var (v := .ref c) rfl) _ ⟨c, rfl, .inr ⟨kvs3, .inl hk7⟩, (val_var (v := .ref t7) rfl) _ ((val_var (v := .ref r2) rfl) _ ⟨_, g7, (val_var (v := .ref r2) rfl) _ ?_⟩)⟩
            cases ed : V13.dget s.2 (ln.2.toNat, b.toNat) with
            | none =>
              rw [ed] at gd
              have gd : valV kvs3 (kP (ln.2.toNat, b.toNat)) = none := gd
              rw [gd]
              have eS : V13.lstep ltL s (e.2 ++ [ln.1], ln.2.toNat, some b.toNat) = (s.1, V13.dput s.2 (ln.2.toNat, b.toNat) (e.2 ++ [ln.1])) := lstep_none ed
              refine ⟨.ref r2, .ref r2, wordD (e.2 ++ [ln.1]), wordD (e.2 ++ [ln.1]), rfl, hw7.dq, hw7.dq, words_al [e.2 ++ [ln.1], e.2 ++ [ln.1]], Nat.le_trans (wordsD_depth [e.2 ++ [ln.1], e.2 ++ [ln.1]]) (by decide), ?_⟩
              rw [ite_self]
              refine (val_var (v := .ref c) rfl) _ ((val_var (v := .ref t7) rfl) _ ⟨c, _, rfl, DPut.t hk7 h7 (by rw [Paired.length pkvs3, sizeLine_eq]; omega), _, _, _, _, rfl, ?_, fun x o a b h => ?_⟩)
              · rw [et, eS]
                exact Lj7.put Mc hk7 hw7
              · rw [upd_ne b]
                exact s7 _ _ (kb6 x o a b h)
            | some wo =>
              rw [ed] at gd
              obtain ⟨to, gv, hwo⟩ : ∃ t, valV kvs3 (kP (ln.2.toNat, b.toNat)) = some (.ref t) ∧ WdAt H7 t wo := gd
              rw [gv]
              have eS : V13.lstep ltL s (e.2 ++ [ln.1], ln.2.toNat, some b.toNat) = (s.1, V13.dput s.2 (ln.2.toNat, b.toNat) (if V13.wlt ltL (e.2 ++ [ln.1]) wo = true then e.2 ++ [ln.1] else wo)) := lstep_some ed
              refine ⟨.ref to, .ref r2, wordD wo, wordD (e.2 ++ [ln.1]), rfl, hwo.dq, hw7.dq, words_al [wo, e.2 ++ [ln.1]], Nat.le_trans (wordsD_depth [wo, e.2 ++ [ln.1]]) (by decide), ?_⟩
              rw [word_lt]
              by_cases cl : V13.wlt ltL (e.2 ++ [ln.1]) wo = true
              · rw [if_pos cl] at eS ⊢
                refine (val_var (v := .ref c) rfl) _ ((val_var (v := .ref t7) rfl) _ ⟨c, _, rfl, DPut.t hk7 h7 (by rw [Paired.length pkvs3, sizeLine_eq]; omega), _, _, _, _, rfl, ?_, fun x o a b h => ?_⟩)
                · rw [et, eS]
                  exact Lj7.put Mc hk7 hw7
                · rw [upd_ne b]
                  exact s7 _ _ (kb6 x o a b h)
              · rw [if_neg cl] at eS ⊢
                refine (val_var (v := .ref c) rfl) _ ((val_var (v := .ref t7) rfl) _ ⟨c, _, rfl, DPut.t hk7 h7 (by rw [Paired.length pkvs3, sizeLine_eq]; omega), _, _, _, _, rfl, ?_, fun x o a b h => ?_⟩)
                · rw [et, eS]
                  exact Lj7.put Mc hk7 hwo
                · rw [upd_ne b]
                  exact s7 _ _ (kb6 x o a b h)
        · rintro σ H' ⟨v10, v11, v12, v13, rfl, Lj, _⟩
          have cl : (V13.cand (Af A) (Bf C) e).length ≤ (ts2.map V.ref).length := by
            rw [cd, List.length_map, List.length_map, lenL]
            exact Nat.le_refl _
          rw [List.take_of_length_le cl, ← stN i e ee] at Lj
          refine ⟨_, _, _, _, _, _, _, _, rfl, Lj.le ?_⟩
          rw [List.length_map, lenL]
          omega
      · rintro σ H' ⟨v6, v7, v8, v9, v10, v11, v12, v13, rfl, L⟩
        have hdF := L.b _ _ ML.symm cL.symm hB
        refine ⟨hdF, ?_⟩
        rw [lkv, List.take_length] at L
        have T := V13.turn ltL_lin (af_asc px) (cand_in px qx) LV fe _ rfl
        have R := V13.lrun_ok ltL_lin (V13.cands (Af A) (Bf C) latest)
        change Lf HB H' M c (V13.lrun ltL (V13.cands (Af A) (Bf C) latest)) _ at L
        generalize V13.lrun ltL (V13.cands (Af A) (Bf C) latest) = r at L T R
        have tkF : TKeep H' (upd H' dL (.dT kvs)) := fun x ys e => by
          rw [upd_ne (fun z => by rw [z, hdF] at e; cases e)]
          exact e
        have nM0 : H M = none := s89.free nM
        have nc0 : H c = none := (s89.trans sM).free nc
        have s0F : Same H (upd H' dL (.dT kvs)) := fun x o e => by
          rw [upd_ne (ne_of_none e nL)]
          exact L.b _ _ (ne_of_none e nM0) (ne_of_none e nc0) (s0B _ _ e)
        obtain ⟨ls, hls, pls⟩ := L.t
        obtain ⟨kvs2, hkvs2, pkvs2⟩ := L.c
        have few := L.few
        have hsAF : (upd H' dL (.dT kvs)) sA = some (.lst (ps.map V.ref)) := by
          rw [upd_ne sAL]
          exact L.b _ _ sAM sAc hsAB
        have hlsF : (upd H' dL (.dT kvs)) M = some (.lst (ls.map V.ref)) := by
          rw [upd_ne ML]
          exact hls
        have hkF : (upd H' dL (.dT kvs)) c = some (.dT kvs2) := by
          rw [upd_ne cL]
          exact hkvs2
        have plsF := Paired.mapP pls fun _ _ z => z.mono tkF
        have pkF := Paired.mapP pkvs2 fun _ _ z => z.mono tkF
        have ppF : Paired (PqAt (upd H' dL (.dT kvs))) ps seen := Paired.mapP ppsB fun _ _ z => tkF _ _ (L.tk hMB hcB _ _ z)
        generalize (upd H' dL (.dT kvs)) = HF at s0F hsAF hlsF hkF plsF pkF ppF ⊢
        show tSeq _ _ _ (sgF (.ref p) (.ref q) (some (.ref dL)) (some (.ref sA)) (some (.ref M)) (some (.ref c)) v6 v7 v8 v9 v10 v11 v12 v13) HF
        refine s_if (r_testT (r_op ((val_var (v := .ref M) rfl) _ (r_lst0 fun z H10 s10 nz hz => ⟨M, z, _, rfl, rfl, SqL.of (s10 _ _ hlsF), SqL.of hz, _, rfl, ?_⟩))))
        rw [List.length_map, Paired.length plsF]
        have s010 := s0F.trans s10
        cases er : r.1 with
        | cons w0 ws =>
          refine iteT ?_
          rw [er] at plsF
          have ev2 := T.1 (by rw [er]; exact fun z => nomatch z)
          rw [er] at ev2
          have pls10 := Paired.mapP plsF fun _ _ z => z.mono (TKeep.same s10)
          refine e_ret (r_cb1 (va := .ref M) (val_var rfl) ⟨M, ls.map V.ref, wordD w0, ws.map wordD, rfl, SqL.of (s10 _ _ hlsF), wds_dq pls10, words_al (w0 :: ws), Nat.le_trans (wordsD_depth (w0 :: ws)) (by decide), fun j x hx hd => ?_⟩)
          obtain ⟨tj, etj, rfl⟩ : ∃ t, ls[j]? = some t ∧ x = .ref t := by
            rw [List.getElem?_map] at hx
            cases e : ls[j]? with
            | none => rw [e] at hx; cases hx
            | some i => rw [e] at hx; exact ⟨i, rfl, (Option.some.inj hx).symm⟩
          obtain ⟨wj, ewj, hwj⟩ := paired_at j pls10 etj
          rw [min_word] at hd
          have hd : ((w0 :: ws).map wordD)[j]? = _ := hd
          rw [List.getElem?_map, ewj] at hd
          have ew := word_inj (Option.some.inj hd)
          exact kS H10 tj wj s010 (by rw [← ev, ev2, ew]; rfl) hwj
        | nil =>
          refine iteF ?_
          dsimp only [tNext]
          obtain ⟨Q2, met2, ev2, LV2, fe2⟩ := T.2 er
          have sl : seen.length ≤ 8100 := by
            have h1 := V13.len_le sd (ys := allP A.length C.length) fun x hx => LV.sub _ ((LV.seen x).mp hx)
            rw [allP_len] at h1
            have := Nat.mul_le_mul px.l1 qx.l1
            omega
          have hk10 := s10 _ _ hkF
          have hs10 := s10 _ _ hsAF
          have pk10 := Paired.mapP pkF fun _ _ z => z.mono (TKeep.same s10)
          have pp10 : Paired (PqAt H10) ps seen := Paired.mapP ppF fun _ _ z => s10 _ _ z
          have l2 : kvs2.length ≤ latest.length * 72 := by
            rw [Paired.length pk10]
            omega
          refine s_set (r_cbT (r_lockE hk10 True.intro fun od2 => ?_))
          have hcl : (upd H10 c (.frz od2 (.dT kvs2))) c = some (.frz od2 (.dT kvs2)) := upd_same
          have s0l : Same H (upd H10 c (.frz od2 (.dT kvs2))) := fun x o e => by
            rw [upd_ne (ne_of_none e nc0)]
            exact s010 _ _ e
          have hsl : (upd H10 c (.frz od2 (.dT kvs2))) sA = some (.lst (ps.map V.ref)) := by
            rw [upd_ne sAc]
            exact hs10
          have tkl : TKeep H10 (upd H10 c (.frz od2 (.dT kvs2))) := fun x ys e => by
            rw [upd_ne (fun z => by rw [z, hk10] at e; cases e)]
            exact e
          have pkl := Paired.mapP pk10 fun _ _ z => z.mono tkl
          have ppl : Paired (PqAt (upd H10 c (.frz od2 (.dT kvs2)))) ps seen := Paired.mapP pp10 fun _ _ z => tkl _ _ z
          generalize (upd H10 c (.frz od2 (.dT kvs2))) = HL at hcl s0l hsl pkl ppl ⊢
          refine r_lcI (val_var (v := .ref c) rfl) hcl (fun D i H' => ∃ zs : List (Addr × List Key × Addr × V), Same HL H' ∧ H' D = some (.lst (zs.map fun z => V.ref z.1)) ∧ (∀ z ∈ zs, H' z.1 = some (.tup [.ref z.2.2.1, z.2.2.2]) ∧ H' z.2.2.1 = some (.tup (z.2.1.map kV))) ∧ (zs.map fun z => (z.2.1, z.2.2.2)) = (kvs2.take i).filter (fun kv : List Key × V => !inK seen kv.1) ∧ zs.length ≤ i) ?_ ?_ ?_ ?_
          · exact fun D nD => ⟨[], same_upd nD, upd_same, (fun z h => nomatch h), rfl, Nat.le_refl _⟩
          · exact fun D i H' _ nD ⟨_, s, _⟩ => s _ _ hcl
          · rintro D i T2 k2 v2 q2 H2 nD ek2 ⟨zs, sz, hD, hz2, ez, lz⟩ nT hq2
            obtain ⟨e, ee, ek0, tw, rfl, hw⟩ := paired_at i pkl ek2
            have ek0 : k2 = kP e.1 := ek0
            subst ek0
            have il : i < kvs2.length := (List.getElem?_eq_some_iff.mp ek2).1
            have sT := same_upd (o := .tup [.ref q2, .ref tw]) nT
            refine g_pair (p := T2) upd_same rfl ?_
            generalize (upd H2 T2 (.tup [.ref q2, .ref tw])) = H3 at sT ⊢
            refine ⟨rfl, ?_⟩
            have fm := inK_eq seen e.1
            have pp3 : Paired (PqAt H3) ps seen := Paired.mapP ppl fun _ _ z => sT _ _ (sz _ _ z)
            refine r_testT (r_op ((val_var (v := .ref q2) rfl) _ ((val_var (v := .ref sA) rfl) _ ⟨pairE e.1, seen.map pairE, Dp.tup (SqT.of (sT _ _ hq2)) (.cons (.int _) (.cons (.int _) .nil)), .lst (SqL.of (sT _ _ (sz _ _ hsl))) (dp_pairs pp3), pairP_shaped _, pairs_shaped _, _, rfl, ?_⟩)))
            rw [pairs_any]
            have ft : (kvs2.take (i + 1)).filter (fun kv : List Key × V => !inK seen kv.1) = (kvs2.take i).filter (fun kv : List Key × V => !inK seen kv.1) ++ if e.1 ∈ seen then [] else [(kP e.1, .ref tw)] := by
              rw [List.take_add_one, ek2, List.filter_append]
              congr 1
              show List.filter _ [(kP e.1, V.ref tw)] = _
              by_cases ms : e.1 ∈ seen
              · rw [if_pos ms, List.filter_cons_of_neg (by show ¬ (!inK seen (kP e.1)) = true; rw [fm, decide_eq_true ms]; exact Bool.false_ne_true)]
                rfl
              · rw [if_neg ms, List.filter_cons_of_pos (by show (!inK seen (kP e.1)) = true; rw [fm, decide_eq_false ms]; rfl)]
                rfl
            by_cases ms : e.1 ∈ seen
            · rw [decide_eq_true ms]
              refine iteF ⟨zs, sz.trans sT, sT _ _ hD, fun z hz => ⟨sT _ _ (hz2 z hz).1, sT _ _ (hz2 z hz).2⟩, ?_, by omega⟩
              rw [ft, if_pos ms, List.append_nil, ez]
            · rw [decide_eq_false ms]
              refine iteT ?_
              refine r_tup2 (va := .ref q2) (vb := .ref tw) (val_var rfl) (val_var rfl) fun t4 H5 s5 n5 h5 => ?_
              have hD5 := s5 _ _ (sT _ _ hD)
              have tk5 : TKeep H5 (upd H5 D (.lst ((zs.map fun z => V.ref z.1) ++ [.ref t4]))) := fun x ys h => by
                rw [upd_ne (fun z => by rw [z, hD5] at h; cases h)]
                exact h
              refine ⟨_, hD5, by rw [List.length_map, sizeLine_eq]; omega, zs ++ [(t4, kP e.1, q2, .ref tw)], fun x o h => ?_, ?_, fun z hz => ?_, ?_, ?_⟩
              · rw [upd_ne (ne_of_none h nD)]
                exact s5 _ _ (sT _ _ (sz _ _ h))
              · rw [upd_same, List.map_append]
                rfl
              · rcases List.mem_append.mp hz with hz | hz
                · exact ⟨tk5 _ _ (s5 _ _ (sT _ _ (hz2 z hz).1)), tk5 _ _ (s5 _ _ (sT _ _ (hz2 z hz).2))⟩
                · rw [List.mem_singleton.mp hz]
                  exact ⟨tk5 _ _ h5, tk5 _ _ (s5 _ _ (sT _ _ hq2))⟩
              · rw [ft, if_neg ms, List.map_append, ez]
                rfl
              · rw [List.length_append]
                show zs.length + 1 ≤ i + 1
                omega
          · rintro D H2 nD ⟨zs, sz, hD, hz2, ez, lz⟩
            rw [List.take_length] at ez
            have hc2 := sz _ _ hcl
            have Dc : D ≠ c := fun z => by
              rw [z, hcl] at nD
              cases nD
            have tk3 : TKeep H2 (upd H2 c (.dT kvs2)) := fun x ys h => by
              rw [upd_ne (fun z => by rw [z, hc2] at h; cases h)]
              exact h
            refine ⟨hc2, D, zs, rfl, by rw [upd_ne Dc]; exact hD, fun z hz => ⟨tk3 _ _ (hz2 z hz).1, tk3 _ _ (hz2 z hz).2⟩, fun dL2 nd2 => ?_⟩
            have s03 : Same H (upd H2 c (.dT kvs2)) := fun x o h => by
              rw [upd_ne (ne_of_none h nc0)]
              exact sz _ _ (s0l _ _ h)
            have hs3 : (upd H2 c (.dT kvs2)) sA = some (.lst (ps.map V.ref)) := by
              rw [upd_ne sAc]
              exact sz _ _ hsl
            have pk3 := Paired.mapP pkl fun _ _ z => (z.mono (TKeep.same sz)).mono tk3
            have pp3 : Paired (PqAt (upd H2 c (.dT kvs2))) ps seen := Paired.mapP ppl fun _ _ z => tk3 _ _ (sz _ _ z)
            generalize (upd H2 c (.dT kvs2)) = H3 at nd2 s03 hs3 pk3 pp3 ⊢
            have pF := ek_filter (f := fun kv : List Key × V => !inK seen kv.1) (g := fun e : En => !decide (e.1 ∈ seen)) (fun kv e h => by
              show (!inK seen kv.1) = !decide (e.1 ∈ seen)
              rw [h.1]
              rw [inK_eq]) pk3
            rw [ez]
            generalize hF : kvs2.filter (fun kv : List Key × V => !inK seen kv.1) = F at pF
            have lF : F.length ≤ kvs2.length := by
              rw [← hF]
              exact List.length_filter_le _ _
            have pF : Paired (Ek H3) F (V13.later r.2 seen) := pF
            rw [mergeT_nil (ek_nodup pF LV2.nodL)]
            have s4 := same_upd (o := .dT F) nd2
            have h4 : (upd H3 dL2 (.dT F)) dL2 = some (.dT F) := upd_same
            generalize (upd H3 dL2 (.dT F)) = H4 at s4 h4 ⊢
            have pF4 := Paired.mapP pF fun _ _ z => z.mono (TKeep.same s4)
            show tAsg _ _ _ (sgF (.ref p) (.ref q) (some (.ref dL2)) (some (.ref sA)) (some (.ref M)) (some (.ref c)) v6 v7 v8 v9 v10 v11 v12 v13) H4
            refine e_set (r_op ((val_var (v := .ref sA) rfl) _ (r_cb1 (va := .ref dL2) (val_var rfl) ⟨dL2, F, rfl, .inl h4, fun lk bs nlk isk => ?_⟩)))
            have s5 := same_upd (o := .lst (bs.map V.ref)) nlk
            have h5 : (upd H4 lk (.lst (bs.map V.ref))) lk = some (.lst (bs.map V.ref)) := upd_same
            have pq4 := isk_pq pF4 isk
            generalize (upd H4 lk (.lst (bs.map V.ref))) = H5 at s5 h5 ⊢
            have lb : bs.length = (V13.later r.2 seen).length := by
              rw [Paired.length pq4, List.length_map]
            have lps : ps.length = seen.length := Paired.length pp3
            refine ⟨sA, lk, _, _, rfl, rfl, s5 _ _ (s4 _ _ hs3), h5, ?_, fun sA2 nsA2 => ?_⟩
            · rw [List.length_map, List.length_map, sizeLine_eq, lb, ← Paired.length pF]
              omega
            have s6 := same_upd (o := .lst (ps.map V.ref ++ bs.map V.ref)) nsA2
            have s46 := s5.trans s6
            have nL2 : H dL2 = none := s03.free nd2
            refine ⟨dL2, sA2, F, ps ++ bs, V13.later r.2 seen, seen ++ (V13.later r.2 seen).map (·.1), Q2, met2, k + 1, _, _, _, _, _, _, _, _, _, _, rfl, ((s03.trans s4).trans s46), nL2, s46 _ _ h4, Paired.mapP pF4 fun _ _ z => z.mono (TKeep.same s46), by rw [upd_same, List.map_append], paired_cat (Paired.mapP pp3 fun _ _ z => s46 _ _ (s4 _ _ z)) (Paired.mapP pq4 fun _ _ z => s46 _ _ z), LV2, ?_, by rw [← ev2]; exact ev, fe2, by omega⟩
            rw [List.nodup_append]
            refine ⟨sd, LV2.nodL, fun a ha b hb e => ?_⟩
            subst e
            obtain ⟨x, hx, rfl⟩ := List.mem_map.mp hb
            have := (List.mem_filter.mp hx).2
            rw [decide_eq_true ha] at this
            cases this
end
end K5
namespace K5
open PySem PySem.Spec PyProof.Rows L2
/-! ### draws -/
section
variable {K : PySem.W.Frag} {σ : L2.St} {H : Hp} {Q : VK} {D : L2.Ends} {te ta tb tc td : TE} {va vb vc vd : V}
theorem r_call3T {sp : Sp} {E : XK} (h : ta σ H fun x H1 => tb σ H1 fun y H2 => tc σ H2 fun z H3 => sp [x, y, z] H3 Q E) : tCall sp [] E (tCons ta (tCons tb (tCons tc tNil))) σ H Q := h
theorem r_call2T {sp : Sp} {E : XK} (h : ta σ H fun x H1 => tb σ H1 fun y H2 => sp [x, y] H2 Q E) : tCall sp [] E (tCons ta (tCons tb tNil)) σ H Q := h
theorem r_lst4 (ha : Val ta σ H va) (hb : Val tb σ H vb) (hc : Val tc σ H vc) (hd : Val td σ H vd) (k : ∀ t H2, Same H H2 → H t = none → H2 t = some (.lst [va, vb, vc, vd]) → Q (.ref t) H2) : tLst (tCons ta (tCons tb (tCons tc (tCons td tNil)))) σ H Q := ha _ (hb _ (hc _ (hd _ ⟨by show 4 ≤ sizeLine; decide, fun t nt => k t _ (same_upd nt) nt upd_same⟩)))
theorem r_lst3 (ha : Val ta σ H va) (hb : Val tb σ H vb) (hc : Val tc σ H vc) (k : ∀ t H2, Same H H2 → H t = none → H2 t = some (.lst [va, vb, vc]) → Q (.ref t) H2) : tLst (tCons ta (tCons tb (tCons tc tNil))) σ H Q := ha _ (hb _ (hc _ ⟨by show 3 ≤ sizeLine; decide, fun t nt => k t _ (same_upd nt) nt upd_same⟩))
theorem r_then {k : V → Hp → VK → Prop} (h : ta σ H fun x H1 => k x H1 Q) : tThen ta k σ H Q := h
end
/-- a box that goes on -/
structure Bk (H H' : Hp) (b : Addr) (q p n : Int) : Prop where
  sb : SameBut b H H'
  hb : H' b = some (.lst (bx p q n))
  bo : Box p q n
theorem Bk.same {H H' H2 : Hp} {b : Addr} {q p n : Int} (B : Bk H H' b q p n) (s : Same H' H2) : Bk H H2 b q p n := ⟨B.sb.trans (SameBut.of_same s), s _ _ B.hb, B.bo⟩
theorem Bk.start {H : Hp} {b : Addr} {q p n : Int} (hb : H b = some (.lst (bx p q n))) (B : Box p q n) : Bk H H b q p n := ⟨SameBut.of_same (Same.refl _), hb, B⟩
theorem Bk.trans {H H1 H2 : Hp} {b : Addr} {q p n p2 n2 : Int} (x : Bk H H1 b q p n) (y : Bk H1 H2 b q p2 n2) : Bk H H2 b q p2 n2 := ⟨x.sb.trans y.sb, y.hb, y.bo⟩
theorem Bk.free {H H' : Hp} {b : Addr} {q p n : Int} (B : Bk H H' b q p n) {x : Addr} (n0 : H' x = none) : H x = none := by
  cases e : H x with
  | none => rfl
  | some o =>
    by_cases c : x = b
    · rw [c, B.hb] at n0
      cases n0
    · rw [B.sb _ _ c e] at n0
      cases n0
theorem Bk.tk {H H' : Hp} {b : Addr} {q p n p0 n0 : Int} (B : Bk H H' b q p n) (h : H b = some (.lst (bx p0 q n0))) : TKeep H H' := TKeep.but B.sb h
/-- a draw -/
theorem r_take {σ : L2.St} {H : Hp} {b : Addr} {p q n m : Int} {tm : TE} {i : Nat} {Q : VK} (hv : Val (tVar i) σ H (.ref b)) (hm : Val tm σ H (.int m)) (hb : H b = some (.lst (bx p q n))) (Bx : Box p q n) (m0 : 0 < m) (m1 : m < 1000000) (hn : n < 1000000)
    (k : ∀ (d p' n' : Int) (H2 : Hp), 0 ≤ d → d < m → n' ≤ n + 1 → Bk H H2 b q p' n' → Q (.int d) H2) : tCall spTake [] E0 (tCons (tVar i) (tCons tm tNil)) σ H Q := by
  refine r_call2 hv hm ?_
  exact ⟨b, m, p, q, n, rfl, hb, Bx, hn, m0, m1, fun d p' n' d0 d1 B le => k d p' n' _ d0 d1 le ⟨SameBut.upd b H _, upd_same, B⟩⟩
theorem ints_of {xs : List Int} : ∀ {ys : List V}, (∀ y ∈ ys, y ∈ xs.map V.int) → ∃ zs : List Int, ys = zs.map V.int ∧ ∀ z ∈ zs, z ∈ xs
  | [], _ => ⟨[], rfl, fun _ h => nomatch h⟩
  | y :: ys, h => by
    obtain ⟨zs, e, g⟩ := ints_of (ys := ys) fun z hz => h z (List.mem_cons_of_mem _ hz)
    obtain ⟨z, hz, rfl⟩ := List.mem_map.mp (h y (List.mem_cons_self ..))
    refine ⟨z :: zs, by rw [List.map_cons, e], fun i hi => ?_⟩
    rcases List.mem_cons.mp hi with rfl | hi
    · exact hz
    · exact g i hi
theorem strs_of {xs : List Str} : ∀ {ys : List V}, (∀ y ∈ ys, y ∈ xs.map V.str) → ∃ zs : List Str, ys = zs.map V.str ∧ ∀ z ∈ zs, z ∈ xs
  | [], _ => ⟨[], rfl, fun _ h => nomatch h⟩
  | y :: ys, h => by
    obtain ⟨zs, e, g⟩ := strs_of (ys := ys) fun z hz => h z (List.mem_cons_of_mem _ hz)
    obtain ⟨z, hz, rfl⟩ := List.mem_map.mp (h y (List.mem_cons_self ..))
    refine ⟨z :: zs, by rw [List.map_cons, e], fun i hi => ?_⟩
    rcases List.mem_cons.mp hi with rfl | hi
    · exact hz
    · exact g i hi
/-- _law_some of whole numbers -/
theorem some_ints {ys rest : List V} {pool : List Int} (pn : pool.Nodup) (yp : (ys ++ rest).Perm (pool.map V.int)) : ∃ zs : List Int, ys = zs.map V.int ∧ zs.Nodup ∧ ∀ z ∈ zs, z ∈ pool := by
  obtain ⟨zs, rfl, zr⟩ := ints_of (xs := pool) (ys := ys) fun y hy => yp.mem_iff.mp (List.mem_append_left _ hy)
  refine ⟨zs, rfl, ?_, zr⟩
  have nd : (pool.map V.int).Nodup := List.pairwise_map.mpr (pn.imp fun {a b} n e => n (by injection e))
  have h := (yp.nodup_iff.mpr nd)
  have h := (List.nodup_append.mp h).1
  exact (List.pairwise_map.mp h).imp fun {a b} n e => n (by rw [e])
theorem some_strs {ys rest : List V} {pool : List Str} (pn : pool.Nodup) (yp : (ys ++ rest).Perm (pool.map V.str)) : ∃ zs : List Str, ys = zs.map V.str ∧ zs.Nodup ∧ ∀ z ∈ zs, z ∈ pool := by
  obtain ⟨zs, rfl, zr⟩ := strs_of (xs := pool) (ys := ys) fun y hy => yp.mem_iff.mp (List.mem_append_left _ hy)
  refine ⟨zs, rfl, ?_, zr⟩
  have nd : (pool.map V.str).Nodup := List.pairwise_map.mpr (pn.imp fun {a b} n e => n (by injection e))
  have h := (yp.nodup_iff.mpr nd)
  have h := (List.nodup_append.mp h).1
  exact (List.pairwise_map.mp h).imp fun {a b} n e => n (by rw [e])
theorem rising_lt : ∀ {l : List Int}, l.Pairwise (· ≤ ·) → l.Nodup → l.Pairwise (· < ·)
  | [], _, _ => .nil
  | a :: l, h, n => by
    obtain ⟨h1, h2⟩ := List.pairwise_cons.mp h
    obtain ⟨n1, n2⟩ := List.nodup_cons.mp n
    refine List.pairwise_cons.mpr ⟨fun b hb => ?_, rising_lt h2 n2⟩
    have := h1 b hb
    have : a ≠ b := fun e => n1 (e ▸ hb)
    omega
theorem rising_pw : ∀ {l : List Str} {p : Str}, risingS p l = true → (p :: l).Pairwise fun a b => ¬ b.cps.toList < a.cps.toList
  | [], p, _ => List.pairwise_singleton _ _
  | x :: r, p, h => by
    unfold risingS at h
    rw [Bool.and_eq_true, Bool.not_eq_true', ltCps_eq] at h
    have h1 : ¬ x.cps.toList < p.cps.toList := of_decide_eq_false h.1
    have ih := rising_pw h.2
    refine List.pairwise_cons.mpr ⟨fun y hy => ?_, ih⟩
    rcases List.mem_cons.mp hy with rfl | hy
    · exact h1
    · have h2 := (List.pairwise_cons.mp ih).1 y hy
      exact List.le_trans (show p.cps.toList ≤ x.cps.toList from h1) (show x.cps.toList ≤ y.cps.toList from h2)
theorem sorted_pw {l : List Str} (h : sortedS l = true) : l.Pairwise fun a b => ¬ b.cps.toList < a.cps.toList := by
  cases l with
  | nil => exact .nil
  | cons x r => exact rising_pw h
theorem sorted_lt {l : List Str} (h : sortedS l = true) (nd : l.Nodup) : l.Pairwise SLt :=
  ((sorted_pw h).and nd).imp fun {a b} h => by
    have h1 : a.cps.toList ≤ b.cps.toList := h.1
    by_cases h2 : a.cps.toList < b.cps.toList
    · exact h2
    · have e : a.cps.toList = b.cps.toList := List.le_antisymm h1 h2
      refine absurd ?_ h.2
      cases a
      cases b
      congr
      exact Array.toList_inj.mp e
end K5
namespace K5
open PySem PySem.Spec PyProof.Rows L2
/-! ### a drawn pact -/
abbrev nmPD : List Str := ["_law_box_here", "_law_doors", "_law_many", "_law_found", "_law_number", "_law_state", "_law_door", "_law_worth", "_law_some_here", "_law_outcomes_here", "_law_answer"]
theorem sc__law_pact_drawn : FnScope nmPD ["_law_box_here", "_law_doors"] (defScope s__law_pact_drawn) := ⟨rfl, rfl, rfl, by decide +kernel, rfl, by decide +kernel, by decide +kernel⟩
/-- a state as it is drawn -/
def RowL (m : Nat) (r : RwD) : Prop := RowX 2 m r ∧ r.1.1 ∈ poolD ∧ r.2.length ≤ 4
def spPD : Sp := fun vs H Q _ => ∃ (b D : Addr) (ds : List Str) (p q n : Int), vs = [.ref b, .ref D] ∧ H b = some (.lst (bx p q n)) ∧ Box p q n ∧ H D = some (.lst (ds.map V.str)) ∧ ds.Nodup ∧ (∀ z ∈ ds, z ∈ poolD) ∧ ds.length ≤ 3 ∧ n + 4000 < 1000000 ∧
  ∀ (H' : Hp) (r : Addr) (A : List (List RwD)) (p' n' : Int), Bk H H' b q p' n' → n' ≤ n + 4000 → PcAt H' r A → 0 < A.length → A.length ≤ 4 → (∀ s ∈ A, (s.map (·.1)).Pairwise RLt ∧ s.length ≤ 6 ∧ ∀ r ∈ s, RowL A.length r) → Q (.ref r) H'
def sgD (b D : V) (v2 v3 v4 v5 v6 v7 v8 v9 v10 : Option V) : L2.St := [some b, some D, v2, v3, v4, v5, v6, v7, v8, v9, v10]
theorem OsAt.tk {H H' : Hp} (k : TKeep H H') {ts : List Addr} {os : List (Int × Int)} (h : OsAt H ts os) : OsAt H' ts os := Paired.mapP h fun _ _ e => k _ _ e
theorem draws_lc {K : PySem.W.Frag} {b l : Addr} {D : V} {w : Nat} {v3 v4 v5 v6 v7 v9 v10 : Option V} {is : List Int} {H : Hp} {p q n : Int} {Q : VK} (bl : b ≠ l) (hl : H l = some (.lst (is.map V.int))) (len : is.length ≤ 6) (hb : H b = some (.lst (bx p q n))) (Bx : Box p q n) (w0 : 0 < w) (w4 : w ≤ 10) (hn : n + 30 < 1000000)
    (k : ∀ (H' : Hp) (r : Addr) (ts : List Addr) (os : List (Int × Int)) (p' n' : Int), Bk H H' b q p' n' → H r = none → H' r = some (.lst (ts.map V.ref)) → OsAt H' ts os → os.map (·.1) = is → (∀ o ∈ os, 0 ≤ o.2 ∧ o.2 < (w : Int)) → n' ≤ n + 6 → Q (.ref r) H') :
    tLc (iList K (tVar 8)) (gName 10) tYes (tTup (tCons (tVar 10) (tCons (tCall spTake [] E0 (tCons (tVar 0) (tCons (tVar 2) tNil))) tNil))) [10] (sgD (.ref b) D (some (.int (w : Nat))) v3 v4 v5 v6 v7 (some (.ref l)) v9 v10) H Q := by
  dsimp only [tLc, iList]
  refine (val_var (v := .ref l) rfl) _ ⟨l, rfl, ⟨_, SqL.of hl⟩, fun M nM => ?_⟩
  have bM : b ≠ M := ne_of_none hb nM
  have lM : l ≠ M := ne_of_none hl nM
  refine lc_list (xs := is.map V.int) (fun j H2 => ∃ (ts : List Addr) (os : List (Int × Int)) (p' n' : Int), Bk H H2 b q p' n' ∧ H2 M = some (.lst (ts.map V.ref)) ∧ OsAt H2 ts os ∧ os.map (·.1) = is.take j ∧ (∀ o ∈ os, 0 ≤ o.2 ∧ o.2 < (w : Int)) ∧ n' ≤ n + j)
    ⟨[], [], p, n, (Bk.start hb Bx).same (same_upd nM), upd_same, .nil, rfl, (fun _ h => nomatch h), by omega⟩ (fun j H2 _ ⟨ts, os, p', n', s2, _⟩ => SqL.of (s2.sb _ _ bl.symm hl)) (fun j x H2 hj hI => ?_) fun H2 hI => ?_
  · obtain ⟨ts, os, p', n', B2, hM, a, em, ev, le2⟩ := hI
    obtain ⟨i, ei, rfl⟩ : ∃ i, is[j]? = some i ∧ x = .int i := by
      rw [List.getElem?_map] at hj
      cases e : is[j]? with
      | none => rw [e] at hj; cases hj
      | some i => rw [e] at hj; exact ⟨i, rfl, (Option.some.inj hj).symm⟩
    have jl : j < is.length := (List.getElem?_eq_some_iff.mp ei).1
    refine ⟨rfl, ?_⟩
    try dsimp only [tYes]
    rw [if_pos rfl]
    refine r_tupT ((val_var (v := .int i) rfl) _ (r_take (val_var (v := .ref b) rfl) (val_var (v := .int (w : Nat)) rfl) B2.hb B2.bo (by omega) (by omega) (by omega) fun d p3 n3 H3 d0 d1 le3 B3 => ⟨by show 2 ≤ sizeLine; decide, fun t nt => ?_⟩))
    have st := same_upd (o := .tup [.int i, .int d]) nt
    have ht : (upd H3 t (.tup [.int i, .int d])) t = some (.tup [.int i, .int d]) := upd_same
    have B4 := (B2.trans B3).same st
    have hM4 := st _ _ (B3.sb _ _ bM.symm hM)
    have tk3 := (B3.tk B2.hb)
    generalize (upd H3 t (.tup [.int i, .int d])) = H4 at st ht B4 hM4 ⊢
    have tk : TKeep H4 (upd H4 M (.lst (ts.map V.ref ++ [.ref t]))) := fun x ys e => by
      rw [upd_ne (fun z => by rw [z, hM4] at e; cases e)]
      exact e
    have lt := Paired.length a
    have lo : os.length ≤ j := by
      have := congrArg List.length em
      rw [List.length_map, List.length_take] at this
      omega
    refine ⟨_, hM4, by rw [List.length_map, lt]; exact Nat.lt_of_le_of_lt (show _ ≤ 100 by omega) (by decide), ts ++ [t], os ++ [(i, d)], p3, n3, ⟨fun x o nx e => ?_, ?_, B4.bo⟩, by rw [upd_same, List.map_append]; rfl, paired_app (Paired.mapP a fun _ _ e => tk _ _ (st _ _ (tk3 _ _ e))) (tk _ _ ht), ?_, ?_, by omega⟩
    · rw [upd_ne (ne_of_none e nM)]
      exact B4.sb _ _ nx e
    · rw [upd_ne bM]
      exact B4.hb
    · rw [List.map_append, em, List.take_add_one, ei]
      rfl
    · intro o ho
      rcases List.mem_append.mp ho with ho | ho
      · exact ev o ho
      · rw [List.mem_singleton.mp ho]
        exact ⟨d0, d1⟩
  · obtain ⟨ts, os, p', n', B2, hM, a, em, ev, le2⟩ := hI
    rw [List.length_map] at em le2
    rw [List.take_length] at em
    exact k H2 M ts os p' n' B2 nM hM a em ev (by omega)
structure Rw (HB H' : Hp) (b R : Addr) (q p n : Int) (ts : List Addr) (rs : List RwD) (m : Nat) : Prop where
  k : ∀ x o, x ≠ b → x ≠ R → HB x = some o → H' x = some o
  hb : H' b = some (.lst (bx p q n))
  bo : Box p q n
  hr : H' R = some (.lst (ts.map V.ref))
  rr : Paired (RowD H') ts rs
  pw : (rs.map (·.1)).Pairwise RLt
  ok : ∀ r ∈ rs, RowL m r
theorem Rw.step {HB H1 H2 : Hp} {b R : Addr} {q p n p2 n2 : Int} {ts : List Addr} {rs : List RwD} {m : Nat} (x : Rw HB H1 b R q p n ts rs m) (bR : b ≠ R) (B : Bk H1 H2 b q p2 n2) : Rw HB H2 b R q p2 n2 ts rs m :=
  ⟨fun y o a c e => B.sb _ _ a (x.k y o a c e), B.hb, B.bo, B.sb _ _ bR.symm x.hr, Paired.mapP x.rr fun _ _ e => e.mono (B.tk x.hb), x.pw, x.ok⟩
theorem Rw.same {HB H1 H2 : Hp} {b R : Addr} {q p n : Int} {ts : List Addr} {rs : List RwD} {m : Nat} (x : Rw HB H1 b R q p n ts rs m) (bR : b ≠ R) (s : Same H1 H2) : Rw HB H2 b R q p n ts rs m :=
  ⟨fun y o a c e => s _ _ (x.k y o a c e), s _ _ x.hb, x.bo, s _ _ x.hr, Paired.mapP x.rr fun _ _ e => e.mono (TKeep.same s), x.pw, x.ok⟩
theorem Rw.push {HB H1 : Hp} {b R t : Addr} {q p n : Int} {ts : List Addr} {rs : List RwD} {m : Nat} {r : RwD} (x : Rw HB H1 b R q p n ts rs m) (bR : b ≠ R) (ht : RowD H1 t r) (ok : RowL m r) (bef : ∀ y ∈ rs, RLt y.1 r.1) : Rw HB (upd H1 R (.lst (ts.map V.ref ++ [.ref t]))) b R q p n (ts ++ [t]) (rs ++ [r]) m := by
  have tk : TKeep H1 (upd H1 R (.lst (ts.map V.ref ++ [.ref t]))) := fun y ys e => by
    rw [upd_ne (fun z => by rw [z, x.hr] at e; cases e)]
    exact e
  refine ⟨fun y o a c e => by rw [upd_ne c]; exact x.k y o a c e, by rw [upd_ne bR]; exact x.hb, x.bo, by rw [upd_same, List.map_append]; rfl, paired_app (Paired.mapP x.rr fun _ _ e => e.mono tk) (ht.mono tk), ?_, fun w hw => ?_⟩
  · rw [List.map_append]
    refine pw_snoc x.pw fun y hy => ?_
    obtain ⟨y', h1, rfl⟩ := List.mem_map.mp hy
    exact bef y' h1
  · rcases List.mem_append.mp hw with hw | hw
    · exact x.ok w hw
    · rw [List.mem_singleton.mp hw]
      exact ok
theorem e_forR {te : TE} {g : TG} {tb : TS} {D : L2.Ends} {σ : L2.St} {H : Hp} {n : Nat} (hv : Val te σ H (.int (n : Nat))) (hn : n ≤ 1000000) (Pv : Nat → L2.St → Hp → Prop) (h0 : Pv 0 σ H) (hs : ∀ i σ H, i < n → Pv i σ H → g (.int (i : Nat)) σ H fun σ2 H2 => tb { D with nx := Pv (i + 1), ct := Pv (i + 1), bk := D.nx } σ2 H2) (hd : ∀ σ H, Pv n σ H → D.nx σ H) : tFor (iRng1 (tCons te tNil)) g tb D σ H := by
  refine hv _ ⟨(n : Nat), rfl, by omega, by omega, ?_⟩
  show ∃ W : Nat → Nat → L2.St → Hp → Prop, _
  refine for_range (lo := 0) (n := ((n : Nat) : Int).toNat) Pv h0 (fun i σ H hi p => ?_) fun σ H p => hd σ H p
  have e : (0 : Int) + ((i : Nat) : Int) = ((i : Nat) : Int) := by omega
  rw [e]
  exact hs i σ H hi p
section
variable {P : Program} {w : World} {K : PySem.W.Frag} {mg : Str → Option Value} {base : Heap}
theorem ok_pact_drawn {f fT fS : Addr} {fd dT dS : FuncData} (B : Bt mg) (m_sorted : mg "sorted" = none) (D : Df K mg "_law_pact_drawn" s__law_pact_drawn f fd ["_law_box_here", "_law_doors"]) (DT : Df K mg "_law_take" sTake fT dT ["_law_box_here", "_law_many"]) (DS : Df K mg "_law_some" s__law_some fS dS ["_law_box_here", "_law_items", "_law_many"]) : FnOk P w K mg base CX0 3 f fd ["_law_box_here", "_law_doors"] spPD := by
  have GT : FnOk P w K mg base CX0 1 fT dT ["_law_box_here", "_law_many"] spTake := ok_take (CX := CX0) DT.F B.m_int
  have GS : FnOk P w K mg base CX0 2 fS dS ["_law_box_here", "_law_items", "_law_many"] (spSome K) := ok_some B DS DT
  refine D.F.ok sc__law_pact_drawn (fun vs H Q E h => ?_) (fun cdv A0 outer s H vs Q E hr h => ?_)
  · obtain ⟨b, D, ds, p, q, n, rfl, _⟩ := h
    rfl
  · obtain ⟨b, Dl, ds, p, q, n, rfl, hb, Bx, hD, dnd, dpool, dl, hn, k⟩ := h
    have S := sc__law_pact_drawn
    refine ⟨_, (pss_cons (ps_asg (pe_tup (pa_cons (pe_op op_add pe_int (pe_call GT (hr.mono (by decide)) (by rfl) DT.g DT.F.kp DT.b .nil pass0 (pa_cons (pv 0) (pa_cons pe_int pa_nil)))) (pa_cons (pe_lst pa_nil) pa_nil))) (pg_tup (by rfl) (pgs_cons (pg_name (i := 2) S.nd rfl (.inr rfl)) (pgs_cons (pg_name (i := 3) S.nd rfl (.inl rfl)) pgs_nil))))
      (pss_cons (ps_for PassesOwn.never rfl (pi_range1 (by rfl) B.m_range (pa_cons (pv 2) pa_nil)) (pg_name (i := 4) S.nd rfl (.inl rfl))
        (pss_cons (ps_set (i := 5) S.nd rfl (.inl rfl) (pe_lst pa_nil))
      (pss_cons (ps_for PassesOwn.never rfl (pi_list (pe_callB cr_sortedS (by rfl) m_sorted (by decide +kernel) (pa_cons (pv 1) pa_nil))) (pg_name (i := 6) S.nd rfl (.inl rfl))
        (pss_one (ps_for PassesOwn.never rfl (pi_range1 (by rfl) B.m_range (pa_cons pe_int pa_nil)) (pg_name (i := 7) S.nd rfl (.inl rfl))
        (pss_cons (ps_set (i := 8) S.nd rfl (.inl rfl) (pe_callB cr_sorted (by rfl) m_sorted (by decide +kernel) (pa_cons (pe_call GS (hr.mono (by decide)) (by rfl) DS.g DS.F.kp DS.b .nil pass0 (pa_cons (pv 0) (pa_cons (pe_lst (pa_cons (pe_un un_neg pe_int) (pa_cons (pe_un un_neg pe_int) (pa_cons pe_int (pa_cons pe_int pa_nil))))) (pa_cons (pe_op op_add pe_int (pe_call GT (hr.mono (by decide)) (by rfl) DT.g DT.F.kp DT.b .nil pass0 (pa_cons (pv 0) (pa_cons pe_int pa_nil)))) pa_nil)))) pa_nil)))
      (pss_cons (ps_set (i := 9) S.nd rfl (.inl rfl) (pe_tupleOf (by rfl) B.m_tuple (pe_lc (own := [("_law_answer", 10)]) (g := gName 10) (tt := tYes) rfl S.nd (pi_list (pv 8)) (blkOk_by (own := [("_law_answer", 10)]) (N := nmPD) (sc := defScope s__law_pact_drawn) (by decide +kernel)) (fun _ _ _ _ _ => pg_name (i := 10) S.nd rfl (Or.inl rfl)) (fun _ _ _ _ _ => pts_nil) (fun _ _ _ _ _ => (pe_tup (pa_cons (pv 10) (pa_cons (pe_call GT (hr.mono (by decide)) (by rfl) DT.g DT.F.kp DT.b .nil pass0 (pa_cons (pv 0) (pa_cons (pv 2) pa_nil))) pa_nil)))))))
      (pss_one (ps_expr (pe_bm PySem.F.plainAttrs_list PySem.F.slot_list_extend PySem.F.type_list_extend mt_extend (pv 5) (pa_cons (pe_op op_rep (pe_lst (pa_cons (pe_tup (pa_cons (pv 6) (pa_cons (pv 7) (pa_cons (pv 9) pa_nil)))) pa_nil)) (pe_toInt (by rfl) B.m_int (pe_cmpR op_gt (pe_call GT (hr.mono (by decide)) (by rfl) DT.g DT.F.kp DT.b .nil pass0 (pa_cons (pv 0) (pa_cons pe_int pa_nil))) pe_int (nomark _)))) pa_nil)))))))))
      (pss_one (ps_expr (pe_bm PySem.F.plainAttrs_list PySem.F.slot_list_append PySem.F.type_list_append mt_append (pv 3) (pa_cons (pe_tupleOf (by rfl) B.m_tuple (pv 5)) pa_nil)))))))
      (pss_one (ps_ret (pe_tupleOf (by rfl) B.m_tuple (pv 3)))))), ?_⟩
    show tSeq _ _ _ (sgD (.ref b) (.ref Dl) none none none none none none none none none) H
    refine s_asg (r_tupT (r_op (val_c _ (r_take (val_var rfl) val_c hb Bx (by decide) (by decide) (by omega) fun d0 p0 n0 H0 d00 d01 le0 B0 => ⟨1, d0, rfl, rfl, r_lst0 fun St H1 s1 nS hS => ?_⟩))))
    refine ⟨by show 2 ≤ sizeLine; decide, fun tt ntt => ?_⟩
    have stt := same_upd (o := .tup [.int (1 + d0), .ref St]) ntt
    obtain ⟨w, ew⟩ : ∃ w : Nat, (1 : Int) + d0 = (w : Int) := ⟨(1 + d0).toNat, by omega⟩
    refine g_pair (x := .int (w : Nat)) (by rw [← ew]; exact upd_same) rfl ?_
    have B2 := (B0.same s1).same stt
    have hS2 := stt _ _ hS
    generalize (upd H1 tt (.tup [.int (1 + d0), .ref St])) = H2 at stt B2 hS2 ⊢
    have bD : b ≠ Dl := fun z => by
      rw [z, hD] at hb
      injection hb with hb
      injection hb with hb
      cases ds with
      | nil => cases hb
      | cons d ds => injection hb with hb _; cases hb
    have bS : b ≠ St := ne_of_none B0.hb nS
    have nS0 : H St = none := B0.free nS
    show tSeq _ _ _ (sgD (.ref b) (.ref Dl) (some (.int (w : Nat))) (some (.ref St)) none none none none none none none) H2
    dsimp only [tSeq]
    refine e_forR (n := w) (val_var rfl) (by omega) (fun i σ H' => ∃ (v4 v5 v6 v7 v8 v9 v10 : Option V) (ps : List Addr) (sts : List (List RwD)) (p' n' : Int), σ = sgD (.ref b) (.ref Dl) (some (.int (w : Nat))) (some (.ref St)) v4 v5 v6 v7 v8 v9 v10 ∧ Bk H H' b q p' n' ∧ H' St = some (.lst (ps.map V.ref)) ∧ Paired (StD H') ps sts ∧ sts.length = i ∧ (∀ s ∈ sts, (s.map (·.1)).Pairwise RLt ∧ s.length ≤ 6 ∧ ∀ r ∈ s, RowL w r) ∧ n' ≤ n + 1 + 200 * i) ?_ ?_ ?_
    · exact ⟨_, _, _, _, _, _, _, [], [], p0, n0, rfl, B2, hS2, .nil, rfl, (fun _ h => nomatch h), by omega⟩
    · rintro i σ H3 hi ⟨v4, v5, v6, v7, v8, v9, v10, ps, sts, p3, n3, rfl, B3, hS3, pps, sl, sok, le3⟩
      have hi : i < w := hi
      have lps := Paired.length pps
      refine s_set (r_lst0 fun R H4 s4 nR hR => ?_)
      have nR0 : H R = none := B3.free nR
      have bR : b ≠ R := ne_of_none B3.hb nR
      have SR : St ≠ R := ne_of_none hS3 nR
      have B4 := B3.same s4
      have hS4 := s4 _ _ hS3
      have pps4 := Paired.mapP pps fun _ _ z => z.mono (TKeep.same s4)
      have hD4 := B4.sb _ _ bD.symm hD
      have DR : Dl ≠ R := ne_of_none (B3.sb _ _ bD.symm hD) nR
      have rk4 : Rw H4 H4 b R q p3 n3 [] [] w := ⟨fun _ _ _ _ h => h, B4.hb, B4.bo, hR, .nil, .nil, (fun _ h => nomatch h)⟩
      show tSeq _ _ _ (sgD (.ref b) (.ref Dl) (some (.int (w : Nat))) (some (.ref St)) (some (.int (i : Nat))) (some (.ref R)) v6 v7 v8 v9 v10) H4
      dsimp only [tSeq]
      refine e_forL (fun L xs HL => ∃ ds2 : List Str, xs = ds2.map V.str ∧ Same H4 HL ∧ H4 L = none ∧ ds2.Pairwise SLt ∧ ds2.Perm ds) (fun Q kq => ?_) (fun ll xs HL hL hR2 => ?_)
      · refine r_cb1 (va := .ref Dl) (val_var rfl) ⟨Dl, ds, rfl, SqL.of hD4, by omega, fun ys p5 perm srt np => ?_⟩
        exact kq p5 _ _ upd_same ⟨ys, rfl, same_upd np, np, sorted_lt srt (perm.nodup_iff.mpr dnd), perm⟩
      obtain ⟨ds2, rfl, sL, nLL, dasc, dperm⟩ := hR2
      have d2p : ∀ z ∈ ds2, z ∈ poolD := fun z hz => dpool z (dperm.mem_iff.mp hz)
      have d2l : ds2.length ≤ 3 := by rw [dperm.length_eq]; exact dl
      have rkL := rk4.same bR sL
      have blL : ll ≠ b := fun z => by rw [z, B4.hb] at nLL; cases nLL
      have rlL : ll ≠ R := fun z => by rw [z, hR] at nLL; cases nLL
      refine ⟨fun j σ H' => ∃ (v6 v7 v8 v9 v10 : Option V) (ts : List Addr) (rs : List RwD) (p' n' : Int), σ = sgD (.ref b) (.ref Dl) (some (.int (w : Nat))) (some (.ref St)) (some (.int (i : Nat))) (some (.ref R)) v6 v7 v8 v9 v10 ∧ Rw HL H' b R q p' n' ts rs w ∧ rs.length ≤ 2 * j ∧ (∀ r ∈ rs, ∃ i, i < j ∧ ds2[i]? = some r.1.1) ∧ n' ≤ n3 + 30 * j, ⟨_, _, _, _, _, [], [], p3, n3, rfl, ⟨fun _ _ _ _ h => h, rkL.hb, rkL.bo, rkL.hr, rkL.rr, rkL.pw, rkL.ok⟩, by show 0 ≤ 2 * 0; omega, (fun _ h => nomatch h), by omega⟩, ?_, ?_, ?_⟩
      · rintro j σ H' _ ⟨_, _, _, _, _, _, _, _, _, _, rk, _⟩
        exact SqL.of (rk.k _ _ blL rlL hL)
      · rintro j x σ H5 hx ⟨v6, v7, v8, v9, v10, ts, rs, p5, n5, rfl, rk5, rl5, dj, le5⟩
        obtain ⟨z, ez, rfl⟩ : ∃ z, ds2[j]? = some z ∧ x = .str z := by
          rw [List.getElem?_map] at hx
          cases e : ds2[j]? with
          | none => rw [e] at hx; cases hx
          | some z => rw [e] at hx; exact ⟨z, rfl, (Option.some.inj hx).symm⟩
        have jl : j < ds2.length := (List.getElem?_eq_some_iff.mp ez).1
        have bz : ∀ y ∈ rs, SLt y.1.1 z := fun y hy => by
          obtain ⟨i, il, ei⟩ := dj y hy
          obtain ⟨il2, e1⟩ := List.getElem?_eq_some_iff.mp ei
          obtain ⟨jl2, e2⟩ := List.getElem?_eq_some_iff.mp ez
          rw [← e1, ← e2]
          exact List.pairwise_iff_getElem.mp dasc i j il2 jl2 il
        dsimp only [gName]
        show tFor _ _ _ _ (sgD (.ref b) (.ref Dl) (some (.int (w : Nat))) (some (.ref St)) (some (.int (i : Nat))) (some (.ref R)) (some (.str z)) v7 v8 v9 v10) H5
        refine e_forR (n := 2) val_c (by decide) (fun c σ H' => ∃ (v7 v8 v9 v10 : Option V) (ts : List Addr) (rs2 : List RwD) (p' n' : Int), σ = sgD (.ref b) (.ref Dl) (some (.int (w : Nat))) (some (.ref St)) (some (.int (i : Nat))) (some (.ref R)) (some (.str z)) v7 v8 v9 v10 ∧ Rw HL H' b R q p' n' ts rs2 w ∧ rs2.length ≤ rs.length + c ∧ (∀ r ∈ rs2, r ∈ rs ∨ (r.1.1 = z ∧ r.1.2 < c)) ∧ n' ≤ n5 + 12 * c) ?_ ?_ ?_
        · exact ⟨_, _, _, _, ts, rs, p5, n5, rfl, rk5, by omega, fun r hr => .inl hr, by omega⟩
        · rintro c σ H6 hc ⟨v7, v8, v9, v10, ts6, rs6, p6, n6, rfl, rk6, rl6, dj6, le6⟩
          show tSeq _ _ _ (sgD (.ref b) (.ref Dl) (some (.int (w : Nat))) (some (.ref St)) (some (.int (i : Nat))) (some (.ref R)) (some (.str z)) (some (.int (c : Nat))) v8 v9 v10) H6
          have neg : ∀ {σ : L2.St} {H : Hp} (i : Int), Val (tUn (rU fun i => V.int (-i)) (tC (.int i))) σ H (.int (-i)) := fun i Q q => ⟨i, rfl, q⟩
          refine s_set (r_cbT (r_call3T ((val_var (v := .ref b) rfl) _ (r_lst4 (neg 2) (neg 1) val_c val_c fun L H7 s7 nL hL => r_op (val_c _ (r_take (val_var rfl) val_c (s7 _ _ rk6.hb) rk6.bo (by decide) (by decide) (by omega) fun d p8 n8 H8 d0 d1 le8 B8 => ⟨1, d, rfl, rfl, ?_⟩))))))
          have bL : b ≠ L := ne_of_none rk6.hb nL
          have hL8 := B8.sb _ _ bL.symm hL
          have rk8 := (rk6.same bR s7).step bR B8
          refine ⟨b, L, ([-2, -1, 0, 1] : List Int).map V.int, (1 + d).toNat, p8, q, n8, by rw [show (((1 + d).toNat : Nat) : Int) = 1 + d by omega], B8.hb, B8.bo, SqL.of hL8, by show (1 + d).toNat ≤ 4; omega, by decide, by omega, fun H9 r ys rest p9 n9 s9 nr hr9 hb9 B9 le9 yl yp => ?_⟩
          obtain ⟨zs, rfl, znd, zp⟩ := some_ints (pool := [-2, -1, 0, 1]) (by decide) yp
          rw [List.length_map] at yl
          have rk9 := rk8.step bR ⟨s9, hb9, B9⟩
          refine ⟨r, zs, rfl, SqL.of hr9, by omega, fun is l perm ris nl => ?_⟩
          have s10 := same_upd (o := .lst (is.map V.int)) nl
          have hl10 : (upd H9 l (.lst (is.map V.int))) l = some (.lst (is.map V.int)) := upd_same
          have rk10 := rk9.same bR s10
          have bl : b ≠ l := ne_of_none hb9 nl
          generalize (upd H9 l (.lst (is.map V.int))) = H10 at s10 hl10 rk10 ⊢
          have ilen : is.length = (1 + d).toNat := by rw [perm.length_eq]; exact yl
          have iasc := rising_lt ris (perm.nodup_iff.mpr znd)
          have iin : ∀ x ∈ is, -2 ≤ x ∧ x < 2 := fun x hx => by
            have := zp x (perm.mem_iff.mp hx)
            simp at this
            omega
          show tSeq _ _ _ (sgD (.ref b) (.ref Dl) (some (.int (w : Nat))) (some (.ref St)) (some (.int (i : Nat))) (some (.ref R)) (some (.str z)) (some (.int (c : Nat))) (some (.ref l)) v9 v10) H10
          refine s_set (r_then (draws_lc bl hl10 (by omega) rk10.hb rk10.bo (by omega) (by omega) (by omega) fun H11 M tsO os p11 n11 B11 nM hM oa om ob le11 => Or.inl ⟨M, _, rfl, SqL.of hM, fun o no => ?_⟩))
          have rk11 := rk10.step bR B11
          have s12 := same_upd (o := .tup (tsO.map V.ref)) no
          have ho : OuAt (upd H11 o (.tup (tsO.map V.ref))) o os := ⟨tsO, upd_same, OsAt.tk (TKeep.same s12) oa⟩
          have rk12 := rk11.same bR s12
          generalize (upd H11 o (.tup (tsO.map V.ref))) = H12 at s12 ho rk12 ⊢
          show tDrop _ _ (sgD (.ref b) (.ref Dl) (some (.int (w : Nat))) (some (.ref St)) (some (.int (i : Nat))) (some (.ref R)) (some (.str z)) (some (.int (c : Nat))) (some (.ref l)) (some (.ref o)) v10) H12
          have olen : os.length = is.length := by rw [← om, List.length_map]
          have row : RowL w ((z, c), os) := by
            refine ⟨⟨hc, by show 0 < os.length; omega, by rw [om]; exact iasc, fun x hx => ?_⟩, d2p z (List.mem_of_getElem? ez), by show os.length ≤ 4; omega⟩
            have h1 := iin x.1 (by rw [← om]; exact List.mem_map_of_mem hx)
            have h2 := ob x hx
            exact ⟨h1.1, h1.2, h2.1, h2.2⟩
          have bef : ∀ y ∈ rs6, RLt y.1 (z, c) := fun y hy => (dj6 y hy).elim (fun h => .inl (bz y h)) fun h => .inr h
          refine e_drop (r_bm (va := .ref R) (val_var rfl) (.inl ⟨rfl, _, SqL.of rk12.hr⟩) (r_op (r_lstT (r_tup3 (va := .str z) (vb := .int (c : Nat)) (vc := .ref o) (val_var rfl) (val_var rfl) (val_var rfl) fun t H13 s13 nt ht => ⟨by show 1 ≤ sizeLine; decide, fun Lx nLx => ?_⟩))))
          have s14 := same_upd (o := .lst [.ref t]) nLx
          have hLx : (upd H13 Lx (.lst [.ref t])) Lx = some (.lst [.ref t]) := upd_same
          have rk14 := (rk12.same bR s13).same bR s14
          have ht14 := s14 _ _ ht
          have ho14 := (ho.mono (TKeep.same s13)).mono (TKeep.same s14)
          generalize (upd H13 Lx (.lst [.ref t])) = H14 at s14 hLx rk14 ht14 ho14 ⊢
          have bLx : b ≠ Lx := fun e => by rw [← e, (rk12.same bR s13).hb] at nLx; cases nLx
          have RLx : R ≠ Lx := fun e => by rw [← e, (rk12.same bR s13).hr] at nLx; cases nLx
          refine r_cbT (r_op (r_take (val_var rfl) val_c rk14.hb rk14.bo (by decide) (by decide) (by omega) fun d2 p15 n15 H15 d20 d21 le15 B15 => val_c _ ⟨d2, 0, rfl, rfl, .inr ⟨_, rfl, ?_⟩⟩))
          have rk15 := rk14.step bR B15
          have hLx15 := B15.sb _ _ bLx.symm hLx
          have tk15 := B15.tk rk14.hb
          have hrow : RowD H15 t ((z, c), os) := ⟨o, tk15 _ _ ht14, ho14.mono tk15⟩
          have tl : ts6.length = rs6.length := Paired.length rk15.rr
          refine ⟨Lx, _, [.ref t], rfl, rfl, hLx15, ?_, ?_, ?_, fun Ly nLy => ?_⟩
          · split <;> decide
          · split <;> decide
          · show 1 * _ ≤ sizeLine
            split <;> decide
          have s16 := same_upd (o := .lst (List.replicate (if decide (0 < d2) = true then (1 : Int) else 0).toNat [V.ref t]).flatten) nLy
          have hLy : (upd H15 Ly (.lst (List.replicate (if decide (0 < d2) = true then (1 : Int) else 0).toNat [V.ref t]).flatten)) Ly = some (.lst (List.replicate (if decide (0 < d2) = true then (1 : Int) else 0).toNat [V.ref t]).flatten) := upd_same
          have rk16 := rk15.same bR s16
          have hrow := hrow.mono (TKeep.same s16)
          generalize (upd H15 Ly (.lst (List.replicate (if decide (0 < d2) = true then (1 : Int) else 0).toNat [V.ref t]).flatten)) = H16 at s16 hLy rk16 hrow ⊢
          by_cases pos : 0 < d2
          · rw [decide_eq_true pos, if_pos rfl] at hLy
            have hLy : H16 Ly = some (.lst [.ref t]) := hLy
            refine ⟨R, Ly, _, _, rfl, rfl, rk16.hr, hLy, by rw [List.length_map, tl]; exact Nat.le_trans (show _ ≤ 100 by show rs6.length + 1 ≤ 100; omega) (by decide), ?_⟩
            refine ⟨_, _, _, _, ts6 ++ [t], rs6 ++ [((z, c), os)], p15, n15, rfl, rk16.push bR hrow row bef, by rw [List.length_append]; show rs6.length + 1 ≤ _; omega, fun r hr => ?_, by omega⟩
            rcases List.mem_append.mp hr with hr | hr
            · exact (dj6 r hr).imp id fun h => ⟨h.1, by omega⟩
            · rw [List.mem_singleton.mp hr]
              exact .inr ⟨rfl, Nat.lt_succ_self _⟩
          · rw [decide_eq_false pos, if_neg Bool.false_ne_true] at hLy
            have hLy : H16 Ly = some (.lst []) := hLy
            refine ⟨R, Ly, _, _, rfl, rfl, rk16.hr, hLy, by rw [List.length_map, tl]; exact Nat.le_trans (show _ ≤ 100 by show rs6.length + 0 ≤ 100; omega) (by decide), ?_⟩
            rw [List.append_nil]
            have same : Same H16 (upd H16 R (.lst (ts6.map V.ref))) := fun x o e => by
              by_cases c : x = R
              · rw [c, upd_same, ← rk16.hr, ← c]
                exact e
              · rw [upd_ne c]
                exact e
            exact ⟨_, _, _, _, ts6, rs6, p15, n15, rfl, rk16.same bR same, by omega, fun r hr => (dj6 r hr).imp id fun h => ⟨h.1, by omega⟩, by omega⟩
        · rintro σ H6 ⟨v7, v8, v9, v10, ts6, rs6, p6, n6, rfl, rk6, rl6, dj6, le6⟩
          refine ⟨_, _, _, _, _, ts6, rs6, p6, n6, rfl, rk6, by omega, fun r hr => ?_, by omega⟩
          rcases dj6 r hr with h | h
          · obtain ⟨i, il, ei⟩ := dj r h
            exact ⟨i, by omega, ei⟩
          · exact ⟨j, by omega, by rw [h.1]; exact ez⟩
      · rintro σ H5 ⟨v6, v7, v8, v9, v10, ts, rs, p5, n5, rfl, rk5, rl5, dj, le5⟩
        rw [List.length_map] at rl5 le5
        have hS5 := rk5.k _ _ bS.symm SR (sL _ _ hS4)
        have tkL : TKeep HL H5 := fun x ys e => rk5.k _ _ (fun z => by rw [z, rkL.hb] at e; cases e) (fun z => by rw [z, rkL.hr] at e; cases e) e
        have pps5 := Paired.mapP pps4 fun _ _ z => (z.mono (TKeep.same sL)).mono tkL
        dsimp only
        refine e_drop (r_bm (va := .ref St) (val_var rfl) (.inl ⟨rfl, _, SqL.of hS5⟩) (r_tupleL (val_var (v := .ref R) rfl) (SqL.of rk5.hr) fun t H6 s6 nt ht => ⟨St, _, _, rfl, rfl, s6 _ _ hS5, by rw [List.length_map, lps]; exact Nat.lt_of_lt_of_le (show sts.length < 100 by omega) (by decide), ?_⟩))
        have hS6 := s6 _ _ hS5
        have tk : TKeep H6 (upd H6 St (.lst (ps.map V.ref ++ [.ref t]))) := fun x ys e => by
          rw [upd_ne (fun z => by rw [z, hS6] at e; cases e)]
          exact e
        refine ⟨_, _, _, _, _, _, _, ps ++ [t], sts ++ [rs], p5, n5, rfl, ⟨fun x o nx e => ?_, ?_, rk5.bo⟩, by rw [upd_same, List.map_append]; rfl, paired_app (Paired.mapP pps5 fun _ _ z => (z.mono (TKeep.same s6)).mono tk) ⟨ts, tk _ _ ht, Paired.mapP rk5.rr fun _ _ z => (z.mono (TKeep.same s6)).mono tk⟩, by rw [List.length_append, sl]; rfl, fun s hs => ?_, by omega⟩
        · rw [upd_ne (ne_of_none e nS0)]
          exact s6 _ _ (rk5.k _ _ nx (ne_of_none e nR0) (sL _ _ (B4.sb _ _ nx e)))
        · rw [upd_ne bS]
          exact s6 _ _ rk5.hb
        · rcases List.mem_append.mp hs with hs | hs
          · exact sok s hs
          · rw [List.mem_singleton.mp hs]
            exact ⟨rk5.pw, by omega, rk5.ok⟩
    · rintro σ H3 ⟨v4, v5, v6, v7, v8, v9, v10, ps, sts, p3, n3, rfl, B3, hS3, pps, sl, sok, le3⟩
      refine e_ret (r_tupleL (val_var (v := .ref St) rfl) (SqL.of hS3) fun t H4 s4 nt ht => ?_)
      exact k H4 t sts p3 n3 (B3.same s4) (by omega) ⟨ps, ht, Paired.mapP pps fun _ _ z => z.mono (TKeep.same s4)⟩ (by omega) (by omega) (by rw [sl]; exact sok)
end
end K5
namespace K5
open PySem PySem.Spec PyProof.Rows L2
/-! ### tuples built out of tuples -/
theorem s_ifK {c : TT} {t t2 u : TS} {D : L2.Ends} {σ : L2.St} {H : Hp} (J : L2.St → Hp → Prop) (hk : ∀ σ' H', J σ' H' → u D σ' H') (h : (∀ σ' H', J σ' H' → u D σ' H') → c σ H fun b H1 => if b = true then t { D with nx := u D } σ H1 else t2 { D with nx := u D } σ H1) : tSeq (tIfS c t t2) u D σ H := h hk
theorem cutv_to {xs : List V} {k : Nat} (h : k ≤ xs.length) : cutV xs none (some (k : Int)) = xs.take k := by
  unfold cutV
  rw [HT.sIx_none, HT.sIx_nat, Nat.min_eq_left h]
  rfl
theorem cutv_from {xs : List V} {k : Nat} (h : k ≤ xs.length) : cutV xs (some (k : Int)) none = xs.drop k := by
  unfold cutV
  rw [HT.sIx_none, HT.sIx_nat, Nat.min_eq_left h, List.take_of_length_le]
  rw [List.length_drop]
  exact Nat.le_refl _
section
variable {K : PySem.W.Frag} {H : Hp} {a b : Addr} {xs ys : List V} {lo hi : Option Int} {Q : VK}
theorem slA_any (ha : H a = some (.tup xs)) (q : ∀ p H', Same H H' → H' p = some (.tup (cutV xs lo hi)) → Q (.ref p) H') : rSlA K (.ref a) lo hi H Q := by
  refine ⟨a, xs, rfl, SqT.of ha, fun e => ?_, fun _ p np => ?_⟩
  · refine q a H (Same.refl _) ?_
    unfold cutV
    rw [e.1, e.2, Nat.sub_zero, List.drop_zero, List.take_length]
    exact ha
  · exact q p _ (same_upd np) upd_same
end
def TB {β : Type} (F : Hp → Addr → β → Prop) (te : TE) (σ : L2.St) (H : Hp) (os : List β) : Prop := ∀ H1, Same H H1 → ∀ Q : VK, (∀ p ts H', Same H1 H' → H' p = some (.tup (ts.map V.ref)) → Paired (F H') ts os → Q (.ref p) H') → te σ H1 Q
def FMono {β : Type} (F : Hp → Addr → β → Prop) : Prop := ∀ H H' t o, Same H H' → F H t o → F H' t o
theorem paired_take {α β : Type} {R : α → β → Prop} : ∀ {l : List α} {m : List β} (k : Nat), Paired R l m → Paired R (l.take k) (m.take k)
  | _, _, 0, _ => by rw [List.take_zero, List.take_zero]; exact .nil
  | _, _, _ + 1, .nil => .nil
  | _, _, k + 1, .cons x r => .cons x (paired_take k r)
theorem paired_drop {α β : Type} {R : α → β → Prop} : ∀ {l : List α} {m : List β} (k : Nat), Paired R l m → Paired R (l.drop k) (m.drop k)
  | _, _, 0, h => h
  | _, _, _ + 1, .nil => .nil
  | _, _, k + 1, .cons x r => paired_drop k r
section
variable {K : PySem.W.Frag} {σ : L2.St} {H : Hp} {a : Addr} {ta tb te th : TE} {k : Nat} {β : Type} {F : Hp → Addr → β → Prop} {os os2 : List β} {o : β} {ts : List Addr}
theorem tb_ref (hv : ∀ H1, Same H H1 → Val te σ H1 (.ref a)) (h : H a = some (.tup (ts.map V.ref))) (p : Paired (F H) ts os) (m : FMono F) : TB F te σ H os := fun H1 s Q q => (hv H1 s) _ (q a ts H1 (Same.refl _) (s _ _ h) (Paired.mapP p fun _ _ z => m _ _ _ _ s z))
theorem tb_cat (ha : TB F ta σ H os) (hb : TB F tb σ H os2) (m : FMono F) (sm : os.length + os2.length ≤ 1000) : TB F (tOp (rCatA K) ta tb) σ H (os ++ os2) := fun H1 s Q q => by
  refine ha H1 s _ fun p ts H2 s2 hp pp => hb H2 (s.trans s2) _ fun r ts2 H3 s3 hr pr => ?_
  refine catA_any (s3 _ _ hp) hr (by rw [List.length_map, List.length_map, Paired.length pp, Paired.length pr]; omega) fun t H4 s4 ht => ?_
  exact q t (ts ++ ts2) H4 ((s2.trans s3).trans s4) (by rw [ht, List.map_append]) (paired_cat (Paired.mapP pp fun _ _ z => m _ _ _ _ (s3.trans s4) z) (Paired.mapP pr fun _ _ z => m _ _ _ _ s4 z))
theorem tb_to (hv : ∀ H1, Same H H1 → Val te σ H1 (.ref a)) (h : H a = some (.tup (ts.map V.ref))) (p : Paired (F H) ts os) (m : FMono F) (hk : ∀ H1 : Hp, Val th σ H1 (.int (k : Nat))) (hl : k ≤ os.length) : TB F (tSl (rSlA K) te tNoPart (tPart th)) σ H (os.take k) := fun H1 s Q q => by
  refine (hv H1 s) _ ?_
  show tNoPart _ _ _
  dsimp only [tNoPart, tPart]
  refine (hk _) _ ⟨(k : Nat), rfl, ?_⟩
  refine slA_any (s _ _ h) fun p2 H2 s2 hp => ?_
  rw [cutv_to (by rw [List.length_map, Paired.length p]; exact hl), ← List.map_take] at hp
  exact q p2 _ H2 s2 hp (Paired.mapP (paired_take k p) fun _ _ z => m _ _ _ _ (s.trans s2) z)
theorem tb_from (hv : ∀ H1, Same H H1 → Val te σ H1 (.ref a)) (h : H a = some (.tup (ts.map V.ref))) (p : Paired (F H) ts os) (m : FMono F) (hk : ∀ H1 : Hp, Val th σ H1 (.int (k : Nat))) (hl : k ≤ os.length) : TB F (tSl (rSlA K) te (tPart th) tNoPart) σ H (os.drop k) := fun H1 s Q q => by
  refine (hv H1 s) _ ?_
  dsimp only [tPart]
  refine (hk _) _ ⟨(k : Nat), rfl, ?_⟩
  show tNoPart _ _ _
  dsimp only [tNoPart]
  refine slA_any (s _ _ h) fun p2 H2 s2 hp => ?_
  rw [cutv_from (by rw [List.length_map, Paired.length p]; exact hl), ← List.map_drop] at hp
  exact q p2 _ H2 s2 hp (Paired.mapP (paired_drop k p) fun _ _ z => m _ _ _ _ (s.trans s2) z)
theorem tb_one (h : ∀ H1, Same H H1 → ∀ Q : VK, (∀ t H', Same H1 H' → F H' t o → Q (.ref t) H') → te σ H1 Q) (m : FMono F) : TB F (tTup (tCons te tNil)) σ H [o] := fun H1 s Q q =>
  r_tupT1 (h H1 s _ fun t H2 s2 ht => ⟨by show 1 ≤ sizeLine; decide, fun p np => q p [t] _ (s2.trans (same_upd np)) upd_same (.cons (m _ _ _ _ (same_upd np) ht) .nil)⟩)
end
abbrev OuF (H : Hp) (t : Addr) (o : Int × Int) : Prop := H t = some (.tup [.int o.1, .int o.2])
theorem outs_mono : FMono OuF := fun _ _ _ _ s h => s _ _ h
theorem row_mono : FMono RowD := fun _ _ _ _ s h => h.mono (TKeep.same s)
theorem std_mono : FMono StD := fun _ _ _ _ s h => h.mono (TKeep.same s)
theorem put_set {α : Type} {l : List α} {i : Nat} {x : α} (h : i < l.length) : l.take i ++ [x] ++ l.drop (i + 1) = l.set i x := by
  rw [List.set_eq_take_append_cons_drop, if_pos h, List.append_assoc]
  rfl
theorem RowX.le {m w m2 w2 : Nat} {r : RwD} (h : RowX m w r) (hm : m ≤ m2) (hw : w ≤ w2) : RowX m2 w2 r :=
  ⟨by have := h.1; omega, h.2.1, h.2.2.1, fun o ho => by have := h.2.2.2 o ho; omega⟩
/-- states as they are drawn -/
def StL (w : Nat) (s : List RwD) : Prop := (s.map (·.1)).Pairwise RLt ∧ s.length ≤ 6 ∧ ∀ r ∈ s, RowL w r
structure AL (A : List (List RwD)) : Prop where
  l0 : 0 < A.length
  l5 : A.length ≤ 5
  ok : ∀ s ∈ A, StL A.length s
theorem StL.x {w w2 : Nat} {s : List RwD} (h : StL w s) (hw : w ≤ w2) : StX 4 w2 s ∧ s.length ≤ 12 ∧ ∀ r ∈ s, RowOk r :=
  ⟨⟨h.1, fun r hr => (h.2.2 r hr).1.le (by decide) hw⟩, by have := h.2.1; omega, fun r hr => ⟨(h.2.2 r hr).2.1, by have := (h.2.2 r hr).1.1; omega, by have := (h.2.2 r hr).2.2; omega⟩⟩
theorem AL.x {A : List (List RwD)} (h : AL A) : PcX A := ⟨fun s hs => (h.ok s hs).x (Nat.le_refl _), h.l0, by have := h.l5; omega⟩
end K5
namespace K5
open PySem PySem.Spec PyProof.Rows L2
/-! ### the same pact with one thing otherwise -/
abbrev nmBn : List Str := ["_law_box_here", "_law_pact", "_law_at", "_law_spot", "_law_door", "_law_worth", "_law_outcomes_here", "_law_k", "_law_some_here", "_law_moved", "_law_state"]
theorem sc__law_bent : FnScope nmBn ["_law_box_here", "_law_pact"] (defScope s__law_bent) := ⟨rfl, rfl, rfl, by decide +kernel, rfl, by decide +kernel, by decide +kernel⟩
def spBn : Sp := fun vs H Q _ => ∃ (b pp : Addr) (A : List (List RwD)) (p q n : Int), vs = [.ref b, .ref pp] ∧ H b = some (.lst (bx p q n)) ∧ Box p q n ∧ PcAt H pp A ∧ AL A ∧ A.length ≤ 4 ∧ n + 20 < 1000000 ∧
  ∀ (H' : Hp) (r : Addr) (C : List (List RwD)) (p' n' : Int), Bk H H' b q p' n' → n' ≤ n + 10 → PcAt H' r C → AL C → Q (.ref r) H'
def sgB (b D : V) (v2 v3 v4 v5 v6 v7 v8 v9 v10 : Option V) : L2.St := [some b, some D, v2, v3, v4, v5, v6, v7, v8, v9, v10]
theorem row_dq {H : Hp} {t : Addr} {r : RwD} (h : RowD H t r) : Dq H (.ref t) (rwD r) := by
  obtain ⟨o, h1, ts, h2, h3⟩ := h
  exact .tup h1 (.cons (.str _) (.cons (.int _) (.cons (.tup h2 (dq_pairs h3)) .nil)))
theorem rows_dq {H : Hp} : ∀ {ts : List Addr} {rs : List RwD}, Paired (RowD H) ts rs → DqA H (ts.map V.ref) (rs.map rwD)
  | _, _, .nil => .nil
  | _, _, .cons h r => .cons (row_dq h) (rows_dq r)
theorem std_dq {H : Hp} {p : Addr} {rs : List RwD} (h : StD H p rs) : Dq H (.ref p) (.tuple (rs.map rwD)) := by
  obtain ⟨ts, h1, h2⟩ := h
  exact .tup h1 (rows_dq h2)
theorem stds_dq {H : Hp} : ∀ {ts : List Addr} {A : List (List RwD)}, Paired (StD H) ts A → DqA H (ts.map V.ref) (A.map fun rs => .tuple (rs.map rwD))
  | _, _, .nil => .nil
  | _, _, .cons h r => .cons (std_dq h) (stds_dq r)
theorem pc_dq {H : Hp} {p : Addr} {A : List (List RwD)} (h : PcAt H p A) : Dq H (.ref p) (datD A) := by
  obtain ⟨ts, h1, h2⟩ := h
  exact .tup h1 (stds_dq h2)
theorem val_lenP {K : PySem.W.Frag} {σ : L2.St} {H : Hp} {ta : TE} {p : Addr} {xs : List V} {n : Nat} (h : Val ta σ H (.ref p)) (hS : SqT K H p xs) (e : xs.length = n) : Val (tCB (rLenSq K) (tCons ta tNil)) σ H (.int (n : Nat)) := by
  rw [← e]
  exact val_lenT h hS
theorem st_at {H : Hp} {ps : List Addr} {A : List (List RwD)} (pp : Paired (StD H) ps A) {a : Nat} (h : a < A.length) : ∃ (sa : Addr) (rs : List RwD) (ts : List Addr), ps[a]? = some sa ∧ A[a]? = some rs ∧ H sa = some (.tup (ts.map V.ref)) ∧ Paired (RowD H) ts rs := by
  obtain ⟨sa, ea⟩ : ∃ x, ps[a]? = some x := ⟨_, List.getElem?_eq_getElem (by rw [Paired.length pp]; exact h)⟩
  obtain ⟨rs, er, ts, h1, h2⟩ := paired_at a pp ea
  exact ⟨sa, rs, ts, ea, er, h1, h2⟩
theorem row_atP {H : Hp} {ts : List Addr} {rs : List RwD} (pp : Paired (RowD H) ts rs) {a : Nat} (h : a < rs.length) : ∃ (t : Addr) (r : RwD) (o : Addr) (us : List Addr), ts[a]? = some t ∧ rs[a]? = some r ∧ H t = some (.tup [.str r.1.1, .int r.1.2, .ref o]) ∧ H o = some (.tup (us.map V.ref)) ∧ OsAt H us r.2 := by
  obtain ⟨t, ea⟩ : ∃ x, ts[a]? = some x := ⟨_, List.getElem?_eq_getElem (by rw [Paired.length pp]; exact h)⟩
  obtain ⟨r, er, o, h1, us, h2, h3⟩ := paired_at a pp ea
  exact ⟨t, r, o, us, ea, er, h1, h2, h3⟩
theorem ref_at {ts : List Addr} {a : Nat} {t : Addr} (h : ts[a]? = some t) : atI (ts.map V.ref) ((a : Nat) : Int) = some (.ref t) := atI_nat (by rw [List.getElem?_map, h]; rfl)
section
variable {P : Program} {w : World} {K : PySem.W.Frag} {mg : Str → Option Value} {base : Heap}
theorem ok_bent {f fT : Addr} {fd dT : FuncData} (B : Bt mg) (D : Df K mg "_law_bent" s__law_bent f fd ["_law_box_here", "_law_pact"]) (DT : Df K mg "_law_take" sTake fT dT ["_law_box_here", "_law_many"]) : FnOk P w K mg base CX0 2 f fd ["_law_box_here", "_law_pact"] spBn := by
  have GT : FnOk P w K mg base CX0 1 fT dT ["_law_box_here", "_law_many"] spTake := ok_take (CX := CX0) DT.F B.m_int
  refine D.F.ok sc__law_bent (fun vs H Q E h => ?_) (fun cdv A0 outer s H vs Q E hr h => ?_)
  · obtain ⟨b, pp, A, p, q, n, rfl, _⟩ := h
    rfl
  · obtain ⟨b, pp, A, p, q, n, rfl, hb, Bx, hp, ax, al4, hn, k⟩ := h
    have S := sc__law_bent
    refine ⟨_, (pss_cons (ps_set (i := 2) S.nd rfl (.inl rfl) (pe_call GT (hr.mono (by decide)) (by rfl) DT.g DT.F.kp DT.b .nil pass0 (pa_cons (pv 0) (pa_cons (pe_callB (r := rLenSq K) call_len_seq (by rfl) B.m_len PySem.boot_len (pa_cons (pv 1) pa_nil)) pa_nil))))
      (pss_cons (ps_if (pt_cmpR (op_eq0 (by exact hr.units0)) (pe_ix (r := rIxT K) ix_tup (pv 1) (pv 2) (fun _ _ => rfl)) (pe_tup pa_nil) (nomark _))
        (pss_one (ps_ret (pe_op op_catA (pv 1) (pe_tup (pa_cons (pe_tup pa_nil) pa_nil)))))
        pss_nil)
      (pss_cons (ps_set (i := 3) S.nd rfl (.inl rfl) (pe_call GT (hr.mono (by decide)) (by rfl) DT.g DT.F.kp DT.b .nil pass0 (pa_cons (pv 0) (pa_cons (pe_callB (r := rLenSq K) call_len_seq (by rfl) B.m_len PySem.boot_len (pa_cons (pe_ix (r := rIxT K) ix_tup (pv 1) (pv 2) (fun _ _ => rfl)) pa_nil)) pa_nil))))
      (pss_cons (ps_asg (pe_ix (r := rIxT K) ix_tup (pe_ix (r := rIxT K) ix_tup (pv 1) (pv 2) (fun _ _ => rfl)) (pv 3) (fun _ _ => rfl)) (pg_tup (by rfl) (pgs_cons (pg_name (i := 4) S.nd rfl (.inl rfl)) (pgs_cons (pg_name (i := 5) S.nd rfl (.inl rfl)) (pgs_cons (pg_name (i := 6) S.nd rfl (.inl rfl)) pgs_nil)))))
      (pss_cons (ps_set (i := 7) S.nd rfl (.inl rfl) (pe_call GT (hr.mono (by decide)) (by rfl) DT.g DT.F.kp DT.b .nil pass0 (pa_cons (pv 0) (pa_cons (pe_callB (r := rLenSq K) call_len_seq (by rfl) B.m_len PySem.boot_len (pa_cons (pv 6) pa_nil)) pa_nil))))
      (pss_cons (ps_set (i := 8) S.nd rfl (.inl rfl) (pe_op op_catA (pe_slice sl_tupA (pv 6) po_none (po_some (pv 7))) (pe_slice sl_tupA (pv 6) (po_some (pe_op op_add (pv 7) pe_int)) po_none)))
      (pss_cons (ps_if (PW.pt (pw_or (pt_cmpR (op_eq0 (by exact hr.units0)) (pv 8) (pe_tup pa_nil) (nomark _)) (pw_or1 (pt_cmpR op_eq (pe_call GT (hr.mono (by decide)) (by rfl) DT.g DT.F.kp DT.b .nil pass0 (pa_cons (pv 0) (pa_cons pe_int pa_nil))) pe_int (nomark _)))))
        (pss_cons (ps_set (i := 9) S.nd rfl (.inl rfl) (pe_tup (pa_cons (pe_ix (r := rIxT K) ix_tup (pe_ix (r := rIxT K) ix_tup (pv 6) (pv 7) (fun _ _ => rfl)) pe_int (fun _ _ => rfl)) (pa_cons (pe_call GT (hr.mono (by decide)) (by rfl) DT.g DT.F.kp DT.b .nil pass0 (pa_cons (pv 0) (pa_cons (pe_callB (r := rLenSq K) call_len_seq (by rfl) B.m_len PySem.boot_len (pa_cons (pv 1) pa_nil)) pa_nil))) pa_nil))))
      (pss_one (ps_set (i := 8) S.nd rfl (.inl rfl) (pe_op op_catA (pe_op op_catA (pe_slice sl_tupA (pv 6) po_none (po_some (pv 7))) (pe_tup (pa_cons (pv 9) pa_nil))) (pe_slice sl_tupA (pv 6) (po_some (pe_op op_add (pv 7) pe_int)) po_none)))))
        pss_nil)
      (pss_cons (ps_set (i := 10) S.nd rfl (.inl rfl) (pe_op op_catA (pe_op op_catA (pe_slice sl_tupA (pe_ix (r := rIxT K) ix_tup (pv 1) (pv 2) (fun _ _ => rfl)) po_none (po_some (pv 3))) (pe_tup (pa_cons (pe_tup (pa_cons (pv 4) (pa_cons (pv 5) (pa_cons (pv 8) pa_nil)))) pa_nil))) (pe_slice sl_tupA (pe_ix (r := rIxT K) ix_tup (pv 1) (pv 2) (fun _ _ => rfl)) (po_some (pe_op op_add (pv 3) pe_int)) po_none)))
      (pss_one (ps_ret (pe_op op_catA (pe_op op_catA (pe_slice sl_tupA (pv 1) po_none (po_some (pv 2))) (pe_tup (pa_cons (pv 10) pa_nil))) (pe_slice sl_tupA (pv 1) (po_some (pe_op op_add (pv 2) pe_int)) po_none)))))))))))), ?_⟩
    obtain ⟨ps, hpp, ppp⟩ := hp
    have lps := Paired.length ppp
    have l0 := ax.l0
    show tSeq _ _ _ (sgB (.ref b) (.ref pp) none none none none none none none none none) H
    refine s_set (r_take (val_var rfl) (val_lenP (val_var rfl) (SqT.of hpp) (by rw [List.length_map, lps])) hb Bx (by omega) (by omega) (by omega) fun d1 p1 n1 H1 d10 d11 le1 B1 => ?_)
    obtain ⟨a, rfl⟩ : ∃ a : Nat, d1 = (a : Int) := ⟨d1.toNat, by omega⟩
    have al : a < A.length := by omega
    have tk1 := B1.tk hb
    have hpp1 := tk1 _ _ hpp
    have ppp1 := Paired.mapP ppp fun _ _ z => z.mono tk1
    obtain ⟨sa, rs, ts, esa, ers, hsa, prs⟩ := st_at ppp1 al
    obtain ⟨rpw, rl6, rok⟩ := ax.ok rs (List.mem_of_getElem? ers)
    have lts := Paired.length prs
    show tSeq _ _ _ (sgB (.ref b) (.ref pp) (some (.int (a : Nat))) none none none none none none none none) H1
    refine s_if (r_testT (r_op ((val_ixT (val_var (v := .ref pp) rfl) (val_var (v := .int (a : Nat)) rfl) (SqT.of hpp1) (ref_at esa)) _ (r_tup0 fun t0 H2 s2 nt ht => ⟨_, t0, std_dq ⟨ts, s2 _ _ hsa, Paired.mapP prs fun _ _ z => z.mono (TKeep.same s2)⟩, rfl, ht, _, rfl, ?_⟩))))
    have B2 := B1.same s2
    have hpp2 := s2 _ _ hpp1
    have ppp2 := Paired.mapP ppp1 fun _ _ z => z.mono (TKeep.same s2)
    by_cases r0 : rs = []
    · subst r0
      refine iteT ?_
      refine e_ret ?_
      have tb : TB StD (tOp (rCatA K) (tVar 1) (tTup (tCons (tTup tNil) tNil))) (sgB (.ref b) (.ref pp) (some (.int (a : Nat))) none none none none none none none none) H2 (A ++ [[]]) :=
        tb_cat (tb_ref (fun _ _ => val_var rfl) hpp2 ppp2 std_mono) (tb_one (fun H3 s3 Q q => r_tup0 fun t H4 s4 nt ht => q t H4 s4 ⟨[], ht, .nil⟩) std_mono) std_mono (by show A.length + 1 ≤ 1000; omega)
      refine tb H2 (Same.refl _) _ fun r us H3 s3 hr pr => ?_
      refine k H3 r (A ++ [[]]) p1 n1 (B2.same s3) (by omega) ⟨us, hr, pr⟩ ⟨by rw [List.length_append]; show 0 < A.length + 1; omega, by rw [List.length_append]; show A.length + 1 ≤ 5; omega, fun s hs => ?_⟩
      have el : (A ++ [([] : List RwD)]).length = A.length + 1 := by rw [List.length_append]; rfl
      rw [el]
      rcases List.mem_append.mp hs with hs | hs
      · obtain ⟨h1, h2, h3⟩ := ax.ok s hs
        exact ⟨h1, h2, fun r hr => ⟨(h3 r hr).1.le (Nat.le_refl _) (by omega), (h3 r hr).2⟩⟩
      · rw [List.mem_singleton.mp hs]
        exact ⟨.nil, Nat.zero_le _, (fun _ h => nomatch h)⟩
    · have rlen : 0 < rs.length := List.length_pos_iff.mpr r0
      refine ite2 (fun c => ?_) fun _ => ?_
      · cases rs with
        | nil => exact absurd rfl r0
        | cons _ _ => cases c
      dsimp only [tNext]
      have hsa2 := s2 _ _ hsa
      have prs2 := Paired.mapP prs fun _ _ z => z.mono (TKeep.same s2)
      refine s_set (r_take (val_var rfl) (val_lenP (val_ixT (val_var (v := .ref pp) rfl) (val_var (v := .int (a : Nat)) rfl) (SqT.of hpp2) (ref_at esa)) (SqT.of hsa2) (by rw [List.length_map, lts])) B2.hb B2.bo (by omega) (by omega) (by omega) fun d3 p3 n3 H3 d30 d31 le3 B3 => ?_)
      obtain ⟨sp, rfl⟩ : ∃ a : Nat, d3 = (a : Int) := ⟨d3.toNat, by omega⟩
      have spl : sp < rs.length := by omega
      have tk3 := B3.tk B2.hb
      have B03 := B2.trans B3
      have hpp3 := tk3 _ _ hpp2
      have hsa3 := tk3 _ _ hsa2
      have prs3 := Paired.mapP prs2 fun _ _ z => z.mono tk3
      have ppp3 := Paired.mapP ppp2 fun _ _ z => z.mono tk3
      obtain ⟨t, r, o, us, et, er, ht, ho, pus⟩ := row_atP prs3 spl
      have rL := rok r (List.mem_of_getElem? er)
      have lus := pus.len
      show tSeq _ _ _ (sgB (.ref b) (.ref pp) (some (.int (a : Nat))) (some (.int (sp : Nat))) none none none none none none none) H3
      refine s_asg ((val_ixT (val_ixT (val_var (v := .ref pp) rfl) (val_var (v := .int (a : Nat)) rfl) (SqT.of hpp3) (ref_at esa)) (val_var (v := .int (sp : Nat)) rfl) (SqT.of hsa3) (ref_at et)) _ ⟨t, _, rfl, SqT.of ht, rfl, _, _, rfl, _, _, rfl, _, _, rfl, rfl, ?_⟩)
      show tSeq _ _ _ (sgB (.ref b) (.ref pp) (some (.int (a : Nat))) (some (.int (sp : Nat))) (some (.str r.1.1)) (some (.int r.1.2)) (some (.ref o)) none none none none) H3
      have ol : 0 < r.2.length := rL.1.2.1
      refine s_set (r_take (val_var rfl) (val_lenP (val_var (v := .ref o) rfl) (SqT.of ho) (by rw [List.length_map, lus])) B3.hb B3.bo (by omega) (by have := rL.2.2; omega) (by omega) fun d4 p4 n4 H4 d40 d41 le4 B4 => ?_)
      obtain ⟨kk, rfl⟩ : ∃ a : Nat, d4 = (a : Int) := ⟨d4.toNat, by omega⟩
      have kl : kk < r.2.length := by omega
      have tk4 := B4.tk B3.hb
      have B04 := B03.trans B4
      have hpp4 := tk4 _ _ hpp3
      have hsa4 := tk4 _ _ hsa3
      have ho4 := tk4 _ _ ho
      have pus4 : OsAt H4 us r.2 := OsAt.tk tk4 pus
      have prs4 := Paired.mapP prs3 fun _ _ z => z.mono tk4
      have ppp4 := Paired.mapP ppp3 fun _ _ z => z.mono tk4
      show tSeq _ _ _ (sgB (.ref b) (.ref pp) (some (.int (a : Nat))) (some (.int (sp : Nat))) (some (.str r.1.1)) (some (.int r.1.2)) (some (.ref o)) (some (.int (kk : Nat))) none none none) H4
      have v6 : ∀ {v8 v9 v10 : Option V} (H1 : Hp), Val (tVar 6) (sgB (.ref b) (.ref pp) (some (.int (a : Nat))) (some (.int (sp : Nat))) (some (.str r.1.1)) (some (.int r.1.2)) (some (.ref o)) (some (.int (kk : Nat))) v8 v9 v10) H1 (.ref o) := fun _ => val_var rfl
      have v7 : ∀ {v8 v9 v10 : Option V} (H1 : Hp), Val (tVar 7) (sgB (.ref b) (.ref pp) (some (.int (a : Nat))) (some (.int (sp : Nat))) (some (.str r.1.1)) (some (.int r.1.2)) (some (.ref o)) (some (.int (kk : Nat))) v8 v9 v10) H1 (.int (kk : Nat)) := fun _ => val_var rfl
      have plus : ∀ {te : TE} {σ : L2.St} {n : Nat}, (∀ H1, Val te σ H1 (.int (n : Nat))) → ∀ H1, Val (tOp (rI0 fun i j => V.int (i + j)) te (tC (.int 1))) σ H1 (.int ((n + 1 : Nat) : Int)) := fun h H1 => val_i0 (g := fun i j => i + j) (h H1) val_c
      have l8 : (r.2.take kk).length + (r.2.drop (kk + 1)).length ≤ 1000 := by
        have := rL.2.2
        rw [List.length_take, List.length_drop]
        omega
      refine s_set ((tb_cat (K := K) (F := OuF) (tb_to (fun H1 _ => v6 H1) ho4 pus4 outs_mono v7 (by omega)) (tb_from (fun H1 _ => v6 H1) ho4 pus4 outs_mono (plus v7) (by omega)) outs_mono l8) H4 (Same.refl _) _ fun so us5 H5 s5 hso pso => ?_)
      have B5 := B04.same s5
      have hpp5 := s5 _ _ hpp4
      have hsa5 := s5 _ _ hsa4
      have ho5 := s5 _ _ ho4
      have pus5 : OsAt H5 us r.2 := OsAt.tk (TKeep.same s5) pus4
      have prs5 := Paired.mapP prs4 fun _ _ z => z.mono (TKeep.same s5)
      have ppp5 := Paired.mapP ppp4 fun _ _ z => z.mono (TKeep.same s5)
      have os0l : (r.2.take kk ++ r.2.drop (kk + 1)).length = r.2.length - 1 := by
        rw [List.length_append, List.length_take, List.length_drop]
        omega
      generalize eos0 : r.2.take kk ++ r.2.drop (kk + 1) = os0 at pso os0l
      have test : ∀ R : Bool → Hp → Prop, (∀ (H6 : Hp) (p6 n6 : Int), Bk H5 H6 b q p6 n6 → n6 ≤ n + 4 → R true H6) → (os0 ≠ [] → ∀ (H6 : Hp) (p6 n6 : Int), Bk H5 H6 b q p6 n6 → n6 ≤ n + 4 → R false H6) →
          tOr (tTest (tOp rEq0 (tVar 8) (tTup tNil))) (tTest (tOp rEq (tCall spTake [] E0 (tCons (tVar 0) (tCons (tC (V.int 2)) tNil))) (tC (V.int 0)))) (sgB (.ref b) (.ref pp) (some (.int (a : Nat))) (some (.int (sp : Nat))) (some (.str r.1.1)) (some (.int r.1.2)) (some (.ref o)) (some (.int (kk : Nat))) (some (.ref so)) none none) H5 R := by
        intro R kT kF
        unfold tOr
        refine r_testT (r_op ((val_var (v := .ref so) rfl) _ (r_tup0 fun t0 H6 s6 nt ht => ⟨.tuple (os0.map pairD), t0, .tup (s6 _ _ hso) (dq_pairs (Paired.mapP pso fun _ _ z => s6 _ _ z)), rfl, ht, _, rfl, ?_⟩)))
        have B6 : Bk H5 H6 b q p4 n4 := (Bk.start B5.hb B5.bo).same s6
        by_cases e0 : os0 = []
        · rw [e0]
          exact iteT (kT H6 p4 n4 B6 (by omega))
        · refine ite2 (fun c => ?_) fun _ => ?_
          · cases os0 with
            | nil => exact absurd rfl e0
            | cons _ _ => cases c
          refine r_testT (r_op (r_take (val_var rfl) val_c B6.hb B6.bo (by decide) (by decide) (by omega) fun d7 p7 n7 H7 d70 d71 le7 B7 => val_c _ ⟨rfl, _, rfl, ?_⟩))
          cases decide (V.int d7 = V.int 0) with
          | true => exact kT H7 p7 n7 (B6.trans B7) (by omega)
          | false => exact kF e0 H7 p7 n7 (B6.trans B7) (by omega)
      refine s_ifK (fun σ H6 => ∃ (so : Addr) (os : List (Int × Int)) (v9 : Option V) (p6 n6 : Int), σ = sgB (.ref b) (.ref pp) (some (.int (a : Nat))) (some (.int (sp : Nat))) (some (.str r.1.1)) (some (.int r.1.2)) (some (.ref o)) (some (.int (kk : Nat))) (some (.ref so)) v9 none ∧ Bk H5 H6 b q p6 n6 ∧ n6 ≤ n + 6 ∧ OuAt H6 so os ∧ RowL A.length (r.1, os)) ?_ fun hk => ?_
      · rintro σ H6 ⟨so, os, v9, p6, n6, rfl, B6, le6, hso, okr⟩
        have tk6 := B6.tk B5.hb
        have hpp6 := tk6 _ _ hpp5
        have hsa6 := tk6 _ _ hsa5
        have prs6 := Paired.mapP prs5 fun _ _ z => z.mono tk6
        have ppp6 := Paired.mapP ppp5 fun _ _ z => z.mono tk6
        have w1 : ∀ {v10 : Option V} (H1 : Hp), Val (tVar 1) (sgB (.ref b) (.ref pp) (some (.int (a : Nat))) (some (.int (sp : Nat))) (some (.str r.1.1)) (some (.int r.1.2)) (some (.ref o)) (some (.int (kk : Nat))) (some (.ref so)) v9 v10) H1 (.ref pp) := fun _ => val_var rfl
        have w2 : ∀ {v10 : Option V} (H1 : Hp), Val (tVar 2) (sgB (.ref b) (.ref pp) (some (.int (a : Nat))) (some (.int (sp : Nat))) (some (.str r.1.1)) (some (.int r.1.2)) (some (.ref o)) (some (.int (kk : Nat))) (some (.ref so)) v9 v10) H1 (.int (a : Nat)) := fun _ => val_var rfl
        have w3 : ∀ {v10 : Option V} (H1 : Hp), Val (tVar 3) (sgB (.ref b) (.ref pp) (some (.int (a : Nat))) (some (.int (sp : Nat))) (some (.str r.1.1)) (some (.int r.1.2)) (some (.ref o)) (some (.int (kk : Nat))) (some (.ref so)) v9 v10) H1 (.int (sp : Nat)) := fun _ => val_var rfl
        have ws : ∀ {v10 : Option V} (H1 : Hp), Same H6 H1 → Val (tOp (rIxT K) (tVar 1) (tVar 2)) (sgB (.ref b) (.ref pp) (some (.int (a : Nat))) (some (.int (sp : Nat))) (some (.str r.1.1)) (some (.int r.1.2)) (some (.ref o)) (some (.int (kk : Nat))) (some (.ref so)) v9 v10) H1 (.ref sa) := fun H1 s => val_ixT (w1 H1) (w2 H1) (SqT.of (s _ _ hpp6)) (ref_at esa)
        have l6 : (rs.take sp ++ [(r.1, os)]).length + (rs.drop (sp + 1)).length ≤ 1000 := by
          rw [List.length_append, List.length_take, List.length_drop]
          show min sp rs.length + 1 + _ ≤ 1000
          omega
        have l6' : (rs.take sp).length + [(r.1, os)].length ≤ 1000 := by
          rw [List.length_take]
          show min sp rs.length + 1 ≤ 1000
          omega
        refine s_set ((tb_cat (K := K) (F := RowD) (tb_cat (tb_to ws hsa6 prs6 row_mono w3 (by omega)) (tb_one (o := (r.1, os)) (fun H1 s Q q => r_tup3 (va := .str r.1.1) (vb := .int r.1.2) (vc := .ref so) (val_var rfl) (val_var rfl) (val_var rfl) fun t H7 s7 nt ht => q t H7 s7 ⟨so, ht, hso.mono (TKeep.same (s.trans s7))⟩) row_mono) row_mono l6') (tb_from ws hsa6 prs6 row_mono (plus w3) (by omega)) row_mono l6) H6 (Same.refl _) _ fun st ust H7 s7 hst pst => ?_)
        rw [put_set spl] at pst
        have B7 := (B5.trans B6).same s7
        have hpp7 := s7 _ _ hpp6
        have ppp7 := Paired.mapP ppp6 fun _ _ z => z.mono (TKeep.same s7)
        have l7 : (A.take a ++ [rs.set sp (r.1, os)]).length + (A.drop (a + 1)).length ≤ 1000 := by
          rw [List.length_append, List.length_take, List.length_drop]
          show min a A.length + 1 + _ ≤ 1000
          omega
        have l7' : (A.take a).length + [rs.set sp (r.1, os)].length ≤ 1000 := by
          rw [List.length_take]
          show min a A.length + 1 ≤ 1000
          omega
        refine e_ret ((tb_cat (K := K) (F := StD) (tb_cat (tb_to (fun H1 _ => w1 H1) hpp7 ppp7 std_mono w2 (by omega)) (tb_one (o := rs.set sp (r.1, os)) (fun H1 s Q q => (val_var (v := .ref st) rfl) _ (q st H1 (Same.refl _) ⟨ust, s _ _ hst, Paired.mapP pst fun _ _ z => z.mono (TKeep.same s)⟩)) std_mono) std_mono l7') (tb_from (fun H1 _ => w1 H1) hpp7 ppp7 std_mono (plus w2) (by omega)) std_mono l7) H7 (Same.refl _) _ fun rr urr H8 s8 hrr prr => ?_)
        rw [put_set al] at prr
        refine k H8 rr _ p6 n6 (B7.same s8) (by omega) ⟨urr, hrr, prr⟩ ⟨by rw [List.length_set]; exact l0, by rw [List.length_set]; omega, fun s hs => ?_⟩
        rw [List.length_set]
        rcases List.mem_or_eq_of_mem_set hs with hs | rfl
        · exact ax.ok s hs
        · refine ⟨?_, by rw [List.length_set]; exact rl6, fun x hx => ?_⟩
          · have : (rs.set sp (r.1, os)).map (·.1) = rs.map (·.1) := by
              rw [List.map_set]
              show (rs.map (·.1)).set sp r.1 = _
              refine List.ext_getElem? fun j => ?_
              rw [List.getElem?_set]
              split
              · rename_i e
                subst e
                rw [List.getElem?_map, er]
                simp
                omega
              · rfl
            rw [this]
            exact rpw
          · rcases List.mem_or_eq_of_mem_set hx with hx | rfl
            · exact rok x hx
            · exact okr
      · refine test _ (fun H6 p6 n6 B6 le6 => iteT ?_) (fun ne H6 p6 n6 B6 le6 => iteF ?_)
        · have tk6 := B6.tk B5.hb
          have hpp6 := tk6 _ _ hpp5
          have ho6 := tk6 _ _ ho5
          have pus6 : Paired (OuF H6) us r.2 := OsAt.tk tk6 pus5
          obtain ⟨tkk, etk⟩ : ∃ x, us[kk]? = some x := ⟨_, List.getElem?_eq_getElem (by omega)⟩
          obtain ⟨ok, eok, htk⟩ := paired_at kk pus6 etk
          refine s_set (r_tupT ((val_ixT (val_ixT (v6 H6) (v7 H6) (SqT.of ho6) (ref_at etk)) val_c (SqT.of htk) (atI_nat (j := 0) rfl)) _ (r_take (val_var rfl) (val_lenP (val_var (v := .ref pp) rfl) (SqT.of hpp6) (by rw [List.length_map, lps])) B6.hb B6.bo (by omega) (by omega) (by omega) fun d7 p7 n7 H7 d70 d71 le7 B7 => ⟨by show 2 ≤ sizeLine; decide, fun t9 nt9 => ?_⟩)))
          have s8 := same_upd (o := .tup [.int ok.1, .int d7]) nt9
          have ht9 : OuF (upd H7 t9 (.tup [.int ok.1, .int d7])) t9 (ok.1, d7) := upd_same
          have B8 := (B6.trans B7).same s8
          have tk8 : TKeep H6 (upd H7 t9 (.tup [.int ok.1, .int d7])) := fun x ys e => s8 _ _ (B7.tk B6.hb _ _ e)
          generalize (upd H7 t9 (.tup [.int ok.1, .int d7])) = H8 at s8 ht9 B8 tk8 ⊢
          have ho8 := tk8 _ _ ho6
          have pus8 : Paired (OuF H8) us r.2 := OsAt.tk tk8 pus6
          have l8a : (r.2.take kk ++ [(ok.1, d7)]).length + (r.2.drop (kk + 1)).length ≤ 1000 := by
            have := rL.2.2
            rw [List.length_append, List.length_take, List.length_drop]
            show min kk r.2.length + 1 + _ ≤ 1000
            omega
          have l8b : (r.2.take kk).length + [(ok.1, d7)].length ≤ 1000 := by
            have := rL.2.2
            rw [List.length_take]
            show min kk r.2.length + 1 ≤ 1000
            omega
          refine e_set ((tb_cat (K := K) (F := OuF) (tb_cat (tb_to (fun H1 _ => v6 H1) ho8 pus8 outs_mono v7 (by omega)) (tb_one (o := (ok.1, d7)) (fun H1 s Q q => (val_var (v := .ref t9) rfl) _ (q t9 H1 (Same.refl _) (outs_mono _ _ _ _ s ht9))) outs_mono) outs_mono l8b) (tb_from (fun H1 _ => v6 H1) ho8 pus8 outs_mono (plus v7) (by omega)) outs_mono l8a) H8 (Same.refl _) _ fun so2 us9 H9 s9 hso9 pso9 => ?_)
          rw [put_set kl] at pso9
          refine hk _ _ ⟨so2, r.2.set kk (ok.1, d7), _, p7, n7, rfl, B8.same s9, by omega, ⟨us9, hso9, pso9⟩, ⟨rL.1.1, by rw [List.length_set]; exact ol, ?_, fun x hx => ?_⟩, rL.2.1, by rw [List.length_set]; exact rL.2.2⟩
          · have : (r.2.set kk (ok.1, d7)).map (·.1) = r.2.map (·.1) := by
              rw [List.map_set]
              show (r.2.map (·.1)).set kk ok.1 = _
              refine List.ext_getElem? fun j => ?_
              rw [List.getElem?_set]
              split
              · rename_i e
                subst e
                rw [List.getElem?_map, eok]
                simp
                omega
              · rfl
            rw [this]
            exact rL.1.2.2.1
          · rcases List.mem_or_eq_of_mem_set hx with hx | rfl
            · exact rL.1.2.2.2 x hx
            · have := rL.1.2.2.2 ok (List.mem_of_getElem? eok)
              exact ⟨this.1, this.2.1, d70, d71⟩
        · refine hk _ _ ⟨so, os0, none, p6, n6, rfl, B6, by omega, ⟨us5, (B6.tk B5.hb) _ _ hso, OsAt.tk (B6.tk B5.hb) pso⟩, ?_⟩
          have sub : os0.Sublist r.2 := by
            rw [← eos0, ← List.eraseIdx_eq_take_drop_succ]
            exact List.eraseIdx_sublist ..
          exact ⟨⟨rL.1.1, List.length_pos_iff.mpr ne, rL.1.2.2.1.sublist (sub.map _), fun x hx => rL.1.2.2.2 x (sub.subset hx)⟩, rL.2.1, Nat.le_trans sub.length_le rL.2.2⟩
end
end K5
namespace K5
open PySem PySem.Spec PyProof.Rows L2
/-! ### one of a list; a drawn word -/
theorem e_forRT {te : TE} {g : TG} {tb : TS} {D : L2.Ends} {σ : L2.St} {H : Hp} (h : te σ H fun x H1 => ∃ n : Nat, x = .int (n : Nat) ∧ n ≤ 1000000 ∧ ∃ Pv : Nat → L2.St → Hp → Prop, Pv 0 σ H1 ∧ (∀ i σ H, i < n → Pv i σ H → g (.int (i : Nat)) σ H fun σ2 H2 => tb { D with nx := Pv (i + 1), ct := Pv (i + 1), bk := D.nx } σ2 H2) ∧ ∀ σ H, Pv n σ H → D.nx σ H) (mono : ∀ (Q Q' : VK), (∀ x H, Q x H → Q' x H) → te σ H Q → te σ H Q') : tFor (iRng1 (tCons te tNil)) g tb D σ H := by
  show te σ H _
  refine mono _ _ (fun x H1 hx => ?_) h
  obtain ⟨n, rfl, hn, Pv, h0, hs, hd⟩ := hx
  exact e_forR (te := tC (.int (n : Nat))) val_c hn Pv h0 hs hd
theorem r_tupT3 {σ : L2.St} {H : Hp} {Q : VK} {ta tb tc : TE} (h : ta σ H fun x H1 => tb σ H1 fun y H2 => tc σ H2 fun z H3 => [x, y, z].length ≤ sizeLine ∧ ∀ p, H3 p = none → Q (.ref p) (upd H3 p (.tup [x, y, z]))) : tTup (tCons ta (tCons tb (tCons tc tNil))) σ H Q := h
theorem take_mono {σ : L2.St} {H : Hp} {i : Nat} {m : Int} (Q Q' : VK) (h : ∀ x H, Q x H → Q' x H) (t : tCall spTake [] E0 (tCons (tVar i) (tCons (tC (.int m)) tNil)) σ H Q) : tCall spTake [] E0 (tCons (tVar i) (tCons (tC (.int m)) tNil)) σ H Q' := by
  obtain ⟨v, hv, b, m2, p, q, n, e, hb, B, n1, m0, m1, k⟩ := t
  exact ⟨v, hv, b, m2, p, q, n, e, hb, B, n1, m0, m1, fun d p' n' d0 d1 B le => h _ _ (k d p' n' d0 d1 B le)⟩
def spOf : Sp := fun vs H Q _ => ∃ (b L : Addr) (xs : List V) (p q n : Int), vs = [.ref b, .ref L] ∧ H b = some (.lst (bx p q n)) ∧ Box p q n ∧ b ≠ L ∧ H L = some (.lst xs) ∧ 0 < xs.length ∧ xs.length < 1000000 ∧ n < 1000000 ∧
  ∀ (i : Nat) (v : V) (H' : Hp) (p' n' : Int), xs[i]? = some v → Bk H H' b q p' n' → n' ≤ n + 1 → Q v H'
theorem sc__law_of : FnScope ["_law_box_here", "_law_some_here"] ["_law_box_here", "_law_some_here"] (defScope s__law_of) := ⟨rfl, rfl, rfl, by decide +kernel, rfl, by decide +kernel, by decide +kernel⟩
section
variable {P : Program} {w : World} {K : PySem.W.Frag} {mg : Str → Option Value} {base : Heap}
theorem ok_law_of {f fT : Addr} {fd dT : FuncData} (B : Bt mg) (D : Df K mg "_law_of" s__law_of f fd ["_law_box_here", "_law_some_here"]) (DT : Df K mg "_law_take" sTake fT dT ["_law_box_here", "_law_many"]) : FnOk P w K mg base CX0 2 f fd ["_law_box_here", "_law_some_here"] spOf := by
  have GT : FnOk P w K mg base CX0 1 fT dT ["_law_box_here", "_law_many"] spTake := ok_take (CX := CX0) DT.F B.m_int
  refine D.F.ok sc__law_of (fun vs H Q E h => ?_) (fun cdv A0 outer s H vs Q E hr h => ?_)
  · obtain ⟨b, L, xs, p, q, n, rfl, _⟩ := h
    rfl
  · obtain ⟨b, L, xs, p, q, n, rfl, hb, Bx, bL, hL, x0, x1, hn, k⟩ := h
    have S := sc__law_of
    refine ⟨_, (pss_one (ps_ret (pe_ix (show IxR _ (rIxL K) from ix_list) (pv 1) (pe_call GT (hr.mono (by decide)) (by rfl) DT.g DT.F.kp DT.b .nil pass0 (pa_cons (pv 0) (pa_cons (pe_callB (r := rLenSq K) call_len_seq (by rfl) B.m_len PySem.boot_len (pa_cons (pv 1) pa_nil)) pa_nil))) (fun _ _ => rfl)))), ?_⟩
    refine e_ret (r_op ((val_var (v := .ref L) rfl) _ (r_take (val_var rfl) (val_lenL (val_var (v := .ref L) rfl) (SqL.of hL)) hb Bx (by omega) (by omega) (by omega) fun d p1 n1 H1 d0 d1 le1 B1 => ?_)))
    obtain ⟨i, rfl⟩ : ∃ a : Nat, d = (a : Int) := ⟨d.toNat, by omega⟩
    have il : i < xs.length := by omega
    exact ⟨L, xs, (i : Int), xs[i], rfl, rfl, SqL.of (B1.sb _ _ bL.symm hL), atI_nat (List.getElem?_eq_getElem il), k i _ H1 p1 n1 (List.getElem?_eq_getElem il) B1 le1⟩
end
abbrev nmWd : List Str := ["_law_box_here", "_law_pact", "_law_doors", "_law_found", "_law_at", "_law_turn", "_law_some_here", "_law_letter"]
theorem sc__law_word_drawn : FnScope nmWd ["_law_box_here", "_law_pact", "_law_doors"] (defScope s__law_word_drawn) := ⟨rfl, rfl, rfl, by decide +kernel, rfl, by decide +kernel, by decide +kernel⟩
def spWdr : Sp := fun vs H Q _ => ∃ (b pp D : Addr) (A : List (List RwD)) (ds : List Str) (p q n : Int), vs = [.ref b, .ref pp, .ref D] ∧ H b = some (.lst (bx p q n)) ∧ Box p q n ∧ PcAt H pp A ∧ PcX A ∧ H D = some (.lst (ds.map V.str)) ∧ (∀ z ∈ ds, z ∈ poolD) ∧ 0 < ds.length ∧ ds.length ≤ 3 ∧ n + 100 < 1000000 ∧
  ∀ (H' : Hp) (r : Addr) (ws : List Lt) (p' n' : Int), Bk H H' b q p' n' → n' ≤ n + 40 → WdAt H' r ws → (∀ l ∈ ws, LtOk l) → ws.length ≤ 4 → Q (.ref r) H'
def sgW (b p D : V) (v3 v4 v5 v6 v7 : Option V) : L2.St := [some b, some p, some D, v3, v4, v5, v6, v7]
section
variable {P : Program} {w : World} {K : PySem.W.Frag} {mg : Str → Option Value} {base : Heap}
theorem ok_word_drawn {f fT fO fL : Addr} {fd dT dO dL : FuncData} (B : Bt mg) (m_sorted : mg "sorted" = none) (D : Df K mg "_law_word_drawn" s__law_word_drawn f fd ["_law_box_here", "_law_pact", "_law_doors"]) (DT : Df K mg "_law_take" sTake fT dT ["_law_box_here", "_law_many"]) (DO : Df K mg "_law_of" s__law_of fO dO ["_law_box_here", "_law_some_here"]) (DL : Df K mg "_law_letters" s__law_letters fL dL ["_law_pact", "_law_at"]) : FnOk P w K mg base CX0 3 f fd ["_law_box_here", "_law_pact", "_law_doors"] spWdr := by
  have GT : FnOk P w K mg base CX0 1 fT dT ["_law_box_here", "_law_many"] spTake := ok_take (CX := CX0) DT.F B.m_int
  have GO : FnOk P w K mg base CX0 2 fO dO ["_law_box_here", "_law_some_here"] spOf := ok_law_of B DO DT
  have GL : FnOk P w K mg base CX0 1 fL dL ["_law_pact", "_law_at"] spLLet := ok_law_letters DL
  refine D.F.ok sc__law_word_drawn (fun vs H Q E h => ?_) (fun cdv A0 outer s H vs Q E hr h => ?_)
  · obtain ⟨b, pp, D, A, ds, p, q, n, rfl, _⟩ := h
    rfl
  · obtain ⟨b, pp, Dl, A, ds, p, q, n, rfl, hb, Bx, hp, ax, hD, dpool, dl0, dl, hn, k⟩ := h
    have S := sc__law_word_drawn
    refine ⟨_, (pss_cons (ps_par (i := 3) (j := 4) (by rfl) S.nd rfl rfl (by decide) rfl rfl (pa_cons (pe_lst pa_nil) (pa_cons pe_int pa_nil)) (by rfl))
      (pss_cons (ps_for PassesOwn.never rfl (pi_range1 (by rfl) B.m_range (pa_cons (pe_call GT (hr.mono (by decide)) (by rfl) DT.g DT.F.kp DT.b .nil pass0 (pa_cons (pv 0) (pa_cons pe_int pa_nil))) pa_nil)) (pg_name (i := 5) S.nd rfl (.inl rfl))
        (pss_cons (ps_set (i := 6) S.nd rfl (.inl rfl) (pe_call GL (hr.mono (by decide)) (by rfl) DL.g DL.F.kp DL.b .nil pass0 (pa_cons (pv 1) (pa_cons (pv 4) pa_nil))))
      (pss_cons (ps_set (i := 7) S.nd rfl (.inl rfl) (pe_tup (pa_cons (pe_call GO (hr.mono (by decide)) (by rfl) DO.g DO.F.kp DO.b .nil pass0 (pa_cons (pv 0) (pa_cons (pe_callB cr_sortedS (by rfl) m_sorted (by decide +kernel) (pa_cons (pv 2) pa_nil)) pa_nil))) (pa_cons (pe_call GT (hr.mono (by decide)) (by rfl) DT.g DT.F.kp DT.b .nil pass0 (pa_cons (pv 0) (pa_cons pe_int pa_nil))) (pa_cons (pe_op op_sub (pe_call GT (hr.mono (by decide)) (by rfl) DT.g DT.F.kp DT.b .nil pass0 (pa_cons (pv 0) (pa_cons pe_int pa_nil))) pe_int) pa_nil)))))
      (pss_cons (ps_if (PW.pt (pw_and (pt_cmpR (op_neL0 hr.units) (pv 6) (pe_lst pa_nil) (nomark _)) (pw_and1 (pt_cmpR op_gt (pe_call GT (hr.mono (by decide)) (by rfl) DT.g DT.F.kp DT.b .nil pass0 (pa_cons (pv 0) (pa_cons pe_int pa_nil))) pe_int (nomark _)))))
        (pss_one (ps_asg (pe_call GO (hr.mono (by decide)) (by rfl) DO.g DO.F.kp DO.b .nil pass0 (pa_cons (pv 0) (pa_cons (pv 6) pa_nil))) (pg_tup (by rfl) (pgs_cons (pg_name (i := 7) S.nd rfl (.inl rfl)) (pgs_cons (pg_name (i := 4) S.nd rfl (.inl rfl)) pgs_nil)))))
        pss_nil)
      (pss_one (ps_expr (pe_bm PySem.F.plainAttrs_list PySem.F.slot_list_append PySem.F.type_list_append mt_append (pv 3) (pa_cons (pv 7) pa_nil))))))))
      (pss_one (ps_ret (pe_tupleOf (by rfl) B.m_tuple (pv 3)))))), ?_⟩
    have bD : b ≠ Dl := fun z => by
      rw [z, hD] at hb
      injection hb with hb
      injection hb with hb
      cases ds with
      | nil => cases hb
      | cons d ds => injection hb with hb _; cases hb
    show tSeq _ _ _ (sgW (.ref b) (.ref pp) (.ref Dl) none none none none none) H
    refine s_par (r_lst0 fun F H0 s0 nF hF => val_c _ ⟨_, _, rfl, ?_⟩)
    have bF : b ≠ F := ne_of_none hb nF
    have B0 := (Bk.start hb Bx).same s0
    show tSeq (tFor _ _ _) _ _ (sgW (.ref b) (.ref pp) (.ref Dl) (some (.ref F)) (some (.int 0)) none none none) H0
    dsimp only [tSeq]
    refine e_forRT (r_take (val_var rfl) val_c B0.hb B0.bo (by decide) (by decide) (by omega) fun d0 p1 n1 H1 d00 d01 le1 B1 => ?_) take_mono
    obtain ⟨cnt, rfl⟩ : ∃ a : Nat, d0 = (a : Int) := ⟨d0.toNat, by omega⟩
    refine ⟨cnt, rfl, by omega, fun i σ H' => ∃ (at_ : Nat) (v5 v6 v7 : Option V) (ls : List Addr) (ws : List Lt) (p' n' : Int), σ = sgW (.ref b) (.ref pp) (.ref Dl) (some (.ref F)) (some (.int (at_ : Nat))) v5 v6 v7 ∧ at_ < A.length ∧ Bk H H' b q p' n' ∧ H' F = some (.lst (ls.map V.ref)) ∧ Paired (LtAt H') ls ws ∧ (∀ l ∈ ws, LtOk l) ∧ ws.length = i ∧ n' ≤ n + 1 + 8 * i, ⟨0, _, _, _, [], [], p1, n1, rfl, ax.l0, B0.trans B1, B1.sb _ _ bF.symm hF, .nil, (fun _ h => nomatch h), rfl, by omega⟩, ?_, ?_⟩
    · rintro i σ H2 hi ⟨at_, v5, v6, v7, ls, ws, p2, n2, rfl, atl, B2, hF2, pls, wok, wl, le2⟩
      have lls := Paired.length pls
      have tk2 := B2.tk hb
      obtain ⟨rs, ers⟩ : ∃ rs, A[at_]? = some rs := ⟨_, List.getElem?_eq_getElem atl⟩
      obtain ⟨xs, rl, rok⟩ := ax.ok rs (List.mem_of_getElem? ers)
      show tSeq _ _ _ (sgW (.ref b) (.ref pp) (.ref Dl) (some (.ref F)) (some (.int (at_ : Nat))) (some (.int (i : Nat))) v6 v7) H2
      refine s_set (r_call2 (va := .ref pp) (vb := .int (at_ : Nat)) (val_var rfl) (val_var rfl) ⟨pp, A, at_, rs, rfl, hp.mono tk2, ers, rl, fun r hr => (rok r hr).2.2, fun H3 M ts s3 nM hM plt => ?_⟩)
      have lts := Paired.length plt
      have B3 := B2.same s3
      have hF3 := s3 _ _ hF2
      have bM : b ≠ M := ne_of_none B2.hb nM
      have FM : F ≠ M := ne_of_none hF2 nM
      show tSeq _ _ _ (sgW (.ref b) (.ref pp) (.ref Dl) (some (.ref F)) (some (.int (at_ : Nat))) (some (.int (i : Nat))) (some (.ref M)) v7) H3
      refine s_set (r_tupT3 (r_call2T ((val_var (v := .ref b) rfl) _ (r_cb1 (va := .ref Dl) (val_var rfl) ⟨Dl, ds, rfl, SqL.of (B3.sb _ _ bD.symm hD), by omega, fun ys L perm srt nL => ?_⟩))))
      have s4 := same_upd (o := .lst (ys.map V.str)) nL
      have B4 := B3.same s4
      have bL : b ≠ L := ne_of_none B3.hb nL
      refine ⟨b, L, ys.map V.str, p2, q, n2, rfl, B4.hb, B4.bo, bL, upd_same, by rw [List.length_map, perm.length_eq]; exact dl0, by rw [List.length_map, perm.length_eq]; omega, by omega, fun iz vz H5 p5 n5 ez B45 le5 => ?_⟩
      obtain ⟨z, hz, rfl⟩ : ∃ z, z ∈ ds ∧ vz = .str z := by
        have := List.mem_of_getElem? ez
        obtain ⟨z, hz, rfl⟩ := List.mem_map.mp this
        exact ⟨z, perm.mem_iff.mp hz, rfl⟩
      have B5 := B4.trans B45
      have keep5 : ∀ x o, x ≠ b → H3 x = some o → H5 x = some o := fun x o nx e => B45.sb _ _ nx (s4 _ _ e)
      refine r_take (val_var rfl) val_c B5.hb B5.bo (by decide) (by decide) (by omega) fun d6 p6 n6 H6 d60 d61 le6 B6 => ?_
      obtain ⟨wv, rfl⟩ : ∃ a : Nat, d6 = (a : Int) := ⟨d6.toNat, by omega⟩
      have B06 := B5.trans B6
      refine r_op (r_take (val_var rfl) val_c B6.hb B6.bo (by decide) (by decide) (by omega) fun d7 p7 n7 H7 d70 d71 le7 B7 => val_c _ ⟨d7, 2, rfl, rfl, ⟨by show 3 ≤ sizeLine; decide, fun t nt => ?_⟩⟩)
      have s8 := same_upd (o := .tup [.str z, .int (wv : Nat), .int (d7 - 2)]) nt
      have ht : LtAt (upd H7 t (.tup [.str z, .int (wv : Nat), .int (d7 - 2)])) t ((z, wv), d7 - 2) := upd_same
      have B8 := (B06.trans B7).same s8
      have keep8 : ∀ x o, x ≠ b → H3 x = some o → (upd H7 t (.tup [.str z, .int (wv : Nat), .int (d7 - 2)])) x = some o := fun x o nx e => s8 _ _ (B7.sb _ _ nx (B6.sb _ _ nx (keep5 x o nx e)))
      generalize (upd H7 t (.tup [.str z, .int (wv : Nat), .int (d7 - 2)])) = H8 at s8 ht B8 keep8 ⊢
      have lok : LtOk ((z, wv), d7 - 2) := ⟨dpool z hz, by show wv < 4; omega, by show -2 ≤ d7 - 2; omega, by show d7 - 2 < 4; omega⟩
      have hF8 := keep8 _ _ bF.symm hF3
      have hM8 := keep8 _ _ bM.symm hM
      have tk8 : TKeep H3 H8 := fun x ys e => keep8 _ _ (fun z => by rw [z, B3.hb] at e; cases e) e
      have pls8 : Paired (LtAt H8) ls ws := Paired.mapP pls fun _ _ z => tk8 _ _ (s3 _ _ z)
      have plt8 := Paired.mapP plt fun _ _ z => z.mono tk8
      show tSeq _ _ _ (sgW (.ref b) (.ref pp) (.ref Dl) (some (.ref F)) (some (.int (at_ : Nat))) (some (.int (i : Nat))) (some (.ref M)) (some (.ref t))) H8
      refine s_ifK (fun σ H' => ∃ (at2 : Nat) (t2 : Addr) (l : Lt) (p' n' : Int), σ = sgW (.ref b) (.ref pp) (.ref Dl) (some (.ref F)) (some (.int (at2 : Nat))) (some (.int (i : Nat))) (some (.ref M)) (some (.ref t2)) ∧ at2 < A.length ∧ LtAt H' t2 l ∧ LtOk l ∧ Bk H8 H' b q p' n' ∧ n' ≤ n2 + 6) ?_ fun hk => ?_
      · rintro σ H9 ⟨at2, t2, l, p9, n9, rfl, at2l, ht2, lok2, B9, le9⟩
        have hF9 := B9.sb _ _ bF.symm hF8
        refine e_drop (r_bm (va := .ref F) (val_var rfl) (.inl ⟨rfl, _, SqL.of hF9⟩) ((val_var (v := .ref t2) rfl) _ ⟨F, _, _, rfl, rfl, hF9, by rw [List.length_map, lls]; exact Nat.lt_of_le_of_lt (show _ ≤ 100 by omega) (by decide), ?_⟩))
        have tk9 := B9.tk B8.hb
        have tk : TKeep H9 (upd H9 F (.lst (ls.map V.ref ++ [.ref t2]))) := fun x ys e => by
          rw [upd_ne (fun z => by rw [z, hF9] at e; cases e)]
          exact e
        have nF0 : H F = none := nF
        refine ⟨at2, _, _, _, ls ++ [t2], ws ++ [l], p9, n9, rfl, at2l, ⟨fun x o nx e => ?_, ?_, B9.bo⟩, by rw [upd_same, List.map_append]; rfl, paired_app (Paired.mapP pls8 fun _ _ z => tk _ _ (tk9 _ _ z)) (tk _ _ ht2), fun l' hl' => ?_, by rw [List.length_append, wl]; rfl, by omega⟩
        · rw [upd_ne (ne_of_none e nF0)]
          exact B9.sb _ _ nx (B8.sb _ _ nx e)
        · rw [upd_ne bF]
          exact B9.hb
        · rcases List.mem_append.mp hl' with h | h
          · exact wok l' h
          · rw [List.mem_singleton.mp h]
            exact lok2
      · have B88 : Bk H8 H8 b q p7 n7 := Bk.start B8.hb B8.bo
        show tAnd _ _ _ _ _
        unfold tAnd
        refine r_testT (r_op ((val_var (v := .ref M) rfl) _ (r_lst0 fun z9 H9 s9 nz hz9 => ⟨M, z9, _, rfl, rfl, SqL.of (s9 _ _ hM8), SqL.of hz9, _, rfl, ?_⟩)))
        have B9 := B88.same s9
        by_cases e0 : (ts.map V.ref).length = 0
        · rw [e0]
          refine iteF (iteF ?_)
          exact hk _ _ ⟨at_, t, _, p7, n7, rfl, atl, s9 _ _ ht, lok, B9, by omega⟩
        · rw [show ((ts.map V.ref).length == 0) = false by simpa using e0]
          refine iteT (r_testT (r_op (r_take (val_var rfl) val_c B9.hb B9.bo (by decide) (by decide) (by omega) fun da pa na Ha da0 da1 lea Ba => val_c _ ⟨da, 0, rfl, rfl, _, rfl, ?_⟩)))
          have B10 := B9.trans Ba
          by_cases dp : 0 < da
          · rw [decide_eq_true dp]
            refine iteT (e_asg (r_call2 (va := .ref b) (vb := .ref M) (val_var rfl) (val_var rfl) ⟨b, M, ts.map V.ref, pa, q, na, rfl, B10.hb, B10.bo, bM, B10.sb _ _ bM.symm hM8, by omega, ?_, by omega, fun j v Hb pb nb ev Bb leb => ?_⟩))
            · rw [List.length_map, lts]
              have := lets_few (rs := rs) fun r hr => (rok r hr).2.2
              omega
            · obtain ⟨tj, etj, rfl⟩ : ∃ t, ts[j]? = some t ∧ v = .ref t := by
                rw [List.getElem?_map] at ev
                cases e : ts[j]? with
                | none => rw [e] at ev; cases ev
                | some i => rw [e] at ev; exact ⟨i, rfl, (Option.some.inj ev).symm⟩
              have B11 := B10.trans Bb
              obtain ⟨ln, eln, l, htj, hl⟩ := paired_at j (Paired.mapP plt8 fun _ _ z => z.mono (B11.tk B8.hb)) etj
              obtain ⟨x0, x1, xok⟩ := let_in xs rok (List.mem_of_getElem? eln)
              refine g_pair htj rfl ?_
              refine hk _ _ ⟨ln.2.toNat, l, ln.1, pb, nb, ?_, by omega, hl, xok, B11, by omega⟩
              rw [Int.toNat_of_nonneg x0]
              rfl
          · rw [decide_eq_false dp]
            refine iteF ?_
            exact hk _ _ ⟨at_, t, _, pa, na, rfl, atl, (B10.tk B8.hb) _ _ ht, lok, B10, by omega⟩
    · rintro σ H2 ⟨at_, v5, v6, v7, ls, ws, p2, n2, rfl, atl, B2, hF2, pls, wok, wl, le2⟩
      refine e_ret (r_tupleL (val_var (v := .ref F) rfl) (SqL.of hF2) fun r H3 s3 nr hr => ?_)
      exact k H3 r ws p2 n2 (B2.same s3) (by omega) ⟨ls, hr, Paired.mapP pls fun _ _ z => s3 _ _ z⟩ wok (by omega)
end
end K5
namespace K5
open PySem PySem.Spec PyProof.Rows L2
/-- all but the table at T -/
def KeepT (T : Addr) (H H' : Hp) : Prop := ∀ b o, b ≠ T → H b = some o → H' b = some o
/-! ### a lambda is made: only the maker's own table is written -/
def lamQ (X : Cx) : Str := X.env.qual ++ "<lambda>"
section
variable {X : Cx} {pins : List (Addr × Obj)} {σ : L2.St} {G : Hp} {st : Shared}
/-- what a lambda's object is -/
def lamOb (X : Cx) (ps : Arguments) (e : Expr) (sc : Scope) (pm : Value) (k : Addr) (v : Value) : Obj := PySem.W.kla_obj "<lambda>" (lamQ X) ps e sc (cloFrom X.env.cells sc.names []) pm k v
theorem lam_made {cd T : Addr} {ps : Arguments} {e : Expr} {sc : Scope} {at_ : Pos} {R Er : Value → Shared → Prop} (J : Inv X pins σ G st) (tb : LamX.TabB X.base X.mg cd T) (own : X.env.code = .ref cd) (ht : LamX.TabS G T (lamQ X)) (plain : defaultsOf ps X.env = ([], []))
    (clo : ∀ y ∈ sc.names, y.2 = .free → ∃ z, X.env.cells.lookup y.1 = some z)
    (go : ∀ (l k : Addr) (pm v : Value) (G1 : Hp) (s1 : Shared), Inv X pins σ G1 s1 → KeepT T G G1 → LamX.TabS G1 T (lamQ X) → s1.heap.get? l = some (lamOb X ps e sc pm k v) → G1 l = none → l ∉ frs X.stack → G1 k = some (LamX.CodeO k (lamQ X)) → R (.ref l) s1) :
    wpAny (model X.prog X.w) X.A (eval (.Lambda ps e sc at_) X.env) R Er st := by
  obtain ⟨rows, isT, tri, among⟩ := ht
  refine PySem.W.kla_eval plain ?_
  have onHeap : st.heap.get? T = some { cls := .none, data := .fields rows } := J.hok T _ isT
  have noFrame : ∀ l, st.heap.objs.size ≤ l → l ∉ frs X.stack := by
    intro l big inF
    cases List.mem_cons.mp (J.stkSub _ inF) with
    | inl same =>
      have small := J.lt
      rw [← same] at small
      exact absurd small (Nat.not_lt_of_le big)
    | inr other => exact J.nofs big other
  have builtins : st.heap.BuiltinsAt X.mg T := tb.bm.keeps J.bk
  match known : codeAmong at_ rows.toList with
  | some v =>
    obtain ⟨k, rfl, isCode⟩ := among at_ v known
    refine PySem.W.kla_makeFunctionHit (mg := X.mg) (c := cd) (P := T) (ps := rows) (closure_ok clo) J.ok.glob (J.mod.glob.keeps J.bk) own (tb.code.keeps J.bk) onHeap tri known builtins ?_
    intro ctv hp tk grown size
    have J1 : Inv X pins σ G { st with heap := hp.push (lamOb X ps e sc ((X.mg "__name__").getD .none) k ctv), toks := tk } := J.kept fun b o z => Heap.get?_push_of_some _ (grown b o z)
    exact go _ k _ ctv G _ J1 (fun _ _ _ z => z) ⟨rows, isT, tri, among⟩ (Heap.get?_push_size _ rfl) (J.hok.fresh size) (noFrame _ size) isCode
  | none =>
    refine PySem.W.kla_makeFunction (mg := X.mg) (c := cd) (P := T) (ps := rows) (closure_ok clo) J.ok.glob (J.mod.glob.keeps J.bk) own (tb.code.keeps J.bk) onHeap tri known tb.gP builtins ?_
    intro k ctv hp tk grown low high rec wrote
    obtain ⟨k2, oc, vs, tok, same, isOc, fields, named⟩ := rec
    cases same
    have size : st.heap.objs.size ≤ hp.objs.size := Nat.le_trans low (Nat.le_of_lt high)
    have newK : G k = none := J.hok.fresh low
    let G1 : Hp := upd (upd G T (.tbl (rows ++ #[rawInt at_.line, rawInt at_.col, .ref k]))) k (LamX.CodeO k (lamQ X))
    have J1 : Inv X pins σ G1 { st with heap := hp.push (lamOb X ps e sc ((X.mg "__name__").getD .none) k ctv), toks := tk } :=
      LamX.inv_table (more := #[rawInt at_.line, rawInt at_.col, .ref k]) J isT (fun b o nb z => Heap.get?_push_of_some _ (grown b o nb z)) (Heap.get?_push_of_some _ wrote) low ⟨oc, vs, tok, Heap.get?_push_of_some _ isOc, fields, named⟩
    have kept : KeepT T G G1 := fun b o nb z => by
      show upd _ k _ b = _
      rw [upd_ne (ne_of_none z newK), upd_ne nb]
      exact z
    have codeK : G1 k = some (LamX.CodeO k (lamQ X)) := upd_same
    have notT : ∀ d, G d = some (LamX.CodeO d (lamQ X)) → d ≠ T := fun d z w => by
      rw [w, isT] at z
      exact LamX.codeO_ne rows (Option.some.inj z).symm
    have split : (rows ++ #[rawInt at_.line, rawInt at_.col, .ref k]).toList = rows.toList ++ [rawInt at_.line, rawInt at_.col, .ref k] := by simp
    refine go hp.objs.size k _ ctv G1 _ J1 kept ⟨_, (upd_ne (ne_of_none isT newK)).trans upd_same, ?_, fun p cv z => ?_⟩ (Heap.get?_push_size _ rfl) ?_ (noFrame _ size) codeK
    · rw [split]
      exact PySem.TriplesOk_snoc _ _ _ _ tri
    · rw [split] at z
      cases LamX.among_app _ tri z with
      | inl old =>
        obtain ⟨d, eq, isD⟩ := among p cv old
        exact ⟨d, eq, kept _ _ (notT d isD) isD⟩
      | inr new => exact ⟨k, new, codeK⟩
    · show upd _ k _ hp.objs.size = none
      rw [upd_ne (Nat.ne_of_gt high), upd_ne (Nat.ne_of_gt (Nat.lt_of_lt_of_le (Heap.lt_size onHeap) size))]
      exact J.hok.fresh size
/-- x(lambda: e): the table T of the maker, its promise TT -/
def tLamT (T : Addr) (q : Str) (TT : (XK → Hp → VK → Prop) → Hp → VK → Prop) (t : XK → TE) : TE := fun σ G R => LamX.TabS G T q ∧ ∀ G1, KeepT T G G1 → LamX.TabS G1 T q → TT (fun E G' R' => t E σ G' R') G1 R
theorem pe_lamT {TT : (XK → Hp → VK → Prop) → Hp → VK → Prop} {x a : Str} {g cd T : Addr} {k : Nat} {pg : Arguments} {bg : List Stmt} {sg : Scope} {dV kV doc pm cdv ct oc : Value} {an od : Option Addr} {osl : Array (Option Value)} {Ng : List Str}
    {ps : Arguments} {e : Expr} {sc : Scope} {t : XK → TE} {p1 p2 p3 : Pos} (gl : Gl X x) (isG : X.mg x = some (.ref g)) (kp : PySem.W.keepIn X.K (.ref g) = true)
    (lk : X.K.lookup g = some ⟨oc, od, .func (PySem.W.fnOf x x pg bg sg dV kV doc pm an cdv ct), osl⟩) (hcg : PySem.W.codeIn X.K cdv x = true) (binds : L2.Binds X.K (PySem.W.fnOf x x pg bg sg dV kV doc pm an cdv ct) [a] []) (Sg : FnScope Ng [a] sg) (first : Ng[0]? = some a) (vis : L2.Vis sg a)
    (gives : LamX.GivesTo X Ng x sg g cdv bg a (lamQ X) TT) (tb : LamX.TabB X.base X.mg cd T) (own : X.env.code = .ref cd) (room : Room (k + 2) X.A) (L : LamX.LamS X.env.scope sc) (plain : defaultsOf ps X.env = ([], []))
    (none_ : ∀ (q : Str) (cl : List (Str × Addr)) (pm cv ctv : Value), bindArgs (PySem.W.kla_fn "<lambda>" q ps e sc cl pm cv ctv) ⟨[], []⟩ = pure [])
    (reads : ∀ (A : Around) (outer : List Env) (s : Shared) (G : Hp) (E : XK) (f c' : Addr), Room k (A.deeper (LamX.lamEnv X sc s.heap.objs.size f c')) → PE (LamX.lamCx X A outer s G E sc f c') e (t E))
    (d1 : (x == ("__debug__" : Str)) = false := by decide) (d2 : (a == ("__debug__" : Str)) = false := by decide) (d3 : (a == ("__classdict__" : Str)) = false := by decide) :
    PE X (.Call (.Name x p1) [.Lambda ps e sc p2] [] p3) (tLamT T (lamQ X) TT t) := by
  constructor
  intro pins s σ G R J want
  apply wpAny_Call_Name_kw
  apply ld_glob J gl isG _ d1
  apply PySem.W.callWith_K (h₀ := X.base) J.ok.mod.kin kp _ (by rfl) (by rfl)
  show wpAny _ _ (spliced ((false, eval (.Lambda ps e sc p2) X.env) :: backTo p3 (starEach [] X.env))) _ _ s
  apply Calls.spliced_cons
  apply lam_made J tb own want.1 plain (L.has J.ok)
  intro l c' pm' ctv G1 s' J1 kept tab isL newL nofr code
  refine Calls.spliced_nil ⟨J1.kIn, ?_⟩
  have runs : codeAny (model X.prog X.w) X.A (.call (.ref g) ⟨[.ref l], []⟩) (CR C8.CX0 X.stack X.prog X.w G1 s' R C8.E0) s' := by
    apply LamX.run_ofS (N := Ng) (ps := [a]) (us := [.ref l]) (vs := [.ref l]) lk hcg Sg room J1.env0 (binds s' [.ref l] J1.kIn rfl) (.cons rfl .nil) rfl
    intro room'
    obtain ⟨t', ht', hq'⟩ := gives l c' s' G1 R (fun E G' R' => t E σ G' R') (fun W pn xe E q1 q2 tk hW => LamX.pe_act (i := 0) J1 L isL newL nofr (none_ _ _ _ _ _) tk hW room' (fun A outer s G hr2 => reads A outer s G E l c' hr2) first vis d2 d3) code (want.2 G1 kept tab)
    exact ⟨t', ht'.nox, hq'⟩
  apply wpAny_call
  apply codeAny_mono runs
  intro r s2 hq
  match r, hq with
  | .error _, hq => exact hq.elim
  | .ok (.ret _), hq => exact J1.after hq
  | .ok .next, hq => exact hq.elim
  | .ok .brk, hq => exact hq.elim
  | .ok .cont, hq => exact hq.elim
end
/-! ### promises of defs that show things: they are called while nothing is being shown -/
structure FnG (P : Program) (w : World) (K : PySem.W.Frag) (mg : Str → Option Value) (base : Heap) (cx : CXT) (lv : Nat) (g : Addr) (rec : FuncData) (ns : List Str) (pr : Sp) : Prop where
  many : ∀ xs G R T, pr xs G R T → xs.length = ns.length
  does : ∀ (B : Around) (out : List Env) (st : Shared) (G : Hp) (as : Args) (zs : List Value) (xs : List V) (R : VK) (T : XK), B.guards = some [] → Room lv B →
    Env0 P w K mg base B out st G → BindsTo st rec as (ns.zip zs) → Vals xs zs → pr xs G R T → codeAny (model P w) B (.call (.ref g) as) (CR cx out P w G st R T) st
section
variable {P : Program} {w : World} {K : PySem.W.Frag} {mg : Str → Option Value} {base : Heap}
theorem okG {x qual : Str} {d : Stmt} {g : Addr} {rec : FuncData} {N ns : List Str} {lv : Nat} {pr : Sp} {cx : CXT} (F : Fun K x qual d g rec) (S : FnScope N ns (defScope d)) (many : ∀ xs G R T, pr xs G R T → xs.length = ns.length)
    (runs : ∀ (cd : Value) (B : Around) (out : List Env) (st : Shared) (G : Hp) (xs : List V) (R : VK) (T : XK), B.guards = some [] → Room lv (B.deeper (envOfC qual (defScope d) st.heap.objs.size g cd)) → pr xs G R T →
      ∃ t, PSs (cxOf cx P w K mg base N qual (defScope d) g cd B out st G T) (defBody d) t ∧ t { nx := fun _ G' => R .non G', rt := R } (start N xs) G) : FnG P w K mg base cx (lv + 1) g rec ns pr := by
  obtain ⟨oc, od, kV, doc, pm, an, cd, ct, sl, rfl, lk, hcd⟩ := F.ex
  constructor
  · exact many
  intro B out st G as zs xs R T gu room e bind rel p
  have size := many _ _ _ _ p
  have still : ∀ b o, base.get? b = some o → st.heap.get? b = some o := fun b o z => (e.bs b o z).1
  have inK : K.In st.heap := e.mod.kin.keeps still
  have nol : st.heap.NoLimit := e.mod.nolimit.keeps still
  have kinds : ∀ y ∈ ns.zip zs, (defScope d).names.lookup y.1 = some .local ∨ ((defScope d).names.lookup y.1 = some .cell ∧ ((cellsFrom (st.heap.objs.size + 1) (defScope d).names []).lookup y.1).isSome = true) := by
    rintro ⟨n, v⟩ hy
    have q := S.par n (List.of_mem_zip hy).1
    exact q.imp id fun c => ⟨c, PySem.W.cellsFrom_some _ _ _ (.inl c)⟩
  apply codeAny_call_function room.depth (inK _ _ lk) rfl S.co S.gen rfl (PySem.W.codeRec_of inK hcd)
  refine bind _ _ _ _ (wpAny_newFunctionEnv_cells S.kind kinds ?_)
  intro env he s1 ic
  subst he
  obtain ⟨t, ht, hq⟩ := runs cd B out st G xs R T gu (room.deeper _) p
  have I0 := inv_start (CX := cx) (P := P) (w := w) (K := K) (mg := mg) (base := base) (qual := qual) (cd := cd) (f := g) (E := T) S room.hd e size rel ic
  refine ⟨nol.keeps ic.toInCall.keep, codeAny_func (wpAny_mono (ht.run [] s1 (start N xs) G _ I0 hq) ?_ fun _ _ z => z)⟩
  intro fl s2 hs
  have ends : ∀ {σ2 : L2.St} {G2 : Hp} {v : V} {u : Value}, Inv (cxOf cx P w K mg base N qual (defScope d) g cd B out st G T) [] σ2 G2 s2 → RelV v u → R v G2 → CE out P w G st R u s2 := by
    intro σ2 G2 v u J r q
    exact ⟨v, G2, J.os, J.bare, J.base, J.hok, r, q⟩
  match fl, hs with
  | .ret u, ⟨v, σ2, G2, J, r, q⟩ => exact ends J r q
  | .next, ⟨σ2, G2, J, q⟩ => exact ends (v := V.non) (u := Value.none) J rfl q
  | .brk, ⟨_, _, _, q⟩ => exact q.elim
  | .cont, ⟨_, _, _, q⟩ => exact q.elim
end
section
variable {X : Cx} {cx : CXT} {k : Nat} {f : Addr} {fd : FuncData} {ps : List Str} {sp : Sp} {x : Str} {E : XK} {p pos : Pos} {e : Expr} {es : List Expr} {t : TA}
theorem pe_callG (F : FnG X.prog X.w X.K X.mg X.base cx k f fd ps sp) (gu : X.A.guards = some []) (room : Room k X.A) (gl : Gl X x) (hm : X.mg x = some (.ref f)) (kp : PySem.W.keepIn X.K (.ref f) = true) (hb : Binds X.K fd ps []) (out : Passes cx X E)
    (ha : PA X (e :: es) t) (hdb : (x == ("__debug__" : Str)) = false := by decide) (he : starEach (e :: es) X.env = (false, eval e X.env) :: starEach es X.env := by rfl) (hpl : (backTo pos (starEach es X.env)).any (·.1) = false := by rfl) :
    PE X (.Call (.Name x p) (e :: es) [] pos) (tCall sp [] E t) := by
  constructor
  intro pins s σ H Q I h
  apply wpAny_Call_Name_kw
  apply ld_glob I gl hm _ hdb
  apply PySem.W.callWith_K (h₀ := X.base) I.ok.mod.kin kp _ he hpl
  refine thn (ha.run pos pins s σ H _ I h) ?_
  rintro us s1 ⟨vs, H1, I1, r, q⟩
  rw [List.append_nil] at q
  refine ⟨I1.kIn, wpAny_call (codeAny_mono (F.does X.A X.stack s1 H1 ⟨us, []⟩ us vs Q E gu room I1.env0 ?_ r q) ?_)⟩
  · have z := hb s1 us I1.kIn (by rw [List.append_nil, ← r.length]; exact F.many _ _ _ _ q)
    rw [List.append_nil] at z
    exact z
  · intro res s2 hq
    match res, hq with
    | .error v, hq => exact out pins σ H1 s1 v s2 I1 hq
    | .ok (.ret u), hq => exact I1.after hq
    | .ok .next, hq => exact hq.elim
    | .ok .brk, hq => exact hq.elim
    | .ok .cont, hq => exact hq.elim
end

/-- such a def, its code object known -/
theorem okGC {P : Program} {w : World} {K : PySem.W.Frag} {mg : Str → Option Value} {base : Heap} {x qual : Str} {d : Stmt} {g c : Addr} {rec : FuncData} {N ns : List Str} {lv : Nat} {pr : Sp} {cx : CXT} (F : FunT K x qual d g rec c) (S : FnScope N ns (defScope d)) (many : ∀ xs G R T, pr xs G R T → xs.length = ns.length)
    (runs : ∀ (B : Around) (out : List Env) (st : Shared) (G : Hp) (xs : List V) (R : VK) (T : XK), B.guards = some [] → Room lv (B.deeper (envOfC qual (defScope d) st.heap.objs.size g (.ref c))) → pr xs G R T →
      ∃ t, PSs (cxOf cx P w K mg base N qual (defScope d) g (.ref c) B out st G T) (defBody d) t ∧ t { nx := fun _ G' => R .non G', rt := R } (start N xs) G) : FnG P w K mg base cx (lv + 1) g rec ns pr := by
  obtain ⟨oc, od, kV, doc, pm, an, ct, sl, rfl, lk, hcd⟩ := F.ex
  constructor
  · exact many
  intro B out st G as zs xs R T gu room e bind rel p
  have size := many _ _ _ _ p
  have still : ∀ b o, base.get? b = some o → st.heap.get? b = some o := fun b o z => (e.bs b o z).1
  have inK : K.In st.heap := e.mod.kin.keeps still
  have nol : st.heap.NoLimit := e.mod.nolimit.keeps still
  have kinds : ∀ y ∈ ns.zip zs, (defScope d).names.lookup y.1 = some .local ∨ ((defScope d).names.lookup y.1 = some .cell ∧ ((cellsFrom (st.heap.objs.size + 1) (defScope d).names []).lookup y.1).isSome = true) := by
    rintro ⟨n, v⟩ hy
    have q := S.par n (List.of_mem_zip hy).1
    exact q.imp id fun c => ⟨c, PySem.W.cellsFrom_some _ _ _ (.inl c)⟩
  apply codeAny_call_function room.depth (inK _ _ lk) rfl S.co S.gen rfl (PySem.W.codeRec_of inK hcd)
  refine bind _ _ _ _ (wpAny_newFunctionEnv_cells S.kind kinds ?_)
  intro env he s1 ic
  subst he
  obtain ⟨t, ht, hq⟩ := runs B out st G xs R T gu (room.deeper _) p
  have I0 := inv_start (CX := cx) (P := P) (w := w) (K := K) (mg := mg) (base := base) (qual := qual) (cd := .ref c) (f := g) (E := T) S room.hd e size rel ic
  refine ⟨nol.keeps ic.toInCall.keep, codeAny_func (wpAny_mono (ht.run [] s1 (start N xs) G _ I0 hq) ?_ fun _ _ z => z)⟩
  intro fl s2 hs
  have ends : ∀ {σ2 : L2.St} {G2 : Hp} {v : V} {u : Value}, Inv (cxOf cx P w K mg base N qual (defScope d) g (.ref c) B out st G T) [] σ2 G2 s2 → RelV v u → R v G2 → CE out P w G st R u s2 := by
    intro σ2 G2 v u J r q
    exact ⟨v, G2, J.os, J.bare, J.base, J.hok, r, q⟩
  match fl, hs with
  | .ret u, ⟨v, σ2, G2, J, r, q⟩ => exact ends J r q
  | .next, ⟨σ2, G2, J, q⟩ => exact ends (v := V.non) (u := Value.none) J rfl q
  | .brk, ⟨_, _, _, q⟩ => exact q.elim
  | .cont, ⟨_, _, _, q⟩ => exact q.elim
/-! ### what stays beside the box and the tables -/
def Nt (o : HO) : Prop := ∀ ps, o ≠ .tbl ps
def KB (b : Addr) (H H' : Hp) : Prop := ∀ x o, x ≠ b → Nt o → H x = some o → H' x = some o
theorem KB.of {b : Addr} {H H' : Hp} (s : SameBut b H H') : KB b H H' := fun x o n _ e => s x o n e
theorem KB.trans {b : Addr} {H H1 H2 : Hp} (a : KB b H H1) (c : KB b H1 H2) : KB b H H2 := fun x o n t e => c x o n t (a x o n t e)
theorem KB.kt {b T : Addr} {H H' : Hp} {ps : Array Value} (k : KeepT T H H') (h : H T = some (.tbl ps)) : KB b H H' := fun x o _ nt e => k x o (fun z => by
  rw [z, h] at e
  exact nt ps (Option.some.inj e).symm) e
theorem nt_lst {xs : List V} : Nt (.lst xs) := fun _ z => nomatch z
theorem nt_tup {xs : List V} : Nt (.tup xs) := fun _ z => nomatch z
theorem nt_dK {xs : List (Key × V)} : Nt (.dK xs) := fun _ z => nomatch z
mutual
theorem Dq.ext {H H' : Hp} (e : ∀ x o, Nt o → H x = some o → H' x = some o) : ∀ {v : V} {d : PyData}, Dq H v d → Dq H' v d
  | _, _, .non => .non
  | _, _, .bl b => .bl b
  | _, _, .int i => .int i
  | _, _, .str x => .str x
  | _, _, .lst h n a => .lst (e _ _ nt_lst h) n (DqA.ext e a)
  | _, _, .tup h a => .tup (e _ _ nt_tup h) (DqA.ext e a)
  | _, _, .dic h => .dic (e _ _ nt_dK h)
  | _, _, .di1 h a => .di1 (e _ _ nt_dK h) (Dq.ext e a)
theorem DqA.ext {H H' : Hp} (e : ∀ x o, Nt o → H x = some o → H' x = some o) : ∀ {vs : List V} {ds : List PyData}, DqA H vs ds → DqA H' vs ds
  | _, _, .nil => .nil
  | _, _, .cons a b => .cons (Dq.ext e a) (DqA.ext e b)
end
/-! ### lists whose address is known to be new -/
def tLstN (t : TA) : TE := fun σ H Q => t σ H fun xs H1 => xs.length ≤ sizeLine ∧ ∀ p, H1 p = none → p ≠ sysModules → Q (.ref p) (upd H1 p (.lst xs))
section
variable {X : Cx} {es : List Expr} {t : TA} {pos : Pos}
theorem pe_lstN (h : PA X es t) : PE X (.List es pos) (tLstN t) := by
  refine ⟨fun pins s σ H Q I hq => ?_⟩
  refine wpAny_List_spliced (thn (h.run pos pins s σ H _ I hq) fun us s1 ⟨xs, H1, I1, r, z, q⟩ => ⟨by rw [← r.length]; exact z, ?_⟩)
  have hf : H1 s1.heap.objs.size = none := I1.hok.fresh (Nat.le_refl _)
  exact ⟨.ref s1.heap.objs.size, upd H1 s1.heap.objs.size (.lst xs), I1.laid (t' := s1.toks) (fun b u e => Heap.get?_push_of_some _ e) (Nat.le_refl _) ⟨z, us, 0, r, Heap.get?_push_size _ rfl⟩, rfl, q _ hf (Ne.symm (Nat.ne_of_lt I1.big))⟩
def rListN (K : PySem.W.Frag) : List V → Hp → VK → Prop := fun xs H Q => ∃ p ys, xs = [.ref p] ∧ SqT K H p ys ∧ ∀ l, H l = none → l ≠ sysModules → Q (.ref l) (upd H l (.lst ys))
theorem call_listN : CallR X (.type "list") (rListN X.K) := by
  intro pins s σ H xs us Q I r h
  obtain ⟨p, ys, rfl, hq, q⟩ := h
  obtain ⟨u, rfl, rx⟩ := vals1 r
  cases rx
  obtain ⟨its, r', pl, hz⟩ := I.tuple hq
  have hlen := r'.length
  obtain ⟨o, ho, hc, n, hd⟩ := pl
  exact call_list_seq p (.inr rfl) ho hc hd (fun h' c' kp e =>
    ⟨.ref s.heap.objs.size, _, I.laid (t' := s.toks) kp (Nat.le_refl _) (show ObjOk X.prog X.w _ h' _ (.lst ys) from ⟨hz, its, c', r', e⟩), rfl, q _ (I.hok.fresh (Nat.le_refl _)) (Ne.symm (Nat.ne_of_lt I.big))⟩) (by simp only [List.size_toArray] <;> omega)
end
/-! ### what stays -/
def KX (S : List Addr) (H H' : Hp) : Prop := ∀ x o, x ∉ S → H x = some o → H' x = some o
theorem tabS_kx {S : List Addr} {H H' : Hp} {P : Addr} {Q : Str} (t : LamX.TabS H P Q) (k : KX S H H') (n : P ∉ S) (hS : ∀ x ∈ S, (∃ xs, H x = some (.lst xs)) ∨ ∃ ps, H x = some (.tbl ps)) : LamX.TabS H' P Q := by
  obtain ⟨ps, h1, h2, h3⟩ := t
  refine ⟨ps, k _ _ n h1, h2, fun pos cv hc => ?_⟩
  obtain ⟨c, e1, e2⟩ := h3 pos cv hc
  refine ⟨c, e1, k _ _ (fun m => ?_) e2⟩
  rcases hS c m with ⟨xs, z⟩ | ⟨qs, z⟩
  · rw [z] at e2
    have e2 := Option.some.inj e2
    unfold LamX.CodeO at e2
    cases e2
  · rw [z] at e2
    have e2 := Option.some.inj e2
    unfold LamX.CodeO at e2
    cases e2
end K5
namespace K5
open PySem PySem.Spec PyProof.Rows L2
/-! ### how much any value is -/
structure Od (w p : Nat) (d : PyData) : Prop where
  s : d.showable = true
  l : d.leavesShort 20 = true
  w : d.weight ≤ w
  p : d.depth ≤ p
structure OdA (w p : Nat) (ds : List PyData) : Prop where
  s : PyData.showableAll ds = true
  l : PyData.leavesShortAll 20 ds = true
  w : PyData.weightAll ds ≤ w
  p : PyData.depthAll ds ≤ p
theorem Od.sh {w p : Nat} {d : PyData} (h : Od w p d) (hw : w ≤ 20000) (hp : p ≤ 50) : ShQ d := ⟨h.s, by
  have h1 := PyData.shown_le 20 (by decide) d h.l
  have h2 : (20 + 2) * d.weight ≤ 22 * 20000 := Nat.mul_le_mul (Nat.le_refl _) (Nat.le_trans h.w hw)
  rw [sizeLine_eq]
  omega, Nat.le_trans h.p hp⟩
theorem Od.mono {w p w' p' : Nat} {d : PyData} (h : Od w p d) (hw : w ≤ w') (hp : p ≤ p') : Od w' p' d := ⟨h.s, h.l, Nat.le_trans h.w hw, Nat.le_trans h.p hp⟩
theorem OdA.mono {w p w' p' : Nat} {d : List PyData} (h : OdA w p d) (hw : w ≤ w') (hp : p ≤ p') : OdA w' p' d := ⟨h.s, h.l, Nat.le_trans h.w hw, Nat.le_trans h.p hp⟩
theorem OdA.nil {w p : Nat} : OdA w p [] := ⟨rfl, rfl, Nat.zero_le _, Nat.zero_le _⟩
theorem OdA.cons {w v p : Nat} {d : PyData} {ds : List PyData} (a : Od w p d) (b : OdA v p ds) : OdA (w + 1 + v) p (d :: ds) := ⟨by
  show (d.showable && PyData.showableAll ds) = true
  rw [a.s, b.s]
  rfl, by
  show (d.leavesShort 20 && PyData.leavesShortAll 20 ds) = true
  rw [a.l, b.l]
  rfl, by
  have := a.w
  have := b.w
  show d.weight + 1 + PyData.weightAll ds ≤ _
  omega, by
  have := a.p
  have := b.p
  show max d.depth (PyData.depthAll ds) ≤ _
  omega⟩
theorem OdA.hd {w p : Nat} {d : PyData} {ds : List PyData} (h : OdA w p (d :: ds)) : Od w p d ∧ OdA w p ds := by
  have h1 : (d.showable && PyData.showableAll ds) = true := h.s
  have h2 : (d.leavesShort 20 && PyData.leavesShortAll 20 ds) = true := h.l
  have h3 : d.weight + 1 + PyData.weightAll ds ≤ w := h.w
  have h4 : max d.depth (PyData.depthAll ds) ≤ p := h.p
  rw [Bool.and_eq_true] at h1 h2
  exact ⟨⟨h1.1, h2.1, by omega, by omega⟩, ⟨h1.2, h2.2, by omega, by omega⟩⟩
theorem OdA.tup {w p : Nat} {ds : List PyData} (h : OdA w p ds) : Od w (p + 1) (.tuple ds) := ⟨h.s, h.l, h.w, Nat.succ_le_succ h.p⟩
theorem OdA.lst {w p : Nat} {ds : List PyData} (h : OdA w p ds) : Od w (p + 1) (.list ds) := ⟨h.s, h.l, h.w, Nat.succ_le_succ h.p⟩
theorem Od.untup {w p : Nat} {ds : List PyData} (h : Od w (p + 1) (.tuple ds)) : OdA w p ds := ⟨h.s, h.l, h.w, Nat.le_of_succ_le_succ h.p⟩
theorem Od.pos {w p : Nat} {ds : List PyData} (h : Od w p (.tuple ds)) : 1 ≤ p := Nat.le_trans (Nat.succ_le_succ (Nat.zero_le _)) h.p
theorem od_non {w p : Nat} : Od w p .none := ⟨rfl, rfl, Nat.zero_le _, Nat.zero_le _⟩
theorem od_bl {w p : Nat} (b : Bool) : Od w p (.bool b) := ⟨rfl, rfl, Nat.zero_le _, Nat.zero_le _⟩
theorem od_ints : ∀ i : Fin 420, (PyData.showable (.int ((i.val : Int) - 10)) && (PyData.leavesShort 20 (.int ((i.val : Int) - 10)) && decide (PyData.weight (.int ((i.val : Int) - 10)) ≤ 10))) = true := by decide +kernel
theorem od_int {p : Nat} {i : Int} (h0 : -10 ≤ i) (h1 : i < 410) : Od 10 p (.int i) := by
  have := od_ints ⟨(i + 10).toNat, by omega⟩
  rw [show (((i + 10).toNat : Nat) : Int) - 10 = i by omega, Bool.and_eq_true, Bool.and_eq_true] at this
  exact ⟨this.1, this.2.1, of_decide_eq_true this.2.2, Nat.zero_le _⟩
theorem od_big {p : Nat} : Od 60 p (.int (10 ^ 17)) := by
  have : (PyData.showable (.int (10 ^ 17)) && (PyData.leavesShort 20 (.int (10 ^ 17)) && decide (PyData.weight (.int (10 ^ 17)) ≤ 60))) = true := by decide +kernel
  rw [Bool.and_eq_true, Bool.and_eq_true] at this
  exact ⟨this.1, this.2.1, of_decide_eq_true this.2.2, Nat.zero_le _⟩
theorem od_str {n p : Nat} {z : Str} (hl : z.length ≤ n) (ho : PyData.strOk z = true) : Od n p (.str z) := ⟨rfl, PyData.leavesShort_of_canLay0 20 (.str z) ho rfl, hl, Nat.zero_le _⟩
theorem od_dic {w p : Nat} : Od w (p + 1) (.dict []) := ⟨rfl, rfl, Nat.zero_le _, Nat.succ_le_succ (Nat.zero_le _)⟩
theorem od_di1 {w p : Nat} {z : Str} {d : PyData} (hl : z.length ≤ 1) (ho : PyData.strOk z = true) (h : Od w p d) : Od (w + 3) (p + 1) (.dict [(.str z, d)]) := by
  have k := od_str (p := p) hl ho
  refine ⟨?_, ?_, ?_, ?_⟩
  · show ((PyData.showable (.str z) && d.showable) && true) = true
    rw [k.s, h.s]
    rfl
  · show ((PyData.leavesShort 20 (.str z) && PyData.leavesShort 20 d) && true) = true
    rw [k.l, h.l]
    rfl
  · have h1 := k.w
    have h2 := h.w
    show PyData.weight (.str z) + d.weight + 2 + 0 ≤ w + 3
    omega
  · have h1 := k.p
    have h2 := h.p
    show max (max (PyData.depth (.str z)) d.depth) 0 + 1 ≤ p + 1
    omega
/-! ### the words that are told -/
section
variable {L : Type} [DecidableEq L] {A : Nat → List (L × Nat)} {B : Nat → L → Option Nat} {Pl : L → Prop}
theorem go_good {m : Nat} : ∀ (cs : List (V13.Cand L)) (met : List V13.Pr) (out : List (V13.Ent L)), (∀ c ∈ cs, c.1.length ≤ m ∧ ∀ l ∈ c.1, Pl l) → (∀ e ∈ out, e.2.length ≤ m ∧ ∀ l ∈ e.2, Pl l) → match V13.go cs met out with
    | .inl w => w.length ≤ m ∧ ∀ l ∈ w, Pl l
    | .inr r => ∀ e ∈ r.2, e.2.length ≤ m ∧ ∀ l ∈ e.2, Pl l
  | [], _, _, _, ho => ho
  | (w, n, none) :: cs, met, out, hc, _ => hc _ List.mem_cons_self
  | (w, n, some b) :: cs, met, out, hc, ho => by
    have h1 := hc _ List.mem_cons_self
    have h2 : ∀ c ∈ cs, c.1.length ≤ m ∧ ∀ l ∈ c.1, Pl l := fun c h => hc c (List.mem_cons_of_mem _ h)
    show match (if (n, b) ∈ met then V13.go cs met out else V13.go cs ((n, b) :: met) (out ++ [((n, b), w)])) with
      | .inl w => w.length ≤ m ∧ ∀ l ∈ w, Pl l
      | .inr r => ∀ e ∈ r.2, e.2.length ≤ m ∧ ∀ l ∈ e.2, Pl l
    split
    · rename_i w2 e
      split at e
      · have := go_good cs met out h2 ho
        rw [e] at this
        exact this
      · have := go_good cs ((n, b) :: met) (out ++ [((n, b), w)]) h2 fun e he => by
          rcases List.mem_append.mp he with he | he
          · exact ho e he
          · rw [List.mem_singleton.mp he]
            exact h1
        rw [e] at this
        exact this
    · rename_i r e
      split at e
      · have := go_good cs met out h2 ho
        rw [e] at this
        exact this
      · have := go_good cs ((n, b) :: met) (out ++ [((n, b), w)]) h2 fun e he => by
          rcases List.mem_append.mp he with he | he
          · exact ho e he
          · rw [List.mem_singleton.mp he]
            exact h1
        rw [e] at this
        exact this
theorem bfs_good (hA : ∀ s, ∀ z ∈ A s, Pl z.1) : ∀ (f m : Nat) (Q : List (V13.Ent L)) (met : List V13.Pr) (w : List L), (∀ e ∈ Q, e.2.length ≤ m ∧ ∀ l ∈ e.2, Pl l) → V13.bfs A B f Q met = some w → w.length ≤ m + f ∧ ∀ l ∈ w, Pl l
  | 0, _, _, _, _, _, h => by cases h
  | f + 1, _, [], _, _, _, h => by cases h
  | f + 1, m, e :: q, met, w, hQ, h => by
    have he := hQ e List.mem_cons_self
    have g := go_good (Pl := Pl) (m := m + 1) (V13.cand A B e) met [] (fun c hc => by
      obtain ⟨z, hz, rfl⟩ := List.mem_map.mp hc
      refine ⟨?_, fun l hl => ?_⟩
      · show (e.2 ++ [z.1]).length ≤ m + 1
        rw [List.length_append]
        have := he.1
        show e.2.length + 1 ≤ m + 1
        omega
      · rcases List.mem_append.mp hl with hl | hl
        · exact he.2 l hl
        · rw [List.mem_singleton.mp hl]
          exact hA _ z hz) (fun _ h => nomatch h)
    rw [V13.bfs_cons] at h
    cases eg : V13.go (V13.cand A B e) met [] with
    | inl w2 =>
      rw [eg] at h g
      have h : some w2 = some w := h
      injection h with h
      subst h
      have g1 : w2.length ≤ m + 1 := g.1
      exact ⟨by omega, g.2⟩
    | inr r =>
      rw [eg] at h g
      have := bfs_good hA f (m + 1) (q ++ r.2) r.1 w (fun x hx => by
        rcases List.mem_append.mp hx with hx | hx
        · have := hQ x (List.mem_cons_of_mem _ hx)
          exact ⟨by omega, this.2⟩
        · exact g x hx) h
      exact ⟨by omega, this.2⟩
theorem go_diag : ∀ (cs : List (V13.Cand L)) (met : List V13.Pr) (out : List (V13.Ent L)), (∀ c ∈ cs, c.2.2 = some c.2.1) → (∀ e ∈ out, e.1.1 = e.1.2) → ∃ r, V13.go cs met out = .inr r ∧ ∀ e ∈ r.2, e.1.1 = e.1.2
  | [], met, out, _, ho => ⟨(met, out), rfl, ho⟩
  | (w, n, none) :: cs, _, _, hc, _ => by
    have := hc _ List.mem_cons_self
    cases this
  | (w, n, some b) :: cs, met, out, hc, ho => by
    have h1 : some b = some n := hc _ List.mem_cons_self
    injection h1 with h1
    subst h1
    have h2 : ∀ c ∈ cs, c.2.2 = some c.2.1 := fun c h => hc c (List.mem_cons_of_mem _ h)
    show ∃ r, (if (b, b) ∈ met then V13.go cs met out else V13.go cs ((b, b) :: met) (out ++ [((b, b), w)])) = .inr r ∧ _
    split
    · exact go_diag cs met out h2 ho
    · refine go_diag cs _ _ h2 fun e he => ?_
      rcases List.mem_append.mp he with he | he
      · exact ho e he
      · rw [List.mem_singleton.mp he]
theorem bfs_diag (hA : ∀ s, ∀ z ∈ A s, B s z.1 = some z.2) : ∀ (f : Nat) (Q : List (V13.Ent L)) (met : List V13.Pr), (∀ e ∈ Q, e.1.1 = e.1.2) → V13.bfs A B f Q met = none
  | 0, _, _, _ => rfl
  | f + 1, [], _, _ => rfl
  | f + 1, e :: q, met, hQ => by
    have he := hQ e List.mem_cons_self
    obtain ⟨r, h1, h2⟩ := go_diag (V13.cand A B e) met [] (fun c hc => by
      obtain ⟨z, hz, rfl⟩ := List.mem_map.mp hc
      show B e.1.2 z.1 = some z.2
      rw [← he]
      exact hA _ z hz) (fun _ h => nomatch h)
    rw [V13.bfs_cons, h1]
    exact bfs_diag hA f (q ++ r.2) r.1 fun x hx => by
      rcases List.mem_append.mp hx with hx | hx
      · exact hQ x (List.mem_cons_of_mem _ hx)
      · exact h2 x hx
end
theorem valV_mem {κ : Type} [DecidableEq κ] {kvs : List (κ × V)} (nd : (kvs.map (·.1)).Nodup) {k : κ} {v : V} (h : (k, v) ∈ kvs) : valV kvs k = some v := by
  induction kvs with
  | nil => cases h
  | cons p r ih =>
    rw [List.map_cons, List.nodup_cons] at nd
    rcases List.mem_cons.mp h with e | e
    · subst e
      exact valV_pos rfl
    · have ne : ¬ p.1 = k := fun z => nd.1 (by rw [z]; exact List.mem_map_of_mem (f := (·.1)) e)
      rw [valV_neg ne]
      exact ih nd.2 e
theorem fm_none {A : List (List RwD)} (ax : PcX A) : fmR A A = none := by
  unfold fmR
  refine bfs_diag (fun s z hz => ?_) _ _ _ fun e he => by rw [List.mem_singleton.mp he]
  unfold Af at hz
  unfold Bf
  cases e : A[s]? with
  | none => rw [e] at hz; cases hz
  | some rs =>
    rw [e] at hz
    obtain ⟨x, hx, rfl⟩ := List.mem_map.mp hz
    obtain ⟨a1, a2, a3⟩ := ax.ok rs (List.mem_of_getElem? e)
    have h1 := tab_val a1 x.1
    have h2 : valV (tabL rs) (kL x.1) = some (.int x.2) := valV_mem (lets_nodup a1) (List.mem_map.mpr ⟨x, hx, rfl⟩)
    rw [h2] at h1
    show (behR rs x.1.1.1 x.1.1.2 x.1.2).map Int.toNat = some x.2.toNat
    cases eb : behR rs x.1.1.1 x.1.1.2 x.1.2 with
    | none => rw [eb] at h1; cases h1
    | some n =>
      rw [eb] at h1
      injection h1 with h1
      injection h1 with h1
      rw [h1]
      rfl
theorem fm_good {A C : List (List RwD)} (ax : PcX A) {ws : List Lt} (h : fmR A C = some ws) : ws.length ≤ A.length * C.length + 2 ∧ ∀ l ∈ ws, LtOk l := by
  unfold fmR at h
  have := bfs_good (Pl := LtOk) (fun s z hz => by
    unfold Af at hz
    cases e : A[s]? with
    | none => rw [e] at hz; cases hz
    | some rs =>
      rw [e] at hz
      obtain ⟨x, hx, rfl⟩ := List.mem_map.mp hz
      obtain ⟨a1, a2, a3⟩ := ax.ok rs (List.mem_of_getElem? e)
      exact (let_in a1 a3 hx).2.2) _ 0 _ _ _ (fun e he => by rw [List.mem_singleton.mp he]; exact ⟨Nat.le_refl _, (fun _ h => nomatch h)⟩) h
  unfold fmN at this
  exact ⟨by omega, this.2⟩
/-! ### how much words and pacts are -/
theorem pool_len : ∀ z ∈ poolD, z.length ≤ 8 := by decide +kernel
theorem od_lt {p : Nat} {l : Lt} (h : LtOk l) : Od 31 (p + 1) (ltD l) := by
  obtain ⟨h1, h2, h3, h4⟩ := h
  exact ((OdA.cons (od_str (p := p) (pool_len _ h1) (pool_ok _ h1)) (OdA.cons (od_int (p := p) (i := (l.1.2 : Nat)) (by omega) (by omega)) (OdA.cons (od_int (p := p) (i := l.2) (by omega) (by omega)) (OdA.nil (w := 0))))).tup).mono (by decide) (Nat.le_refl _)
theorem oda_word {p : Nat} : ∀ {ws : List Lt}, (∀ l ∈ ws, LtOk l) → OdA (32 * ws.length) (p + 1) (ws.map ltD)
  | [], _ => OdA.nil
  | l :: ws, h => ((OdA.cons (od_lt (h l List.mem_cons_self)) (oda_word fun x hx => h x (List.mem_cons_of_mem _ hx))).mono (by rw [List.length_cons]; omega) (Nat.le_refl _))
theorem od_word {ws : List Lt} (h : ∀ l ∈ ws, LtOk l) : Od (32 * ws.length) 2 (wordD ws) := (oda_word (p := 0) h).tup
theorem oda_pairs {p : Nat} {m w : Nat} : ∀ {os : List (Int × Int)}, (∀ o ∈ os, -2 ≤ o.1 ∧ o.1 < 4 ∧ 0 ≤ o.2 ∧ o.2 < 90) → OdA (23 * os.length) (p + 1) (os.map pairD)
  | [], _ => OdA.nil
  | o :: os, h => by
    have h1 := h o List.mem_cons_self
    refine (OdA.cons (w := 22) (((OdA.cons (od_int (p := p) (i := o.1) (by omega) (by omega)) (OdA.cons (od_int (p := p) (i := o.2) (by omega) (by omega)) (OdA.nil (w := 0)))).tup).mono (by decide) (Nat.le_refl _)) (oda_pairs (p := p) (m := m) (w := w) fun x hx => h x (List.mem_cons_of_mem _ hx))).mono ?_ (Nat.le_refl _)
    rw [List.length_cons]
    omega
theorem od_row {w : Nat} {r : RwD} (h : RowL w r) (hw : w ≤ 5) : Od 120 3 (rwD r) := by
  have b : ∀ o ∈ r.2, -2 ≤ o.1 ∧ o.1 < 4 ∧ 0 ≤ o.2 ∧ o.2 < 90 := fun o ho => by
    have := h.1.2.2.2 o ho
    exact ⟨this.1, by omega, this.2.2.1, by omega⟩
  have l4 := h.2.2
  refine (OdA.cons (od_str (p := 2) (pool_len _ h.2.1) (pool_ok _ h.2.1)) (OdA.cons (od_int (p := 2) (i := (r.1.2 : Nat)) (by omega) (by have := h.1.1; omega)) (OdA.cons ((oda_pairs (p := 0) (m := 0) (w := 0) b).tup) (OdA.nil (w := 0))))).tup.mono ?_ (Nat.le_refl _)
  omega
theorem oda_rows {w : Nat} (hw : w ≤ 5) : ∀ {rs : List RwD}, (∀ r ∈ rs, RowL w r) → OdA (121 * rs.length) 3 (rs.map rwD)
  | [], _ => OdA.nil
  | r :: rs, h => (OdA.cons (od_row (h r List.mem_cons_self) hw) (oda_rows hw fun x hx => h x (List.mem_cons_of_mem _ hx))).mono (by rw [List.length_cons]; omega) (Nat.le_refl _)
theorem oda_states {w : Nat} (hw : w ≤ 5) : ∀ {A : List (List RwD)}, (∀ s ∈ A, StL w s) → OdA (730 * A.length) 4 (A.map fun rs => .tuple (rs.map rwD))
  | [], _ => OdA.nil
  | s :: A, h => by
    have hs := h s List.mem_cons_self
    have l6 := hs.2.1
    refine (OdA.cons (w := 726) ((oda_rows hw hs.2.2).tup.mono (by omega) (Nat.le_refl _)) (oda_states hw fun x hx => h x (List.mem_cons_of_mem _ hx))).mono ?_ (Nat.le_refl _)
    rw [List.length_cons]
    omega
theorem oda_pact {A : List (List RwD)} (h : AL A) : OdA 4000 4 (A.map fun rs => .tuple (rs.map rwD)) :=
  (oda_states h.l5 h.ok).mono (by have := h.l5; omega) (Nat.le_refl _)
def optD : Option Int → PyData
  | some i => .int i
  | none => .none
theorem opt_dq {H : Hp} (o : Option Int) : Dq H (optV o) (optD o) := by
  cases o with
  | none => exact .non
  | some i => exact .int i
theorem run_in {A : List (List RwD)} (ax : PcX A) : ∀ (ws : List Lt) (a : Nat) (i : Int), a < A.length → runR A a ws = some i → 0 ≤ i ∧ i < 400
  | [], a, i, ha, h => by
    have h : some (a : Int) = some i := h
    injection h with h
    have := ax.l1
    omega
  | l :: ws, a, i, ha, h => by
    obtain ⟨rs, e⟩ : ∃ rs, A[a]? = some rs := ⟨_, List.getElem?_eq_getElem ha⟩
    have h : (match A[a]? with
      | some rs => match behR rs l.1.1 l.1.2 l.2 with
        | some n => runR A n.toNat ws
        | none => none
      | none => none) = some i := h
    rw [e] at h
    have h : (match behR rs l.1.1 l.1.2 l.2 with
      | some n => runR A n.toNat ws
      | none => none) = some i := h
    cases eb : behR rs l.1.1 l.1.2 l.2 with
    | none => rw [eb] at h; cases h
    | some n =>
      rw [eb] at h
      obtain ⟨n0, n1⟩ := beh_in (ax.ok rs (List.mem_of_getElem? e)).1 eb
      exact run_in ax ws n.toNat i (by omega) h
theorem opt_sh {A : List (List RwD)} (ax : PcX A) (ws : List Lt) : ShQ (optD (runR A 0 ws)) := by
  cases e : runR A 0 ws with
  | none => exact (od_non (w := 0) (p := 0)).sh (by decide) (by decide)
  | some i =>
    obtain ⟨h1, h2⟩ := run_in ax ws 0 i ax.l0 e
    exact (od_int (p := 0) (i := i) (by omega) (by omega)).sh (by decide) (by decide)
end K5
namespace K5
open PySem PySem.Spec PyProof.Rows L2
/-! ### the heap without the box -/
def hideB (b : Addr) (H : Hp) : Hp := fun a => if a = b then none else H a
theorem hideB_sub (b : Addr) (H : Hp) : Same (hideB b H) H := fun a o e => by
  unfold hideB at e
  split at e
  · cases e
  · exact e
theorem hideB_at {b a : Addr} {H : Hp} (n : a ≠ b) : hideB b H a = H a := if_neg n
theorem hideB_but {b : Addr} {H H' : Hp} (s : SameBut b H H') : Same (hideB b H) (hideB b H') := fun a o e => by
  unfold hideB at e ⊢
  split at e
  · cases e
  · rename_i n
    rw [if_neg n]
    exact s a o n e
theorem hideB_new {b p : Addr} {H : Hp} {o u : HO} (hb : H b = some u) (np : H p = none) : hideB b (upd H p o) p = some o := by
  rw [hideB_at (ne_of_none hb np).symm]
  exact upd_same
theorem hideB_same {b : Addr} {H H' : Hp} (s : Same H H') : Same (hideB b H) (hideB b H') := hideB_but (SameBut.of_same s)
/-! ### tuples of the same flat things -/
theorem eqV_refl {x : V} (f : flatV x = true) : eqV x x = true := by
  cases x with
  | non => rfl
  | bl b => exact beq_self_eq_true b
  | int i => exact beq_self_eq_true i
  | str z => exact beq_self_eq_true z
  | _ => exact absurd (show false = true from f) Bool.false_ne_true
theorem vals_eqAt {A : Around} {s : Shared} : ∀ {xs : List V} {us vs : List Value}, Vals xs us → Vals xs vs → xs.all flatV = true → ∀ (j : Nat) (u v : Value), us[j]? = some u → vs[j]? = some v → SeqAt.EqAt A s u v true
  | _, _, _, .nil, .nil, _, j, u, v, h, _ => by cases h
  | x :: xs, u0 :: us, v0 :: vs, .cons r1 t1, .cons r2 t2, f, j, u, v, h, g => by
    rw [List.all_cons, Bool.and_eq_true] at f
    cases j with
    | zero =>
      injection h with h
      injection g with g
      subst h g
      have := eqAt_V (A := A) (s := s) r1 r2 f.1 f.1
      rw [eqV_refl f.1] at this
      exact this
    | succ j => exact vals_eqAt t1 t2 f.2 j u v h g
def rEqTT (K : PySem.W.Frag) : R2 := fun x y H Q => ∃ a b xs, x = .ref a ∧ y = .ref b ∧ SqT K H a xs ∧ SqT K H b xs ∧ xs.all flatV = true ∧ Q (.bl true) H
def rNeTT (K : PySem.W.Frag) : R2 := fun x y H Q => ∃ a b xs, x = .ref a ∧ y = .ref b ∧ SqT K H a xs ∧ SqT K H b xs ∧ xs.all flatV = true ∧ Q (.bl false) H
section
variable {X : Cx}
theorem op_eqTT (hu : X.A.units + 64 < cLine) : OpR X (compareOp .Eq) (rEqTT X.K) := by
  intro pins s σ H x y v u Q I rx ry h
  obtain ⟨a, b, xs, rfl, rfl, ha, hb, fl, q⟩ := h
  cases rx
  cases ry
  obtain ⟨its, rv, p, _⟩ := I.tuple ha
  obtain ⟨its2, rv2, p2, _⟩ := I.tuple hb
  have l1 := rv.length
  have l2 := rv2.length
  refine SeqAt.RcAt.tuples (items := its.toArray) (items2 := its2.toArray) (e := fun _ => true) p p2 (by omega) (fun j h1 h2 => vals_eqAt rv rv2 fl j _ _ ?_ ?_) _ _ _ _ ?_
  · simp at h1
    simp [h1]
  · simp at h2
    simp [h2]
  · have e : ((List.range (min its.toArray.size its2.toArray.size)).all (fun _ => true) && its.toArray.size == its2.toArray.size) = true := by
      simp
      omega
    rw [e]
    exact ⟨.bl true, H, I, rfl, q⟩
theorem op_neTT (hu : X.A.units + 64 < cLine) : OpR X (compareOp .NotEq) (rNeTT X.K) := by
  intro pins s σ H x y v u Q I rx ry h
  obtain ⟨a, b, xs, rfl, rfl, ha, hb, fl, q⟩ := h
  cases rx
  cases ry
  obtain ⟨its, rv, p, _⟩ := I.tuple ha
  obtain ⟨its2, rv2, p2, _⟩ := I.tuple hb
  have l1 := rv.length
  have l2 := rv2.length
  refine SeqAt.RcNeAt.tuples (items := its.toArray) (items2 := its2.toArray) (e := fun _ => true) p p2 (by omega) (fun j h1 h2 => vals_eqAt rv rv2 fl j _ _ ?_ ?_) _ _ _ _ ?_
  · simp at h1
    simp [h1]
  · simp at h2
    simp [h2]
  · have e : ((List.range (min its.toArray.size its2.toArray.size)).all (fun _ => true) && its.toArray.size == its2.toArray.size) = true := by
      simp
      omega
    rw [e]
    exact ⟨.bl false, H, I, rfl, q⟩
end
section
variable {K : PySem.W.Frag} {σ : L2.St} {H : Hp} {Q : VK} {D : L2.Ends} {te ta : TE} {tr : TA} {t : TA} {u : TS} {va : V} {i : Nat}
theorem r_lst (h : t σ H fun xs H1 => xs.length ≤ sizeLine ∧ ∀ p, H1 p = none → Q (.ref p) (upd H1 p (.lst xs))) : tLst t σ H Q := h
theorem a_cons {R : List V → Hp → Prop} (h : ta σ H fun x H1 => tr σ H1 fun xs H2 => R (x :: xs) H2) : tCons ta tr σ H R := h
theorem a_val {R : List V → Hp → Prop} (ha : Val ta σ H va) (h : tr σ H fun xs H2 => R (va :: xs) H2) : tCons ta tr σ H R := ha _ h
theorem a_nil {R : List V → Hp → Prop} (h : R [] H) : tNil σ H R := h
theorem r_lstN0 (k : ∀ t H2, Same H H2 → H t = none → t ≠ sysModules → H2 t = some (.lst []) → Q (.ref t) H2) : tLstN tNil σ H Q := ⟨Nat.zero_le _, fun t nt ns => k t _ (same_upd nt) nt ns upd_same⟩
theorem s_setJ (J : V → Hp → Prop) (hk : ∀ x H', J x H' → u D (σ.set i (some x)) H') (h : ∀ Q : VK, (∀ x H', J x H' → Q x H') → te σ H Q) : tSeq (tAsg te (gName i)) u D σ H := h _ hk
theorem s_forR {te : TE} {g : TG} {tb : TS} {n : Nat} (hv : Val te σ H (.int (n : Nat))) (hn : n ≤ 1000000) (Pv : Nat → L2.St → Hp → Prop) (h0 : Pv 0 σ H) (hs : ∀ i σ H, i < n → Pv i σ H → g (.int (i : Nat)) σ H fun σ2 H2 => tb { { D with nx := u D } with nx := Pv (i + 1), ct := Pv (i + 1), bk := u D } σ2 H2) (hd : ∀ σ H, Pv n σ H → u D σ H) : tSeq (tFor (iRng1 (tCons te tNil)) g tb) u D σ H :=
  e_forR (D := { D with nx := u D }) hv hn Pv h0 hs hd
theorem r_if {c : TT} {tb : TE} (h : c σ H fun b H1 => if b = true then ta σ H1 Q else tb σ H1 Q) : tIf c ta tb σ H Q := h
theorem r_dnewK (k : ∀ t H2, Same H H2 → H t = none → H2 t = some (.dK []) → Q (.ref t) H2) : tDNewK σ H Q := fun t nt => k t _ (same_upd nt) nt upd_same
end
end K5
namespace K5
open PySem PySem.Spec PyProof.Rows L2
/-! ### whether all is right of a drawn pair of pacts -/
theorem pxp {X : Cx} {E : XK} (hs : X.stack = X.env :: X.outer) (hf : X.env.frame = some X.env.locals) (hex : X.ex = []) {E₁ : Value → Shared → Prop}
    (hx : X.xe = fun e s' => wpAny (model X.prog X.w) X.A (leaving X.env e) (fun _ s'' => L2.CX X.prog X.w X.outer X.H_0 X.s_0 E e s'') E₁ s') : Passes (L2.CX X.prog X.w) X E :=
  passes_call (W := fun c d _ H => E c d H) (takes_of hs hf hex hx) fun _ _ _ _ h => h
abbrev nmRt : List Str := ["_law_box_here", "_law_doors", "_law_pact", "_law_other", "_law_turn", "_law_word", "_law_odd", "_law_some_here"]
theorem sc__law_right : FnScope nmRt ["_law_box_here"] (defScope s__law_right) := ⟨rfl, rfl, rfl, by decide +kernel, rfl, by decide +kernel, by decide +kernel⟩
abbrev qR : Str := ("_law_right" : Str) ++ ".<locals>." ++ "<lambda>"
structure Rr (P : Program) (w : World) (K : PySem.W.Frag) (mg : Str → Option Value) (base : Heap) (T cd CE : Addr) (C : Fin 2 → Addr) (fT fS fO fPD fBn fWd fBh fFm fLB fLF fCt : Addr) (dT dS dO dPD dBn dWd dBh dFm dLB dLF dCt : FuncData) : Prop where
  B : Bt mg
  DT : Df K mg "_law_take" sTake fT dT ["_law_box_here", "_law_many"]
  DS : Df K mg "_law_some" s__law_some fS dS ["_law_box_here", "_law_items", "_law_many"]
  GS : FnOk P w K mg base CX0 2 fS dS ["_law_box_here", "_law_items", "_law_many"] (spSome K)
  DO : Df K mg "_law_of" s__law_of fO dO ["_law_box_here", "_law_some_here"]
  GO : FnOk P w K mg base CX0 2 fO dO ["_law_box_here", "_law_some_here"] spOf
  DPD : Df K mg "_law_pact_drawn" s__law_pact_drawn fPD dPD ["_law_box_here", "_law_doors"]
  GPD : FnOk P w K mg base CX0 3 fPD dPD ["_law_box_here", "_law_doors"] spPD
  DBn : Df K mg "_law_bent" s__law_bent fBn dBn ["_law_box_here", "_law_pact"]
  GBn : FnOk P w K mg base CX0 2 fBn dBn ["_law_box_here", "_law_pact"] spBn
  DWd : Df K mg "_law_word_drawn" s__law_word_drawn fWd dWd ["_law_box_here", "_law_pact", "_law_doors"]
  GWd : FnOk P w K mg base CX0 3 fWd dWd ["_law_box_here", "_law_pact", "_law_doors"] spWdr
  DBh : Df K mg "behind" s_behind fBh dBh ["pact", "word"]
  GBh : FnOk P w K mg base (L2.CX P w) 8 fBh dBh ["pact", "word"] (spBehind (C 0) (C 1))
  DFm : Df K mg "first_more" s_first_more fFm dFm ["pact", "other"]
  GFm : FnOk P w K mg base (L2.CX P w) 8 fFm dFm ["pact", "other"] (spMore (C 0))
  DLB : Df K mg "_law_behind" s__law_behind fLB dLB ["_law_pact", "_law_word"]
  GLB : FnOk P w K mg base CX0 2 fLB dLB ["_law_pact", "_law_word"] spLBhd
  DLF : Df K mg "_law_first_more" s__law_first_more fLF dLF ["_law_pact", "_law_other"]
  GLF : FnOk P w K mg base CX0 2 fLF dLF ["_law_pact", "_law_other"] spLFm
  DCt : Df K mg "_law_caught" s__law_caught fCt dCt ["_law_ask"]
  E : E2 K CE C
  gE : mg "WireError" = some (.ref CE)
  g0 : mg "BadPact" = some (.ref (C 0))
  g1 : mg "BadWord" = some (.ref (C 1))
  TB : LamX.TabB base mg cd T
/-- all but the box and the table -/
def KBT (b T : Addr) (H H' : Hp) : Prop := ∀ x o, x ≠ b → x ≠ T → H x = some o → H' x = some o
def spRight (T : Addr) : Sp := fun vs H Q _ => ∃ (b : Addr) (p q n : Int), vs = [.ref b] ∧ H b = some (.lst (bx p q n)) ∧ Box p q n ∧ LamX.TabS H T qR ∧ n + 20000 < 1000000 ∧
  ∀ (H' : Hp) (p' n' : Int), KBT b T H H' → H' b = some (.lst (bx p' q n')) → Box p' q n' → LamX.TabS H' T qR → n' ≤ n + 20000 → Q (.bl true) H'
theorem KBT.of_same {b T : Addr} {H H' : Hp} (s : Same H H') : KBT b T H H' := fun x o _ _ e => s x o e
theorem KBT.of_bk {b T : Addr} {H H' : Hp} {q p n : Int} (B : Bk H H' b q p n) : KBT b T H H' := fun x o nb _ e => B.sb x o nb e
theorem KBT.trans {b T : Addr} {H H1 H2 : Hp} (a : KBT b T H H1) (c : KBT b T H1 H2) : KBT b T H H2 := fun x o nb nt e => c x o nb nt (a x o nb nt e)
theorem KBT.of_kt {b T : Addr} {H H' : Hp} (k : KeepT T H H') : KBT b T H H' := fun x o _ nt e => k x o nt e
theorem tb_same {T : Addr} {H H' : Hp} {Q : Str} (t : LamX.TabS H T Q) (s : Same H H') : LamX.TabS H' T Q := tabS_kx (S := []) t (fun x o _ e => s x o e) (fun h => nomatch h) (fun _ h => nomatch h)
theorem tb_bk {T b : Addr} {H H' : Hp} {Q : Str} {xs : List V} (t : LamX.TabS H T Q) (s : SameBut b H H') (hb : H b = some (.lst xs)) : LamX.TabS H' T Q := tabS_kx (S := [b]) t (fun x o n e => s x o (fun z => n (List.mem_singleton.mpr z)) e) (fun h => by
    obtain ⟨ps, h1, _⟩ := t
    rw [List.mem_singleton.mp h, hb] at h1
    cases h1) (fun x h => .inl ⟨xs, by rw [List.mem_singleton.mp h]; exact hb⟩)
/-- the box and the table amid the law's look -/
structure Rs (b T : Addr) (q : Int) (H H' : Hp) (p n : Int) : Prop where
  k : KBT b T H H'
  hb : H' b = some (.lst (bx p q n))
  bo : Box p q n
  tb : LamX.TabS H' T qR
section
variable {b T : Addr} {q p n p2 n2 : Int} {H H1 H2 G1 : Hp}
theorem Rs.same (r : Rs b T q H H1 p n) (s : Same H1 H2) : Rs b T q H H2 p n := ⟨r.k.trans (KBT.of_same s), s _ _ r.hb, r.bo, tb_same r.tb s⟩
theorem Rs.box (r : Rs b T q H H1 p n) (B : Bk H1 H2 b q p2 n2) : Rs b T q H H2 p2 n2 := ⟨r.k.trans (KBT.of_bk B), B.hb, B.bo, tb_bk r.tb B.sb r.hb⟩
theorem Rs.nT (r : Rs b T q H H1 p n) : b ≠ T := fun e => by
  obtain ⟨ps, h1, _⟩ := r.tb
  rw [← e, r.hb] at h1
  cases h1
theorem Rs.mid (r : Rs b T q H H1 p n) (kt : KeepT T H1 G1) (tb : LamX.TabS G1 T qR) (s : Same G1 H2) : Rs b T q H H2 p n :=
  ⟨(r.k.trans (KBT.of_kt kt)).trans (KBT.of_same s), s _ _ (kt _ _ r.nT r.hb), r.bo, tb_same tb s⟩
theorem Rs.tk (r : Rs b T q H H1 p n) (k : KBT b T H1 H2) : TKeep H1 H2 := fun x ys e => k x _ (fun z => by rw [z, r.hb] at e; cases e) (fun z => by
    obtain ⟨ps, h1, _⟩ := r.tb
    rw [z, h1] at e
    cases e) e
theorem Rs.ls (r : Rs b T q H H1 p n) (k : KBT b T H1 H2) {L : Addr} {xs : List V} (n : b ≠ L) (h : H1 L = some (.lst xs)) : H2 L = some (.lst xs) := k _ _ n.symm (fun z => by
    obtain ⟨ps, h1, _⟩ := r.tb
    rw [z, h1] at h
    cases h) h
theorem kt_ext {Q : Str} (t : LamX.TabS H T Q) (k : KeepT T H G1) : ∀ x o, Nt o → H x = some o → G1 x = some o := fun x o nt e => k x o (fun z => by
  obtain ⟨ps, h1, _⟩ := t
  rw [z, h1] at e
  exact nt ps (Option.some.inj e).symm) e
theorem r_caught {C : Fin 2 → Addr} {σ : L2.St} {R : VK} {t : XK → TE} {i : Fin 2} {x : V} {d : PyData} (tb : LamX.TabS H T qR) (dq : Dq H x d) (sh : ShQ d) (hr : ∀ (E' : XK) (N' : VK) (G1 : Hp), KeepT T H G1 → LamX.TabS G1 T qR → ErrK (C i) x G1 E' → t E' σ G1 N') (k : ∀ (G1 H2 : Hp) (tt : Addr), KeepT T H G1 → LamX.TabS G1 T qR → Same G1 H2 → H2 tt = some (.tup [.str (wd2 i), .str d.shown]) → R (.ref tt) H2) : tLamT T qR (TCt C) t σ H R :=
  ⟨tb, fun G1 kt tb1 E' N' hX => hr E' N' G1 kt tb1 fun dd H' s nd hd => hX _ _ _ ⟨i, dd, x, d, rfl, rfl, hd, (dq.ext (kt_ext tb kt)).mono s, sh, fun H2 t s3 ht => k G1 H2 t kt tb1 (s.trans s3) ht⟩⟩
/-- what is told of a refusal, beside it -/
theorem r_told {C : Fin 2 → Addr} {σ : L2.St} {r : R2} {Rb : VK} {t : XK → TE} {i : Fin 2} {j : Nat} {x : V} {d : PyData} (hx : σ[j]? = some (some x)) (tb : LamX.TabS H T qR) (dq : Dq H x d) (sh : ShQ d) (hr : ∀ (E' : XK) (N' : VK) (G1 : Hp), KeepT T H G1 → LamX.TabS G1 T qR → ErrK (C i) x G1 E' → t E' σ G1 N')
    (k : ∀ (G1 H2 : Hp) (t1 t2 : Addr), KeepT T H G1 → LamX.TabS G1 T qR → Same G1 H2 → H2 t1 = some (.tup [.str (wd2 i), .str d.shown]) → H2 t2 = some (.tup [.str (wd2 i), .str d.shown]) → r (.ref t1) (.ref t2) H2 Rb) : tOp r (tLamT T qR (TCt C) t) (tTup (tCons (tC (.str (wd2 i))) (tCons (tCB rReprQ (tCons (tVar j) tNil)) tNil))) σ H Rb :=
  r_op (r_caught tb dq sh hr fun G1 H2 t1 kt tb1 s ht => r_tupT (val_c _ (r_cb1 (va := x) (val_var hx) ⟨x, d, rfl, (dq.ext (kt_ext tb kt)).mono s, sh, ⟨by show 2 ≤ sizeLine; decide, fun t2 n2 => by
    have s2 := same_upd (o := .tup [.str (wd2 i), .str d.shown]) n2
    exact k G1 _ t1 t2 kt tb1 (s.trans s2) (s2 _ _ ht) upd_same⟩⟩)))
end
def sgR (b : V) (v1 v2 v3 v4 v5 v6 v7 : Option V) : L2.St := [some b, v1, v2, v3, v4, v5, v6, v7]
def fmD : Option (List Lt) → PyData
  | none => .none
  | some ws => wordD ws
theorem fm_sh {A C : List (List RwD)} (al : AL A) (cl : AL C) : ShQ (fmD (fmR A C)) := by
  cases e : fmR A C with
  | none => exact (od_non (w := 0) (p := 0)).sh (by decide) (by decide)
  | some ws =>
    obtain ⟨h1, h2⟩ := fm_good al.x e
    have := Nat.mul_le_mul al.l5 cl.l5
    exact (od_word h2).sh (by omega) (by decide)
theorem more_run {CP : Addr} {E : XK} {Q : VK} {H : Hp} {p q : Addr} {A C : List (List RwD)} (hp : PcAt H p A) (px : PcX A) (hq : PcAt H q C) (qx : PcX C) (h : ∀ x H2, Same H H2 → Dq H2 x (fmD (fmR A C)) → Q x H2) : spMore CP [.ref p, .ref q] H Q E :=
  .inl ⟨p, q, A, C, rfl, hp, px, hq, qx, fun H' s e => h .non H' s (by rw [e]; exact .non), fun H' r ws s e hw => h (.ref r) H' s (by rw [e]; exact hw.dq)⟩
theorem lfm_run {E : XK} {Q : VK} {H : Hp} {p q : Addr} {A C : List (List RwD)} (hp : PcAt H p A) (px : PcX A) (hq : PcAt H q C) (qx : PcX C) (h : ∀ x H2, Same H H2 → Dq H2 x (fmD (fmR A C)) → Q x H2) : spLFm [.ref p, .ref q] H Q E :=
  ⟨p, q, A, C, rfl, hp, px, hq, qx, fun H' s e => h .non H' s (by rw [e]; exact .non), fun H' r ws s e hw => h (.ref r) H' s (by rw [e]; exact hw.dq)⟩
theorem r_neQ {σ : L2.St} {H : Hp} {R : Bool → Hp → Prop} {sp1 sp2 : Sp} {E1 E2 : XK} {ta tb tc td : TE} {va vb vc vd : V} {d : PyData} (sh : ShQ d) (ha : Val ta σ H va) (hb : Val tb σ H vb) (hc : ∀ H2, Val tc σ H2 vc) (hd : ∀ H2, Val td σ H2 vd) (h1 : ∀ Q : VK, (∀ x H2, Same H H2 → Dq H2 x d → Q x H2) → sp1 [va, vb] H Q E1) (h2 : ∀ H1, Same H H1 → ∀ Q : VK, (∀ x H2, Same H1 H2 → Dq H2 x d → Q x H2) → sp2 [vc, vd] H1 Q E2) (k : ∀ H2, Same H H2 → R false H2) :
    tTest (tOp rNe (tCB rReprQ (tCons (tCall sp1 [] E1 (tCons ta (tCons tb tNil))) tNil)) (tCB rReprQ (tCons (tCall sp2 [] E2 (tCons tc (tCons td tNil))) tNil))) σ H R := by
  refine r_testT (r_op (r_cbT (r_call2 ha hb (h1 _ fun x H2 s2 hx => ⟨x, d, rfl, hx, sh, r_cbT (r_call2 (hc _) (hd _) (h2 H2 s2 _ fun y H3 s3 hy => ⟨y, d, rfl, hy, sh, rfl, _, rfl, ?_⟩))⟩))))
  have e : (!decide (V.str d.shown = V.str d.shown)) = false := by simp
  first
    | (rw [e]; exact k H3 (s2.trans s3))
    | (have e2 : decide (V.str d.shown ≠ V.str d.shown) = false := by simp
       rw [e2]; exact k H3 (s2.trans s3))
theorem oda_one {w p : Nat} {ds : List PyData} {i : Nat} {d : PyData} (h : ∀ d ∈ ds, Od w p d) (e : ds[i]? = some d) : Od w p d := h d (List.mem_of_getElem? e)
def odd1L (A : List (List RwD)) : List PyData := [.none, .tuple [], .list [], .int 0, .tuple [.int 0], .list (A.map fun rs => .tuple (rs.map rwD)), .str "state 0", .dict []]
theorem odd1_ok {A : List (List RwD)} (al : AL A) : ∀ d ∈ odd1L A, oddP d = true ∧ Od 4200 6 d := by
  intro d hd
  unfold odd1L at hd
  simp only [List.mem_cons, List.not_mem_nil, or_false] at hd
  rcases hd with rfl | rfl | rfl | rfl | rfl | rfl | rfl | rfl
  · exact ⟨rfl, od_non⟩
  · exact ⟨rfl, (OdA.nil (w := 0) (p := 0)).tup.mono (by decide) (by decide)⟩
  · exact ⟨rfl, (OdA.nil (w := 0) (p := 0)).lst.mono (by decide) (by decide)⟩
  · exact ⟨rfl, (od_int (p := 0) (i := 0) (by decide) (by decide)).mono (by decide) (by decide)⟩
  · exact ⟨rfl, (OdA.cons (od_int (p := 0) (i := 0) (by decide) (by decide)) (OdA.nil (w := 0))).tup.mono (by decide) (by decide)⟩
  · exact ⟨rfl, (oda_pact al).lst.mono (by decide) (by decide)⟩
  · exact ⟨rfl, (od_str (n := 10) (p := 0) (z := "state 0") (by decide +kernel) (by decide +kernel)).mono (by decide) (by decide)⟩
  · exact ⟨rfl, (od_dic (w := 0) (p := 0)).mono (by decide) (by decide)⟩
def odd2L : List PyData := [.none, .list [], .int 0, .str "get", .tuple [.tuple []], .tuple [.tuple [.str "get", .int 0]], .tuple [.tuple [.str "get", .bool true, .int 0]], .tuple [.tuple [.str "get", .int 0, .int 4]], .tuple [.tuple [.str "Get", .int 0, .int 0]]]
theorem od_get {p : Nat} : Od 10 p (.str "get") := od_str (by decide +kernel) (by decide +kernel)
theorem od_Get {p : Nat} : Od 10 p (.str "Get") := od_str (by decide +kernel) (by decide +kernel)
theorem str0_1 {z : Str} {b c : PyData} (h : z.length ≤ 10000000) : ∀ ds, PyData.tuple [.tuple [.str z, b, c]] = .tuple ds → ds.length ≤ 100 ∧ ∀ e ∈ ds, Strs0 e := fun ds e => by
  injection e with e
  subst e
  exact ⟨by show 1 ≤ 100; decide, fun e he => by rw [List.mem_singleton.mp he]; exact ⟨z, rfl, h⟩⟩
theorem odd2_ok : ∀ d ∈ odd2L, wordB d = false ∧ Od 200 6 d ∧ ∀ ds, d = .tuple ds → ds.length ≤ 100 ∧ ∀ e ∈ ds, Strs0 e := by
  intro d hd
  unfold odd2L at hd
  simp only [List.mem_cons, List.not_mem_nil, or_false] at hd
  rcases hd with rfl | rfl | rfl | rfl | rfl | rfl | rfl | rfl | rfl
  · exact ⟨rfl, od_non, fun _ e => nomatch e⟩
  · exact ⟨rfl, (OdA.nil (w := 0) (p := 0)).lst.mono (by decide) (by decide), fun _ e => nomatch e⟩
  · exact ⟨rfl, (od_int (p := 0) (i := 0) (by decide) (by decide)).mono (by decide) (by decide), fun _ e => nomatch e⟩
  · exact ⟨rfl, (od_get (p := 0)).mono (by decide) (by decide), fun _ e => nomatch e⟩
  · refine ⟨rfl, (OdA.cons ((OdA.nil (w := 0) (p := 0)).tup) (OdA.nil (w := 0))).tup.mono (by decide) (by decide), fun ds e => ?_⟩
    injection e with e
    subst e
    exact ⟨by show 1 ≤ 100; decide, fun e he => by rw [List.mem_singleton.mp he]; exact True.intro⟩
  · refine ⟨rfl, (OdA.cons ((OdA.cons (od_get (p := 0)) (OdA.cons (od_int (p := 0) (i := 0) (by decide) (by decide)) (OdA.nil (w := 0)))).tup) (OdA.nil (w := 0))).tup.mono (by decide) (by decide), fun ds e => ?_⟩
    injection e with e
    subst e
    exact ⟨by show 1 ≤ 100; decide, fun e he => by rw [List.mem_singleton.mp he]; exact True.intro⟩
  · exact ⟨by decide +kernel, (OdA.cons ((OdA.cons (od_get (p := 0)) (OdA.cons (od_bl (w := 0) true) (OdA.cons (od_int (p := 0) (i := 0) (by decide) (by decide)) (OdA.nil (w := 0))))).tup) (OdA.nil (w := 0))).tup.mono (by decide) (by decide), str0_1 (by decide +kernel)⟩
  · exact ⟨by decide +kernel, (OdA.cons ((OdA.cons (od_get (p := 0)) (OdA.cons (od_int (p := 0) (i := 0) (by decide) (by decide)) (OdA.cons (od_int (p := 0) (i := 4) (by decide) (by decide)) (OdA.nil (w := 0))))).tup) (OdA.nil (w := 0))).tup.mono (by decide) (by decide), str0_1 (by decide +kernel)⟩
  · exact ⟨by decide +kernel, (OdA.cons ((OdA.cons (od_Get (p := 0)) (OdA.cons (od_int (p := 0) (i := 0) (by decide) (by decide)) (OdA.cons (od_int (p := 0) (i := 0) (by decide) (by decide)) (OdA.nil (w := 0))))).tup) (OdA.nil (w := 0))).tup.mono (by decide) (by decide), str0_1 (by decide +kernel)⟩
section
variable {P : Program} {w : World} {K : PySem.W.Frag} {mg : Str → Option Value} {base : Heap} {T cd CE : Addr} {C : Fin 2 → Addr} {fT fS fO fPD fBn fWd fBh fFm fLB fLF fCt : Addr} {dT dS dO dPD dBn dWd dBh dFm dLB dLF dCt : FuncData}
theorem ok_right {f : Addr} {fd : FuncData} (R : Rr P w K mg base T cd CE C fT fS fO fPD fBn fWd fBh fFm fLB fLF fCt dT dS dO dPD dBn dWd dBh dFm dLB dLF dCt) (F : FunT K "_law_right" "_law_right" s__law_right f fd cd) : FnG P w K mg base (L2.CX P w) 12 f fd ["_law_box_here"] (spRight T) := by
  have GT : FnOk P w K mg base CX0 1 fT dT ["_law_box_here", "_law_many"] spTake := ok_take (CX := CX0) R.DT.F R.B.m_int
  obtain ⟨ocC, odC, kVC, docC, pmC, anC, cdC, ctC, oslC, eC, lkC, hcC⟩ := id R.DCt.F.ex
  subst eC
  refine okGC F sc__law_right (fun vs H Q E h => ?_) (fun A outer s H vs Q E gu hr h => ?_)
  · obtain ⟨b, p, q, n, rfl, _⟩ := h
    rfl
  · obtain ⟨b, p, q, n, rfl, hb, Bx, tb, hn, k⟩ := h
    have S := sc__law_right
    have hu64 := hr.units
    refine ⟨_, (pss_cons (ps_set (i := 1) S.nd rfl (.inl rfl) (pe_call R.GS (hr.mono (by decide)) (by rfl) R.DS.g R.DS.F.kp R.DS.b .nil pass0 (pa_cons (pv 0) (pa_cons (pe_lst (pa_cons pe_str (pa_cons pe_str (pa_cons pe_str pa_nil)))) (pa_cons (pe_op op_add pe_int (pe_call GT (hr.mono (by decide)) (by rfl) R.DT.g R.DT.F.kp R.DT.b .nil pass0 (pa_cons (pv 0) (pa_cons pe_int pa_nil)))) pa_nil)))))
      (pss_cons (ps_set (i := 2) S.nd rfl (.inr rfl) (pe_call R.GPD (hr.mono (by decide)) (by rfl) R.DPD.g R.DPD.F.kp R.DPD.b .nil pass0 (pa_cons (pv 0) (pa_cons (pv 1) pa_nil))))
      (pss_cons (ps_set (i := 3) S.nd rfl (.inl rfl) (pe_ifExp (pt_cmpR op_gt (pe_call GT (hr.mono (by decide)) (by rfl) R.DT.g R.DT.F.kp R.DT.b .nil pass0 (pa_cons (pv 0) (pa_cons pe_int pa_nil))) pe_int (nomark _)) (pe_call R.GBn (hr.mono (by decide)) (by rfl) R.DBn.g R.DBn.F.kp R.DBn.b .nil pass0 (pa_cons (pv 0) (pa_cons (pv 2) pa_nil))) (pe_call R.GPD (hr.mono (by decide)) (by rfl) R.DPD.g R.DPD.F.kp R.DPD.b .nil pass0 (pa_cons (pv 0) (pa_cons (pv 1) pa_nil)))))
      (pss_cons (ps_for (passes_of rfl) rfl (pi_range1 (by rfl) R.B.m_range (pa_cons pe_int pa_nil)) (pg_name (i := 4) S.nd rfl (.inl rfl))
        (pss_cons (ps_set (i := 5) S.nd rfl (.inl rfl) (pe_call R.GWd (hr.mono (by decide)) (by rfl) R.DWd.g R.DWd.F.kp R.DWd.b .nil pass0 (pa_cons (pv 0) (pa_cons (pv 2) (pa_cons (pv 1) pa_nil)))))
      (pss_cons (ps_if (pt_cmpR op_ne (pe_callB (call_reprQ gu hu64) (by rfl) R.B.m_repr PyProof.Rows.boot_repr (pa_cons (pe_call R.GBh (hr.mono (by decide)) (by rfl) R.DBh.g R.DBh.F.kp R.DBh.b .nil passL (pa_cons (pv 2) (pa_cons (pv 5) pa_nil))) pa_nil)) (pe_callB (call_reprQ gu hu64) (by rfl) R.B.m_repr PyProof.Rows.boot_repr (pa_cons (pe_call R.GLB (hr.mono (by decide)) (by rfl) R.DLB.g R.DLB.F.kp R.DLB.b .nil pass0 (pa_cons (pv 2) (pa_cons (pv 5) pa_nil))) pa_nil)) (nomark _))
        (pss_one (ps_ret pe_bl))
        pss_nil)
      (pss_one (ps_if (pt_cmpR op_ne (pe_callB (call_reprQ gu hu64) (by rfl) R.B.m_repr PyProof.Rows.boot_repr (pa_cons (pe_call R.GBh (hr.mono (by decide)) (by rfl) R.DBh.g R.DBh.F.kp R.DBh.b .nil passL (pa_cons (pv 3) (pa_cons (pv 5) pa_nil))) pa_nil)) (pe_callB (call_reprQ gu hu64) (by rfl) R.B.m_repr PyProof.Rows.boot_repr (pa_cons (pe_call R.GLB (hr.mono (by decide)) (by rfl) R.DLB.g R.DLB.F.kp R.DLB.b .nil pass0 (pa_cons (pv 3) (pa_cons (pv 5) pa_nil))) pa_nil)) (nomark _))
        (pss_one (ps_ret pe_bl))
        pss_nil)))))
      (pss_cons (ps_if (PW.pt (pw_or (pt_cmpR op_ne (pe_callB (call_reprQ gu hu64) (by rfl) R.B.m_repr PyProof.Rows.boot_repr (pa_cons (pe_call R.GFm (hr.mono (by decide)) (by rfl) R.DFm.g R.DFm.F.kp R.DFm.b .nil passL (pa_cons (pv 2) (pa_cons (pv 3) pa_nil))) pa_nil)) (pe_callB (call_reprQ gu hu64) (by rfl) R.B.m_repr PyProof.Rows.boot_repr (pa_cons (pe_call R.GLF (hr.mono (by decide)) (by rfl) R.DLF.g R.DLF.F.kp R.DLF.b .nil pass0 (pa_cons (pv 2) (pa_cons (pv 3) pa_nil))) pa_nil)) (nomark _)) (pw_or1 (pt_cmpR op_notN1 (pe_call R.GFm (hr.mono (by decide)) (by rfl) R.DFm.g R.DFm.F.kp R.DFm.b .nil passL (pa_cons (pv 2) (pa_cons (pv 2) pa_nil))) pe_non (nomark _)))))
        (pss_one (ps_ret pe_bl))
        pss_nil)
      (pss_cons (ps_if (pt_cmpR op_ne (pe_callB (call_reprQ gu hu64) (by rfl) R.B.m_repr PyProof.Rows.boot_repr (pa_cons (pe_call R.GFm (hr.mono (by decide)) (by rfl) R.DFm.g R.DFm.F.kp R.DFm.b .nil passL (pa_cons (pv 3) (pa_cons (pv 2) pa_nil))) pa_nil)) (pe_callB (call_reprQ gu hu64) (by rfl) R.B.m_repr PyProof.Rows.boot_repr (pa_cons (pe_call R.GLF (hr.mono (by decide)) (by rfl) R.DLF.g R.DLF.F.kp R.DLF.b .nil pass0 (pa_cons (pv 3) (pa_cons (pv 2) pa_nil))) pa_nil)) (nomark _))
        (pss_one (ps_ret pe_bl))
        pss_nil)
      (pss_cons (ps_set (i := 6) S.nd rfl (.inr rfl) (pe_call R.GO (hr.mono (by decide)) (by rfl) R.DO.g R.DO.F.kp R.DO.b .nil pass0 (pa_cons (pv 0) (pa_cons (pe_lst (pa_cons pe_non (pa_cons (pe_tup pa_nil) (pa_cons (pe_lstN pa_nil) (pa_cons pe_int (pa_cons (pe_tup (pa_cons pe_int pa_nil)) (pa_cons (pe_callTy call_listN (by rfl) R.B.m_list (by decide +kernel) (pa_cons (pv 2) pa_nil)) (pa_cons pe_str (pa_cons pe_dnewK pa_nil))))))))) pa_nil))))
      (pss_cons (ps_if (pt_cmpR (op_neTT (by exact hu64)) (pe_lamT (k := 8) (by rfl) R.DCt.g R.DCt.F.kp lkC hcC R.DCt.b sc__law_caught rfl (.inl rfl) (caught_gives R.B R.E R.gE R.g0 R.g1 gu (hr.mono (by decide))) R.TB rfl (hr.mono (by decide)) (LamX.lamS_by (show LamX.lamSB (defScope s__law_right) _ = true by decide +kernel)) rfl (fun _ _ _ _ _ => rfl) (fun _ _ _ _ E _ _ hr2 => (pe_call (E := E) R.GBh hr2 (by rfl) R.DBh.g R.DBh.F.kp R.DBh.b .nil (pxp rfl rfl rfl rfl) (pa_cons (pv 6) (pa_cons (pe_tup pa_nil) pa_nil))))) (pe_tup (pa_cons pe_str (pa_cons (pe_callB (call_reprQ gu hu64) (by rfl) R.B.m_repr PyProof.Rows.boot_repr (pa_cons (pv 6) pa_nil)) pa_nil))) (nomark _))
        (pss_one (ps_ret pe_bl))
        pss_nil)
      (pss_cons (ps_if (pt_cmpR (op_neTT (by exact hu64)) (pe_lamT (k := 8) (by rfl) R.DCt.g R.DCt.F.kp lkC hcC R.DCt.b sc__law_caught rfl (.inl rfl) (caught_gives R.B R.E R.gE R.g0 R.g1 gu (hr.mono (by decide))) R.TB rfl (hr.mono (by decide)) (LamX.lamS_by (show LamX.lamSB (defScope s__law_right) _ = true by decide +kernel)) rfl (fun _ _ _ _ _ => rfl) (fun _ _ _ _ E _ _ hr2 => (pe_call (E := E) R.GFm hr2 (by rfl) R.DFm.g R.DFm.F.kp R.DFm.b .nil (pxp rfl rfl rfl rfl) (pa_cons (pv 6) (pa_cons (pe_tup pa_nil) pa_nil))))) (pe_tup (pa_cons pe_str (pa_cons (pe_callB (call_reprQ gu hu64) (by rfl) R.B.m_repr PyProof.Rows.boot_repr (pa_cons (pv 6) pa_nil)) pa_nil))) (nomark _))
        (pss_one (ps_ret pe_bl))
        pss_nil)
      (pss_cons (ps_if (pt_cmpR (op_neTT (by exact hu64)) (pe_lamT (k := 8) (by rfl) R.DCt.g R.DCt.F.kp lkC hcC R.DCt.b sc__law_caught rfl (.inl rfl) (caught_gives R.B R.E R.gE R.g0 R.g1 gu (hr.mono (by decide))) R.TB rfl (hr.mono (by decide)) (LamX.lamS_by (show LamX.lamSB (defScope s__law_right) _ = true by decide +kernel)) rfl (fun _ _ _ _ _ => rfl) (fun _ _ _ _ E _ _ hr2 => (pe_call (E := E) R.GFm hr2 (by rfl) R.DFm.g R.DFm.F.kp R.DFm.b .nil (pxp rfl rfl rfl rfl) (pa_cons (pv 2) (pa_cons (pv 6) pa_nil))))) (pe_tup (pa_cons pe_str (pa_cons (pe_callB (call_reprQ gu hu64) (by rfl) R.B.m_repr PyProof.Rows.boot_repr (pa_cons (pv 6) pa_nil)) pa_nil))) (nomark _))
        (pss_one (ps_ret pe_bl))
        pss_nil)
      (pss_cons (ps_set (i := 7) S.nd rfl (.inl rfl) (pe_lst (pa_cons pe_non (pa_cons (pe_lstN pa_nil) (pa_cons pe_int (pa_cons pe_str (pa_cons (pe_tup (pa_cons (pe_tup pa_nil) pa_nil)) (pa_cons (pe_tup (pa_cons (pe_tup (pa_cons pe_str (pa_cons pe_int pa_nil))) pa_nil)) (pa_cons (pe_tup (pa_cons (pe_tup (pa_cons pe_str (pa_cons pe_bl (pa_cons pe_int pa_nil)))) pa_nil)) (pa_cons (pe_tup (pa_cons (pe_tup (pa_cons pe_str (pa_cons pe_int (pa_cons pe_int pa_nil)))) pa_nil)) (pa_cons (pe_tup (pa_cons (pe_tup (pa_cons pe_str (pa_cons pe_int (pa_cons pe_int pa_nil)))) pa_nil)) pa_nil)))))))))))
      (pss_cons (ps_set (i := 6) S.nd rfl (.inr rfl) (pe_call R.GO (hr.mono (by decide)) (by rfl) R.DO.g R.DO.F.kp R.DO.b .nil pass0 (pa_cons (pv 0) (pa_cons (pv 7) pa_nil))))
      (pss_one (ps_ret (pe_cmpR (op_eqTT (by exact hu64)) (pe_lamT (k := 8) (by rfl) R.DCt.g R.DCt.F.kp lkC hcC R.DCt.b sc__law_caught rfl (.inl rfl) (caught_gives R.B R.E R.gE R.g0 R.g1 gu (hr.mono (by decide))) R.TB rfl (hr.mono (by decide)) (LamX.lamS_by (show LamX.lamSB (defScope s__law_right) _ = true by decide +kernel)) rfl (fun _ _ _ _ _ => rfl) (fun _ _ _ _ E _ _ hr2 => (pe_call (E := E) R.GBh hr2 (by rfl) R.DBh.g R.DBh.F.kp R.DBh.b .nil (pxp rfl rfl rfl rfl) (pa_cons (pv 2) (pa_cons (pv 6) pa_nil))))) (pe_tup (pa_cons pe_str (pa_cons (pe_callB (call_reprQ gu hu64) (by rfl) R.B.m_repr PyProof.Rows.boot_repr (pa_cons (pv 6) pa_nil)) pa_nil))) (nomark _)))))))))))))))), ?_⟩
    have R0 : Rs b T q H H p n := ⟨fun _ _ _ _ e => e, hb, Bx, tb⟩
    show tSeq _ _ _ (sgR (.ref b) none none none none none none none) H
    refine s_set (r_call3T ((val_var (v := .ref b) rfl) _ (r_lst3 val_c val_c val_c fun L H1 s1 nL hL => r_op (val_c _ (r_take (val_var rfl) val_c (s1 _ _ hb) Bx (by decide) (by decide) (by omega) fun d p1 n1 H2 d0 d1 le1 B1 => ⟨1, d, rfl, rfl, ?_⟩)))))
    have bL : b ≠ L := ne_of_none hb nL
    have R2 := (R0.same s1).box B1
    refine ⟨b, L, (["get", "state", "b"] : List Str).map V.str, (1 + d).toNat, p1, q, n1, by rw [show (((1 + d).toNat : Nat) : Int) = 1 + d by omega], B1.hb, B1.bo, SqL.of (B1.sb _ _ bL.symm hL), by show (1 + d).toNat ≤ 3; omega, by decide, by omega, fun H3 D ys rest p3 n3 s3 nD hD hb3 B3 le3 yl yp => ?_⟩
    obtain ⟨ds, rfl, dnd, dp⟩ := some_strs (pool := ["get", "state", "b"]) (by decide +kernel) yp
    rw [List.length_map] at yl
    have R3 := R2.box ⟨s3, hb3, B3⟩
    have bD : b ≠ D := ne_of_none R2.hb nD
    have dpool : ∀ z ∈ ds, z ∈ poolD := fun z hz => by
      have := dp z hz
      unfold poolD
      simp at this ⊢
      rcases this with h | h | h
      · exact .inl h
      · exact .inr (.inl h)
      · exact .inr (.inr (.inl h))
    clear R2 s3 yp dp bL hL nL s1 B1
    show tSeq _ _ _ (sgR (.ref b) (some (.ref D)) none none none none none none) H3
    refine s_set (r_call2 (va := .ref b) (vb := .ref D) (val_var rfl) (val_var rfl) ⟨b, D, ds, p3, q, n3, rfl, R3.hb, R3.bo, hD, dnd, dpool, by omega, by omega, fun H4 pp A0 p4 n4 B4 le4 hp4 l0 l4 ok4 => ?_⟩)
    have al : AL A0 := ⟨l0, by omega, ok4⟩
    have ax := al.x
    have R4 := R3.box B4
    have hD4 := B4.sb _ _ bD.symm hD
    show tSeq _ _ _ (sgR (.ref b) (some (.ref D)) (some (.ref pp)) none none none none none) H4
    refine s_setJ (fun x H5 => ∃ (oo : Addr) (C0 : List (List RwD)) (p5 n5 : Int), x = .ref oo ∧ Bk H4 H5 b q p5 n5 ∧ n5 ≤ n4 + 4100 ∧ PcAt H5 oo C0 ∧ AL C0) ?_ fun Q hQ => r_if (r_testT (r_op (r_take (val_var rfl) val_c R4.hb R4.bo (by decide) (by decide) (by omega) fun d p5 n5 H5 d0 d1 le5 B5 => val_c _ ⟨d, 0, rfl, rfl, _, rfl, ite2 (fun _ => ?_) fun _ => ?_⟩)))
    · rintro x5 H5 ⟨oo, C0, p5, n5, rfl, B5, le5, hC5, cl⟩
      have cx := cl.x
      have R5 := R4.box B5
      have tk5 := B5.tk R4.hb
      have hp5 := hp4.mono tk5
      have hD5 := B5.sb _ _ bD.symm hD4
      clear R0 R3 R4 B4 hp4 hD4 B5 tk5 hD hb3 B3
      show tSeq _ _ _ (sgR (.ref b) (some (.ref D)) (some (.ref pp)) (some (.ref oo)) none none none none) H5
      refine s_forR (n := 4) val_c (by decide) (fun i σ H' => ∃ (v4 v5 : Option V) (p' n' : Int), σ = sgR (.ref b) (some (.ref D)) (some (.ref pp)) (some (.ref oo)) v4 v5 none none ∧ Rs b T q H H' p' n' ∧ PcAt H' pp A0 ∧ PcAt H' oo C0 ∧ H' D = some (.lst (ds.map V.str)) ∧ n' ≤ n5 + 50 * i) ⟨_, _, p5, n5, rfl, R5, hp5, hC5, hD5, by omega⟩ ?_ ?_
      · rintro i σ H6 hi ⟨v4, v5, p6, n6, rfl, R6, hp6, hC6, hD6, le6⟩
        show tSeq _ _ _ (sgR (.ref b) (some (.ref D)) (some (.ref pp)) (some (.ref oo)) (some (.int (i : Nat))) v5 none none) H6
        refine s_set (r_call3 (va := .ref b) (vb := .ref pp) (vc := .ref D) (val_var rfl) (val_var rfl) (val_var rfl) ⟨b, pp, D, A0, ds, p6, q, n6, rfl, R6.hb, R6.bo, hp6, ax, hD6, dpool, by omega, by omega, by omega, fun H7 wq ws p7 n7 B7 le7 hw wok wl => ?_⟩)
        have R7 := R6.box B7
        have tk7 := B7.tk R6.hb
        have hp7 := hp6.mono tk7
        have hC7 := hC6.mono tk7
        have hD7 := B7.sb _ _ bD.symm hD6
        show tSeq _ _ _ (sgR (.ref b) (some (.ref D)) (some (.ref pp)) (some (.ref oo)) (some (.int (i : Nat))) (some (.ref wq)) none none) H7
        refine s_if (r_testT (r_op (r_cbT (r_call2 (va := .ref pp) (vb := .ref wq) (val_var rfl) (val_var rfl) (.inl ⟨pp, wq, A0, ws, rfl, hp7, ax, hw, wok, by omega, fun H8 s8 => ⟨_, _, rfl, opt_dq _, opt_sh ax ws, r_cbT (r_call2 (va := .ref pp) (vb := .ref wq) (val_var rfl) (val_var rfl) ⟨pp, wq, A0, ws, rfl, hp7.mono (TKeep.same s8), ax, hw.mono (TKeep.same s8), wok, fun H9 s9 => ⟨_, _, rfl, opt_dq _, opt_sh ax ws, rfl, _, rfl, ite2 (fun e => by simp at e) fun _ => ?_⟩⟩)⟩⟩)))))
        dsimp only [tNext]
        have s79 := s8.trans s9
        have R9 := R7.same s79
        have hp9 := hp7.mono (TKeep.same s79)
        have hC9 := hC7.mono (TKeep.same s79)
        have hw9 := hw.mono (TKeep.same s79)
        have hD9 := s79 _ _ hD7
        refine e_if (r_testT (r_op (r_cbT (r_call2 (va := .ref oo) (vb := .ref wq) (val_var rfl) (val_var rfl) (.inl ⟨oo, wq, C0, ws, rfl, hC9, cx, hw9, wok, by omega, fun Ha sa => ⟨_, _, rfl, opt_dq _, opt_sh cx ws, r_cbT (r_call2 (va := .ref oo) (vb := .ref wq) (val_var rfl) (val_var rfl) ⟨oo, wq, C0, ws, rfl, hC9.mono (TKeep.same sa), cx, hw9.mono (TKeep.same sa), wok, fun Hb sb => ⟨_, _, rfl, opt_dq _, opt_sh cx ws, rfl, _, rfl, ite2 (fun e => by simp at e) fun _ => ?_⟩⟩)⟩⟩)))))
        have sab := sa.trans sb
        exact ⟨_, _, p7, n7, rfl, R9.same sab, hp9.mono (TKeep.same sab), hC9.mono (TKeep.same sab), sab _ _ hD9, by omega⟩
      · rintro σ H6 ⟨v4, v5, p6, n6, rfl, R6, hp6, hC6, hD6, le6⟩
        have R6' := R6
        show tSeq _ _ _ (sgR (.ref b) (some (.ref D)) (some (.ref pp)) (some (.ref oo)) v4 v5 none none) H6
        have v2 : ∀ {v6 v7 : Option V} (H1 : Hp), Val (tVar 2) (sgR (.ref b) (some (.ref D)) (some (.ref pp)) (some (.ref oo)) v4 v5 v6 v7) H1 (.ref pp) := fun _ => val_var rfl
        have v3 : ∀ {v6 v7 : Option V} (H1 : Hp), Val (tVar 3) (sgR (.ref b) (some (.ref D)) (some (.ref pp)) (some (.ref oo)) v4 v5 v6 v7) H1 (.ref oo) := fun _ => val_var rfl
        refine s_if ?_
        show tOr _ _ _ _ _
        unfold tOr
        refine r_neQ (fm_sh al cl) (v2 _) (v3 _) v2 v3 (fun Q h => more_run hp6 ax hC6 cx h) (fun H1 s Q h => lfm_run (hp6.mono (TKeep.same s)) ax (hC6.mono (TKeep.same s)) cx h) fun H7 s7 => iteF ?_
        refine r_testT (r_op (r_call2 (v2 _) (v2 _) (more_run (hp6.mono (TKeep.same s7)) ax (hp6.mono (TKeep.same s7)) ax fun x H8 s8 hx => val_c _ ⟨rfl, _, rfl, ?_⟩)))
        rw [fm_none ax] at hx
        cases hx
        refine ite2 (fun e => by simp at e) fun _ => ?_
        dsimp only [tNext]
        have s68 := s7.trans s8
        refine s_if (r_neQ (fm_sh cl al) (v3 _) (v2 _) v3 v2 (fun Q h => more_run (hC6.mono (TKeep.same s68)) cx (hp6.mono (TKeep.same s68)) ax h) (fun H1 s Q h => lfm_run (hC6.mono (TKeep.same (s68.trans s))) cx (hp6.mono (TKeep.same (s68.trans s))) ax h) fun H9 s9 => iteF ?_)
        dsimp only [tNext]
        have s69 := s68.trans s9
        have R9 := R6.same s69
        have hp9 := hp6.mono (TKeep.same s69)
        obtain ⟨pts, hpts, ppts⟩ := id hp9
        refine s_set (r_call2T ((val_var (v := .ref b) rfl) _ (r_lst (a_val val_c (a_cons (r_tup0 fun t0 Ha sa na ha => a_cons (r_lstN0 fun t1 Hb sb nb ns1 hb1 => a_val val_c (a_cons (r_tup1 val_c fun t2 Hc sc nc hc => a_cons (r_cb1 (va := .ref pp) (v2 _) ⟨pp, _, rfl, SqT.of (((sa.trans sb).trans sc) _ _ hpts), fun t3 n3 ns3 => a_val val_c (a_cons (r_dnewK fun t4 Hd sd nd hd => a_nil ⟨by show 8 ≤ sizeLine; decide, fun LL nLL => ?_⟩))⟩))))))))))
        have s3' := same_upd (o := .lst (pts.map V.ref)) n3
        have sL := same_upd (o := .lst [V.non, V.ref t0, V.ref t1, V.int 0, V.ref t2, V.ref t3, V.str "state 0", V.ref t4]) nLL
        have hLL : (upd Hd LL (.lst [V.non, V.ref t0, V.ref t1, V.int 0, V.ref t2, V.ref t3, V.str "state 0", V.ref t4])) LL = some (.lst [V.non, V.ref t0, V.ref t1, V.int 0, V.ref t2, V.ref t3, V.str "state 0", V.ref t4]) := upd_same
        have sdL := sd.trans sL
        have s3L := s3'.trans sdL
        have scL := sc.trans s3L
        have sbL := sb.trans scL
        have saL := sa.trans sbL
        have nbt : ∀ {G : Hp} {t : Addr}, Same H9 G → G t = none → t ≠ b := fun s n z => by
          rw [z, s _ _ R9.hb] at n
          cases n
        have ha' := sbL _ _ ha
        have hb1' := scL _ _ hb1
        have hc' := s3L _ _ hc
        have h3' : (upd Hc t3 (.lst (pts.map V.ref))) t3 = some (.lst (pts.map V.ref)) := upd_same
        have h3' := sdL _ _ h3'
        have hd' := sL _ _ hd
        have b0 := nbt (Same.refl _) na
        have b1 := nbt sa nb
        have b2 := nbt (sa.trans sb) nc
        have b3 := nbt ((sa.trans sb).trans sc) n3
        have b4 := nbt (((sa.trans sb).trans sc).trans s3') nd
        have bLL := nbt ((((sa.trans sb).trans sc).trans s3').trans sd) nLL
        have R10 := R9.same saL
        have hp10 := hp9.mono (TKeep.same saL)
        have ppts10 := Paired.mapP ppts fun _ _ z => z.mono (TKeep.same saL)
        generalize (upd Hd LL (.lst [V.non, V.ref t0, V.ref t1, V.int 0, V.ref t2, V.ref t3, V.str "state 0", V.ref t4])) = H10 at hLL ha' hb1' hc' h3' hd' R10 hp10 ppts10 ⊢
        have tkh : TKeep H10 (hideB b H10) := fun x ys e => by
          rw [hideB_at (fun z => by rw [z, R10.hb] at e; cases e)]
          exact e
        have dq1 : DqA (hideB b H10) [V.non, V.ref t0, V.ref t1, V.int 0, V.ref t2, V.ref t3, V.str "state 0", V.ref t4] (odd1L A0) :=
          .cons .non (.cons (.tup ((hideB_at b0).trans ha') .nil) (.cons (.lst ((hideB_at b1).trans hb1') ns1 .nil) (.cons (.int 0) (.cons (.tup ((hideB_at b2).trans hc') (.cons (.int 0) .nil)) (.cons (.lst ((hideB_at b3).trans h3') ns3 (stds_dq (Paired.mapP ppts10 fun _ _ z => z.mono tkh))) (.cons (.str _) (.cons (.dic ((hideB_at b4).trans hd')) .nil)))))))
        clear sa sb sc sd s3' sL sdL s3L scL sbL saL nbt ha' hb1' hc' h3' hd' b0 b1 b2 b3 b4 ppts10 tkh R9 hp9 ppts hpts s7 s8 s68 s69 s9 R6 R6' hp6 hC6 hD6 hC5 hD5 hp5 R5 na nb nc n3 nd nLL ha hb1 hc hd
        refine ⟨b, LL, _, p6, q, n6, rfl, R10.hb, R10.bo, bLL.symm, hLL, (by show 0 < 8; decide), (by show 8 < 1000000; decide), by omega, fun i x H11 p11 n11 ei B11 le11 => ?_⟩
        obtain ⟨d, ed, dqh⟩ := DqA.atV i dq1 ei
        obtain ⟨odd, od⟩ := odd1_ok al d (List.mem_of_getElem? ed)
        have sh := od.sh (by decide) (by decide)
        have dq11 : Dq H11 x d := (dqh.mono (hideB_but B11.sb)).mono (hideB_sub b H11)
        have R11 := R10.box B11
        have hp11 := hp10.mono (B11.tk R10.hb)
        clear dqh ed ei dq1 hLL bLL R10 hp10 B11
        show tSeq _ _ _ (sgR (.ref b) (some (.ref D)) (some (.ref pp)) (some (.ref oo)) v4 v5 (some x) none) H11
        refine s_if (r_testT (r_told (i := 0) (j := 6) (x := x) rfl R11.tb dq11 sh (fun E' N' G1 kt tb1 er => r_call2T ((val_var (v := x) rfl) _ (r_tup0 fun t5 G2 s2 n5' h5 => .inr (.inr ⟨x, .ref t5, d, rfl, (dq11.ext (kt_ext R11.tb kt)).mono s2, odd, er.mono s2⟩)))) fun G1 H12 t1 t2 kt tb1 s h1 h2 => ⟨t1, t2, _, rfl, rfl, SqT.of h1, SqT.of h2, rfl, _, rfl, iteF ?_⟩))
        dsimp only [tNext]
        have R12 := R11.mid kt tb1 s
        have dq12 : Dq H12 x d := (dq11.ext (kt_ext R11.tb kt)).mono s
        have hp12 := hp11.mono (R11.tk ((KBT.of_kt kt).trans (KBT.of_same s)))
        clear h1 h2 dq11 hp11
        refine s_if (r_testT (r_told (i := 0) (j := 6) (x := x) rfl R12.tb dq12 sh (fun E' N' G2 kt2 tb2 er => r_call2T ((val_var (v := x) rfl) _ (r_tup0 fun t5 G3 s2 n5' h5 => .inr (.inl ⟨x, .ref t5, d, rfl, (dq12.ext (kt_ext R12.tb kt2)).mono s2, odd, er.mono s2⟩)))) fun G2 H13 t1 t2 kt2 tb2 s2 h1 h2 => ⟨t1, t2, _, rfl, rfl, SqT.of h1, SqT.of h2, rfl, _, rfl, iteF ?_⟩))
        dsimp only [tNext]
        have R13 := R12.mid kt2 tb2 s2
        have dq13 : Dq H13 x d := (dq12.ext (kt_ext R12.tb kt2)).mono s2
        have hp13 := hp12.mono (R12.tk ((KBT.of_kt kt2).trans (KBT.of_same s2)))
        clear h1 h2 dq12 hp12
        refine s_if (r_testT (r_told (i := 0) (j := 6) (x := x) rfl R13.tb dq13 sh (fun E' N' G3 kt3 tb3 er => r_call2 (va := .ref pp) (vb := x) (val_var rfl) (val_var rfl) (.inr (.inr ⟨pp, A0, x, d, rfl, hp13.mono (R13.tk (KBT.of_kt kt3)), ax, dq13.ext (kt_ext R13.tb kt3), odd, er⟩))) fun G3 H14 t1 t2 kt3 tb3 s3 h1 h2 => ⟨t1, t2, _, rfl, rfl, SqT.of h1, SqT.of h2, rfl, _, rfl, iteF ?_⟩))
        dsimp only [tNext]
        have R14 := R13.mid kt3 tb3 s3
        have hp14 := hp13.mono (R13.tk ((KBT.of_kt kt3).trans (KBT.of_same s3)))
        clear h1 h2 dq13 hp13
        show tSeq _ _ _ (sgR (.ref b) (some (.ref D)) (some (.ref pp)) (some (.ref oo)) v4 v5 (some x) none) H14
        refine s_set (r_lst (a_val val_c (a_cons (r_lstN0 fun u0 Ga qa na ns0 ha => a_val val_c (a_val val_c (a_cons ?_))))))
        refine r_tupT1 (r_tup0 fun u1 Gb qb nb hb1 => ⟨by show 1 ≤ sizeLine; decide, fun u2 n2 => a_cons ?_⟩)
        refine r_tupT1 (r_tup2 val_c val_c fun u3 Gc qc nc hc => ⟨by show 1 ≤ sizeLine; decide, fun u4 n4 => a_cons ?_⟩)
        refine r_tupT1 (r_tup3 val_c val_c val_c fun u5 Gd qd nd hd => ⟨by show 1 ≤ sizeLine; decide, fun u6 n6' => a_cons ?_⟩)
        refine r_tupT1 (r_tup3 val_c val_c val_c fun u7 Ge qe ne he => ⟨by show 1 ≤ sizeLine; decide, fun u8 n8 => a_cons ?_⟩)
        refine r_tupT1 (r_tup3 val_c val_c val_c fun u9 Gf qf nf hf => ⟨by show 1 ≤ sizeLine; decide, fun uA nA => a_nil ⟨by show 9 ≤ sizeLine; decide, fun LL nLL => ?_⟩⟩)
        have k2 := same_upd (o := .tup [V.ref u1]) n2
        have k4 := same_upd (o := .tup [V.ref u3]) n4
        have k6 := same_upd (o := .tup [V.ref u5]) n6'
        have k8 := same_upd (o := .tup [V.ref u7]) n8
        have kA := same_upd (o := .tup [V.ref u9]) nA
        have kL := same_upd (o := .lst [V.non, V.ref u0, V.int 0, V.str "get", V.ref u2, V.ref u4, V.ref u6, V.ref u8, V.ref uA]) nLL
        have hLL : (upd (upd Gf uA (.tup [V.ref u9])) LL (.lst [V.non, V.ref u0, V.int 0, V.str "get", V.ref u2, V.ref u4, V.ref u6, V.ref u8, V.ref uA])) LL = some (.lst [V.non, V.ref u0, V.int 0, V.str "get", V.ref u2, V.ref u4, V.ref u6, V.ref u8, V.ref uA]) := upd_same
        have f1 := kA.trans kL
        have f2 := qf.trans f1
        have f3 := k8.trans f2
        have f4 := qe.trans f3
        have f5 := k6.trans f4
        have f6 := qd.trans f5
        have f7 := k4.trans f6
        have f8 := qc.trans f7
        have f9 := k2.trans f8
        have f10 := qb.trans f9
        have f11 := qa.trans f10
        have nbt : ∀ {G : Hp} {t : Addr}, Same H14 G → G t = none → t ≠ b := fun s n z => by
          rw [z, s _ _ R14.hb] at n
          cases n
        have b0 := nbt (Same.refl _) na
        have b1 := nbt qa nb
        have b2 := nbt (qa.trans qb) n2
        have g2 := (qa.trans qb).trans k2
        have b3 := nbt g2 nc
        have b4 := nbt (g2.trans qc) n4
        have g4 := (g2.trans qc).trans k4
        have b5 := nbt g4 nd
        have b6 := nbt (g4.trans qd) n6'
        have g6 := (g4.trans qd).trans k6
        have b7 := nbt g6 ne
        have b8 := nbt (g6.trans qe) n8
        have g8 := (g6.trans qe).trans k8
        have b9 := nbt g8 nf
        have bA := nbt (g8.trans qf) nA
        have bL := nbt ((g8.trans qf).trans kA) nLL
        have e0 := f10 _ _ ha
        have e1 := f9 _ _ hb1
        have e2 := f8 _ _ (show (upd Gb u2 (.tup [V.ref u1])) u2 = _ from upd_same)
        have e3 := f7 _ _ hc
        have e4 := f6 _ _ (show (upd Gc u4 (.tup [V.ref u3])) u4 = _ from upd_same)
        have e5 := f5 _ _ hd
        have e6 := f4 _ _ (show (upd Gd u6 (.tup [V.ref u5])) u6 = _ from upd_same)
        have e7 := f3 _ _ he
        have e8 := f2 _ _ (show (upd Ge u8 (.tup [V.ref u7])) u8 = _ from upd_same)
        have e9 := f1 _ _ hf
        have eA := kL _ _ (show (upd Gf uA (.tup [V.ref u9])) uA = _ from upd_same)
        have R15 := R14.same f11
        have hp15 := hp14.mono (TKeep.same f11)
        generalize (upd (upd Gf uA (.tup [V.ref u9])) LL (.lst [V.non, V.ref u0, V.int 0, V.str "get", V.ref u2, V.ref u4, V.ref u6, V.ref u8, V.ref uA])) = H15 at hLL e0 e1 e2 e3 e4 e5 e6 e7 e8 e9 eA R15 hp15 ⊢
        have dq2 : DqA (hideB b H15) [V.non, V.ref u0, V.int 0, V.str "get", V.ref u2, V.ref u4, V.ref u6, V.ref u8, V.ref uA] odd2L :=
          .cons .non (.cons (.lst ((hideB_at b0).trans e0) ns0 .nil) (.cons (.int 0) (.cons (.str _)
            (.cons (.tup ((hideB_at b2).trans e2) (.cons (.tup ((hideB_at b1).trans e1) .nil) .nil))
            (.cons (.tup ((hideB_at b4).trans e4) (.cons (.tup ((hideB_at b3).trans e3) (.cons (.str _) (.cons (.int 0) .nil))) .nil))
            (.cons (.tup ((hideB_at b6).trans e6) (.cons (.tup ((hideB_at b5).trans e5) (.cons (.str _) (.cons (.bl true) (.cons (.int 0) .nil)))) .nil))
            (.cons (.tup ((hideB_at b8).trans e8) (.cons (.tup ((hideB_at b7).trans e7) (.cons (.str _) (.cons (.int 0) (.cons (.int 4) .nil)))) .nil))
            (.cons (.tup ((hideB_at bA).trans eA) (.cons (.tup ((hideB_at b9).trans e9) (.cons (.str _) (.cons (.int 0) (.cons (.int 0) .nil)))) .nil)) .nil))))))))
        clear f1 f2 f3 f4 f5 f6 f7 f8 f9 f10 f11 g2 g4 g6 g8 b0 b1 b2 b3 b4 b5 b6 b7 b8 b9 bA e0 e1 e2 e3 e4 e5 e6 e7 e8 e9 eA k2 k4 k6 k8 kA kL nbt R14 hp14 qa qb qc qd qe qf ha hb1 hc hd he hf na nb nc nd ne nf n2 n4 n6' n8 nA nLL
        show tSeq _ _ _ (sgR (.ref b) (some (.ref D)) (some (.ref pp)) (some (.ref oo)) v4 v5 (some x) (some (.ref LL))) H15
        refine s_set (r_call2 (va := .ref b) (vb := .ref LL) (val_var rfl) (val_var rfl) ⟨b, LL, _, p11, q, n11, rfl, R15.hb, R15.bo, bL.symm, hLL, (by show 0 < 9; decide), (by show 9 < 1000000; decide), by omega, fun i2 y H16 p16 n16 ei2 B16 le16 => ?_⟩)
        obtain ⟨d2, ed2, dqh2⟩ := DqA.atV i2 dq2 ei2
        obtain ⟨nw, od2, few⟩ := odd2_ok d2 (List.mem_of_getElem? ed2)
        have sh2 := od2.sh (by decide) (by decide)
        have dq16 : Dq H16 y d2 := (dqh2.mono (hideB_but B16.sb)).mono (hideB_sub b H16)
        have R16 := R15.box B16
        have hp16 := hp15.mono (B16.tk R15.hb)
        show tRet _ _ (sgR (.ref b) (some (.ref D)) (some (.ref pp)) (some (.ref oo)) v4 v5 (some y) (some (.ref LL))) H16
        refine e_ret (r_told (i := 1) (j := 6) (x := y) rfl R16.tb dq16 sh2 (fun E' N' G4 kt4 tb4 er => r_call2 (va := .ref pp) (vb := y) (val_var rfl) (val_var rfl) (.inr (.inl ⟨pp, A0, y, d2, rfl, hp16.mono (R16.tk (KBT.of_kt kt4)), ax, dq16.ext (kt_ext R16.tb kt4), few, nw, er⟩))) fun G4 H17 t1 t2 kt4 tb4 s4 h1 h2 => ⟨t1, t2, _, rfl, rfl, SqT.of h1, SqT.of h2, rfl, ?_⟩)
        have R17 := R16.mid kt4 tb4 s4
        exact k H17 p16 n16 R17.k R17.hb R17.bo R17.tb (by omega)
    · exact r_call2 (va := .ref b) (vb := .ref pp) (val_var rfl) (val_var rfl) ⟨b, pp, A0, p5, q, n5, rfl, B5.hb, B5.bo, hp4.mono (B5.tk R4.hb), al, by omega, by omega, fun H6 r C0 p6 n6 B6 le6 hC cl => hQ _ _ ⟨r, C0, p6, n6, rfl, B5.trans B6, by omega, hC, cl⟩⟩
    · exact r_call2 (va := .ref b) (vb := .ref D) (val_var rfl) (val_var rfl) ⟨b, D, ds, p5, q, n5, rfl, B5.hb, B5.bo, B5.sb _ _ bD.symm hD4, dnd, dpool, by omega, by omega, fun H6 r C0 p6 n6 B6 le6 hC c0 c4 cok => hQ _ _ ⟨r, C0, p6, n6, rfl, B5.trans B6, by omega, hC, ⟨c0, by omega, cok⟩⟩⟩
end
end K5
namespace K5
open PySem PySem.Spec PyProof.Rows L2
/-! ### rings, purely -/
def gL : Lt := (("get", 0), 0)
def uL : Lt := (("put", 0), 0)
def dueW (n : Nat) : List Lt := List.replicate (n - 1) gL ++ [uL]
theorem ne_gu : decide (("get" : Str) = "put") = false := by decide +kernel
theorem ne_ug : decide (("put" : Str) = "get") = false := by decide +kernel
theorem af_ring {n k : Nat} (h : k < n) : Af (ringR n) k = (gL, (k + 1) % n) :: if k = n - 1 then [(uL, 0)] else [] := by
  unfold Af
  rw [ring_at h]
  show (letsR (ringS n k)).map (fun (e : Lt × Int) => (e.1, e.2.toNat)) = _
  unfold ringS
  by_cases c : k = n - 1
  · rw [if_pos c, if_pos c]
    rfl
  · rw [if_neg c, if_neg c]
    rfl
theorem beh_g {m t : Nat} : behR (ringS m t) "get" (0 : Nat) 0 = some (((t + 1) % m : Nat) : Int) := by
  unfold behR outsR ringS
  rw [List.find?_cons_of_pos (by simp)]
  rfl
theorem beh_u {m t : Nat} : behR (ringS m t) "put" (0 : Nat) 0 = if t = m - 1 then some 0 else none := by
  unfold behR outsR ringS
  rw [List.find?_cons_of_neg (by
    show ¬ (decide (("get" : Str) = "put") && _) = true
    rw [ne_gu]
    exact Bool.false_ne_true)]
  by_cases c : t = m - 1
  · rw [if_pos c, if_pos c, List.find?_cons_of_pos (by simp)]
    rfl
  · rw [if_neg c, if_neg c]
    rfl
theorem bf_g {m t : Nat} (h : t < m) : Bf (ringR m) t gL = some ((t + 1) % m) := by
  unfold Bf
  rw [ring_at h]
  show (behR (ringS m t) "get" (0 : Nat) 0).map Int.toNat = _
  rw [beh_g]
  rfl
theorem bf_u {m t : Nat} (h : t < m) : Bf (ringR m) t uL = if t = m - 1 then some 0 else none := by
  unfold Bf
  rw [ring_at h]
  show (behR (ringS m t) "put" (0 : Nat) 0).map Int.toNat = _
  rw [beh_u]
  split <;> rfl
theorem rep_snoc {α : Type} (k : Nat) (x : α) : List.replicate k x ++ [x] = List.replicate (k + 1) x := by
  rw [List.replicate_succ']
theorem ring_bfs {n m : Nat} (m1 : 1 ≤ m) (hc : (n - 1) % m ≠ m - 1) : ∀ (j k f : Nat) (met : List V13.Pr), k + j = n - 1 → k < n → (∀ p ∈ met, p.1 ≤ k) → j + 1 ≤ f → V13.bfs (Af (ringR n)) (Bf (ringR m)) f [((k, k % m), List.replicate k gL)] met = some (dueW n)
  | _, _, 0, _, _, _, _, h => by omega
  | 0, k, f + 1, met, hk, kn, hm, _ => by
    have km : k % m < m := Nat.mod_lt _ (by omega)
    have kk : k = n - 1 := by omega
    rw [V13.bfs_cons]
    have cd : V13.cand (Af (ringR n)) (Bf (ringR m)) ((k, k % m), List.replicate k gL) = [(List.replicate k gL ++ [gL], (k + 1) % n, some ((k % m + 1) % m)), (dueW n, 0, none)] := by
      unfold V13.cand
      show (Af (ringR n) k).map _ = _
      rw [af_ring kn, if_pos kk]
      show [(List.replicate k gL ++ [gL], (k + 1) % n, Bf (ringR m) (k % m) gL), (List.replicate k gL ++ [uL], 0, Bf (ringR m) (k % m) uL)] = _
      rw [bf_g km, bf_u km, if_neg (by rw [kk]; exact hc)]
      unfold dueW
      rw [kk]
    rw [cd]
    have : ∀ met' out, ∃ met2 out2, V13.go [(List.replicate k gL ++ [gL], (k + 1) % n, some ((k % m + 1) % m)), (dueW n, 0, none)] met' out = .inl (dueW n) := fun met' out => by
      refine ⟨met', out, ?_⟩
      show (if ((k + 1) % n, (k % m + 1) % m) ∈ met' then V13.go [(dueW n, 0, none)] met' out else V13.go [(dueW n, 0, none)] _ _) = _
      split <;> rfl
    obtain ⟨_, _, e⟩ := this met []
    rw [e]
  | j + 1, k, f + 1, met, hk, kn, hm, hf => by
    have km : k % m < m := Nat.mod_lt _ (by omega)
    have kk : ¬ k = n - 1 := by omega
    rw [V13.bfs_cons]
    have cd : V13.cand (Af (ringR n)) (Bf (ringR m)) ((k, k % m), List.replicate k gL) = [(List.replicate (k + 1) gL, k + 1, some ((k + 1) % m))] := by
      unfold V13.cand
      show (Af (ringR n) k).map _ = _
      rw [af_ring kn, if_neg kk]
      show [(List.replicate k gL ++ [gL], (k + 1) % n, Bf (ringR m) (k % m) gL)] = _
      rw [bf_g km, rep_snoc, Nat.mod_eq_of_lt (show k + 1 < n by omega), Nat.mod_add_mod]
    have nm : (k + 1, (k + 1) % m) ∉ met := fun h => by
      have h1 : k + 1 ≤ k := hm _ h
      omega
    have e : V13.go [(List.replicate (k + 1) gL, k + 1, some ((k + 1) % m))] met [] = .inr ((k + 1, (k + 1) % m) :: met, [((k + 1, (k + 1) % m), List.replicate (k + 1) gL)]) := by
      show (if (k + 1, (k + 1) % m) ∈ met then V13.go [] met [] else V13.go [] ((k + 1, (k + 1) % m) :: met) ([] ++ [((k + 1, (k + 1) % m), List.replicate (k + 1) gL)])) = _
      rw [if_neg nm]
      rfl
    rw [cd, e]
    exact ring_bfs m1 hc j (k + 1) f _ (by omega) (by omega) (fun p hp => by
      rcases List.mem_cons.mp hp with rfl | hp
      · exact Nat.le_refl _
      · have := hm p hp
        omega) (by omega)
theorem ring_len (n : Nat) : (ringR n).length = n := by
  unfold ringR
  rw [List.length_map, List.length_range]
theorem fm_ring {n m : Nat} (n1 : 1 ≤ n) (m1 : 1 ≤ m) (hc : (n - 1) % m ≠ m - 1) : fmR (ringR n) (ringR m) = some (dueW n) := by
  unfold fmR fmN
  rw [ring_len, ring_len]
  have h0 : (0 % m : Nat) = 0 := Nat.zero_mod m
  have := ring_bfs m1 hc (n - 1) 0 (n * m + 2) [(0, 0)] (by omega) (by omega) (fun p hp => by rw [List.mem_singleton.mp hp]; exact Nat.le_refl _) (by
    have : n * 1 ≤ n * m := Nat.mul_le_mul (Nat.le_refl _) m1
    omega)
  rw [h0] at this
  exact this
theorem run_ring {n : Nat} : ∀ (j k : Nat), k + j < n → runR (ringR n) k (List.replicate j gL ++ [uL]) = if k + j = n - 1 then some 0 else none
  | 0, k, h => by
    have h : k < n := by omega
    show (match (ringR n)[k]? with
      | some rs => match behR rs "put" (0 : Nat) 0 with
        | some x => runR (ringR n) x.toNat []
        | none => none
      | none => none) = _
    rw [ring_at h]
    show (match behR (ringS n k) "put" (0 : Nat) 0 with
        | some x => runR (ringR n) x.toNat []
        | none => none) = _
    rw [beh_u]
    by_cases c : k = n - 1
    · rw [if_pos c, if_pos (by omega)]
      rfl
    · rw [if_neg c, if_neg (by omega)]
  | j + 1, k, h => by
    have h' : k < n := by omega
    show (match (ringR n)[k]? with
      | some rs => match behR rs "get" (0 : Nat) 0 with
        | some x => runR (ringR n) x.toNat (List.replicate j gL ++ [uL])
        | none => none
      | none => none) = _
    rw [ring_at h']
    show (match behR (ringS n k) "get" (0 : Nat) 0 with
        | some x => runR (ringR n) x.toNat (List.replicate j gL ++ [uL])
        | none => none) = _
    rw [beh_g, Nat.mod_eq_of_lt (show k + 1 < n by omega)]
    show runR (ringR n) (k + 1) (List.replicate j gL ++ [uL]) = _
    rw [run_ring j (k + 1) (by omega)]
    by_cases c : k + (j + 1) = n - 1
    · rw [if_pos (by omega), if_pos c]
    · rw [if_neg (by omega), if_neg c]
theorem due_ok {n : Nat} : ∀ l ∈ dueW n, LtOk l := fun l hl => by
  have g : LtOk gL := ⟨by unfold poolD; simp [gL], by decide, by decide, by decide⟩
  have u : LtOk uL := ⟨by unfold poolD; simp [uL], by decide, by decide, by decide⟩
  unfold dueW at hl
  rcases List.mem_append.mp hl with h | h
  · rw [List.eq_of_mem_replicate h]
    exact g
  · rw [List.mem_singleton.mp h]
    exact u
theorem due_len {n : Nat} (h : 1 ≤ n) : (dueW n).length = n := by
  unfold dueW
  rw [List.length_append, List.length_replicate]
  show n - 1 + 1 = n
  omega
theorem due_sh {n : Nat} (h : 1 ≤ n) (h2 : n ≤ 90) : ShQ (wordD (dueW n)) := (od_word due_ok).sh (by rw [due_len h]; omega) (by decide)
theorem ring_x {n : Nat} (h1 : 1 ≤ n) (h2 : n ≤ 90) : PcX (ringR n) where
  l0 := by rw [ring_len]; omega
  l1 := by rw [ring_len]; omega
  ok := fun s hs => by
    unfold ringR at hs
    obtain ⟨a, ha, rfl⟩ := List.mem_map.mp hs
    have ha := List.mem_range.mp ha
    rw [ring_len]
    have md : (a + 1) % n < n := Nat.mod_lt _ (by omega)
    have r1 : RowX 4 n (("get", 0), [(0, (((a + 1) % n : Nat) : Int))]) := ⟨(by show 0 < 4; decide), Nat.zero_lt_one, List.pairwise_singleton _ _, fun o ho => by
      rw [List.mem_singleton.mp ho]
      exact ⟨(by show (-2 : Int) ≤ 0; decide), (by show (0 : Int) < 4; decide), by omega, by show (((a + 1) % n : Nat) : Int) < (n : Nat); omega⟩⟩
    have r2 : RowX 4 n (("put", 0), [(0, 0)]) := ⟨by decide, Nat.zero_lt_one, List.pairwise_singleton _ _, fun o ho => by
      rw [List.mem_singleton.mp ho]
      exact ⟨by decide, by decide, by decide, by show (0 : Int) < (n : Nat); omega⟩⟩
    have o1 : RowOk (("get", 0), [(0, (((a + 1) % n : Nat) : Int))]) := ⟨by unfold poolD; simp, (by show 0 < 4; decide), by show 1 ≤ 6; decide⟩
    have o2 : RowOk (("put", 0), [(0, 0)]) := ⟨by unfold poolD; simp, by decide, by show 1 ≤ 6; decide⟩
    have lt : RLt (("get" : Str), 0) ("put", 0) := .inl (by unfold SLt; decide +kernel)
    unfold ringS
    by_cases c : a = n - 1
    · rw [if_pos c]
      refine ⟨⟨?_, fun r hr => ?_⟩, by show 2 ≤ 12; decide, fun r hr => ?_⟩
      · exact List.pairwise_cons.mpr ⟨fun y hy => by rw [List.mem_singleton.mp hy]; exact lt, List.pairwise_singleton _ _⟩
      · rcases List.mem_cons.mp hr with rfl | hr
        · exact r1
        · rw [List.mem_singleton.mp hr]
          exact r2
      · rcases List.mem_cons.mp hr with rfl | hr
        · exact o1
        · rw [List.mem_singleton.mp hr]
          exact o2
    · rw [if_neg c]
      refine ⟨⟨List.pairwise_singleton _ _, fun r hr => ?_⟩, by show 1 ≤ 12; decide, fun r hr => ?_⟩
      · rw [List.mem_singleton.mp hr]
        exact r1
      · rw [List.mem_singleton.mp hr]
        exact o1
end K5
namespace K5
open PySem PySem.Spec PyProof.Rows L2
/-! ### rings that part -/
abbrev nmRr : List Str := ["_law_box_here", "_law_size", "_law_few", "_law_long", "_law_short", "_law_due"]
theorem sc__law_rings_right : FnScope nmRr ["_law_box_here"] (defScope s__law_rings_right) := ⟨rfl, rfl, rfl, by decide +kernel, rfl, by decide +kernel, by decide +kernel⟩
def spRings : Sp := fun vs H Q _ => ∃ (b : Addr) (p q n : Int), vs = [.ref b] ∧ H b = some (.lst (bx p q n)) ∧ Box p q n ∧ n + 10 < 1000000 ∧
  ∀ (H' : Hp) (p' n' : Int), Bk H H' b q p' n' → n' ≤ n + 2 → Q (.bl true) H'
def sgQ (b : V) (v1 v2 v3 v4 v5 : Option V) : L2.St := [some b, v1, v2, v3, v4, v5]
theorem due_run {K : PySem.W.Frag} {σ : L2.St} {H : Hp} {Q : VK} {i n : Nat} (hv : ∀ H1, Val (tVar i) σ H1 (.int (n : Nat))) (h3 : 3 ≤ n) (h9 : n ≤ 90) (k : ∀ (H' : Hp) (p : Addr), Same H H' → WdAt H' p (dueW n) → Q (.ref p) H') :
    tOp (rCatA K) (tOp (rRepT K) (tTup (tCons (tTup (tCons (tC (.str "get")) (tCons (tC (.int 0)) (tCons (tC (.int 0)) tNil)))) tNil)) (tOp (rI0 fun i j => .int (i - j)) (tVar i) (tC (.int 1)))) (tTup (tCons (tTup (tCons (tC (.str "put")) (tCons (tC (.int 0)) (tCons (tC (.int 0)) tNil)))) tNil)) σ H Q := by
  refine r_op (r_op (r_tupT1 (r_tup3 val_c val_c val_c fun tg H1 s1 n1 hg => ⟨by show 1 ≤ sizeLine; decide, fun tt n2 => ?_⟩)))
  have s2 := same_upd (o := .tup [V.ref tg]) n2
  have htt : (upd H1 tt (.tup [V.ref tg])) tt = some (.tup [V.ref tg]) := upd_same
  generalize (upd H1 tt (.tup [V.ref tg])) = H2 at s2 htt ⊢
  refine r_op ((hv _) _ (val_c _ ⟨(n : Nat), 1, rfl, rfl, ?_⟩))
  refine ⟨tt, ((n : Nat) : Int) - 1, [V.ref tg], rfl, rfl, SqT.of htt, (fun z => nomatch z), by omega, by omega, (by show 1 ≤ 1000; decide), fun p3 n3 => ?_⟩
  have e1 : (((n : Nat) : Int) - 1).toNat = n - 1 := by omega
  have e2 : ∀ m : Nat, (List.replicate m [V.ref tg]).flatten = (List.replicate m tg).map V.ref := fun m => by
    induction m with
    | zero => rfl
    | succ m ih =>
      show [V.ref tg] ++ (List.replicate m [V.ref tg]).flatten = V.ref tg :: (List.replicate m tg).map V.ref
      rw [ih]
      rfl
  rw [e1, e2]
  have s3 := same_upd (o := .tup ((List.replicate (n - 1) tg).map V.ref)) n3
  have h3' : (upd H2 p3 (.tup ((List.replicate (n - 1) tg).map V.ref))) p3 = some (.tup ((List.replicate (n - 1) tg).map V.ref)) := upd_same
  generalize (upd H2 p3 (.tup ((List.replicate (n - 1) tg).map V.ref))) = H3 at s3 h3' ⊢
  refine r_tupT1 (r_tup3 val_c val_c val_c fun tu H4 s4 n4 hu => ⟨by show 1 ≤ sizeLine; decide, fun t5 n5 => ?_⟩)
  have s5 := same_upd (o := .tup [V.ref tu]) n5
  have h5 : (upd H4 t5 (.tup [V.ref tu])) t5 = some (.tup ([tu].map V.ref)) := upd_same
  generalize (upd H4 t5 (.tup [V.ref tu])) = H5 at s5 h5 ⊢
  refine catA_any (s5 _ _ (s4 _ _ h3')) h5 (by rw [List.length_map, List.length_replicate]; show n - 1 + 1 ≤ 20000; omega) fun p6 H6 s6 h6 => ?_
  have s16 := s2.trans (s3.trans (s4.trans (s5.trans s6)))
  refine k H6 p6 (s1.trans s16) ⟨List.replicate (n - 1) tg ++ [tu], by rw [h6, List.map_append], ?_⟩
  unfold dueW
  refine paired_app ?_ (s6 _ _ (s5 _ _ hu))
  have hg6 : LtAt H6 tg gL := s16 _ _ hg
  generalize n - 1 = m
  induction m with
  | zero => exact .nil
  | succ m ih => exact .cons hg6 ih
section
variable {P : Program} {w : World} {K : PySem.W.Frag} {mg : Str → Option Value} {base : Heap} {T cd CE : Addr} {C : Fin 2 → Addr} {fT fS fO fPD fBn fWd fBh fFm fLB fLF fCt fR : Addr} {dT dS dO dPD dBn dWd dBh dFm dLB dLF dCt dR : FuncData}
theorem ok_rings_right {f : Addr} {fd : FuncData} (R : Rr P w K mg base T cd CE C fT fS fO fPD fBn fWd fBh fFm fLB fLF fCt dT dS dO dPD dBn dWd dBh dFm dLB dLF dCt) (DR : Df K mg "_law_ring" s__law_ring fR dR ["_law_size", "_law_times"]) (F : Fun K "_law_rings_right" "_law_rings_right" s__law_rings_right f fd) : FnG P w K mg base (L2.CX P w) 10 f fd ["_law_box_here"] spRings := by
  have GT : FnOk P w K mg base CX0 1 fT dT ["_law_box_here", "_law_many"] spTake := ok_take (CX := CX0) R.DT.F R.B.m_int
  have GR : FnOk P w K mg base CX0 1 fR dR ["_law_size", "_law_times"] spRing := ok_law_ring R.B DR
  refine okG F sc__law_rings_right (fun vs H Q E h => ?_) (fun cdv A outer s H vs Q E gu hr h => ?_)
  · obtain ⟨b, p, q, n, rfl, _⟩ := h
    rfl
  · obtain ⟨b, p, q, n, rfl, hb, Bx, hn, k⟩ := h
    have S := sc__law_rings_right
    have hu64 := hr.units
    refine ⟨_, (pss_cons (ps_par (i := 1) (j := 2) (by rfl) S.nd rfl rfl (by decide) rfl rfl (pa_cons (pe_op op_add pe_int (pe_call GT (hr.mono (by decide)) (by rfl) R.DT.g R.DT.F.kp R.DT.b .nil pass0 (pa_cons (pv 0) (pa_cons pe_int pa_nil)))) (pa_cons (pe_op op_add pe_int (pe_call GT (hr.mono (by decide)) (by rfl) R.DT.g R.DT.F.kp R.DT.b .nil pass0 (pa_cons (pv 0) (pa_cons pe_int pa_nil)))) pa_nil)) (by rfl))
      (pss_cons (ps_set (i := 1) S.nd rfl (.inl rfl) (pe_op op_add (pv 1) (pe_toInt (by rfl) R.B.m_int (pe_cmpR op_eq (pe_op op_mod (pe_toInt (by rfl) R.B.m_int (pv 1)) (pv 2)) pe_int (nomark _)))))
      (pss_cons (ps_par (i := 3) (j := 4) (by rfl) S.nd rfl rfl (by decide) rfl rfl (pa_cons (pe_call GR (hr.mono (by decide)) (by rfl) DR.g DR.F.kp DR.b .nil pass0 (pa_cons (pv 1) (pa_cons pe_int pa_nil))) (pa_cons (pe_call GR (hr.mono (by decide)) (by rfl) DR.g DR.F.kp DR.b .nil pass0 (pa_cons (pv 2) (pa_cons pe_int pa_nil))) pa_nil)) (by rfl))
      (pss_cons (ps_set (i := 5) S.nd rfl (.inl rfl) (pe_op op_catA (pe_op op_repT (pe_tup (pa_cons (pe_tup (pa_cons pe_str (pa_cons pe_int (pa_cons pe_int pa_nil)))) pa_nil)) (pe_op op_sub (pv 1) pe_int)) (pe_tup (pa_cons (pe_tup (pa_cons pe_str (pa_cons pe_int (pa_cons pe_int pa_nil)))) pa_nil))))
      (pss_cons (ps_if (PW.pt (pw_or (pt_cmpR op_ne (pe_callB (call_reprQ gu hu64) (by rfl) R.B.m_repr PyProof.Rows.boot_repr (pa_cons (pe_call R.GFm (hr.mono (by decide)) (by rfl) R.DFm.g R.DFm.F.kp R.DFm.b .nil passL (pa_cons (pv 3) (pa_cons (pv 4) pa_nil))) pa_nil)) (pe_callB (call_reprQ gu hu64) (by rfl) R.B.m_repr PyProof.Rows.boot_repr (pa_cons (pv 5) pa_nil)) (nomark _)) (pw_or1 (pt_cmpR op_ne (pe_call R.GBh (hr.mono (by decide)) (by rfl) R.DBh.g R.DBh.F.kp R.DBh.b .nil passL (pa_cons (pv 3) (pa_cons (pv 5) pa_nil))) pe_int (nomark _)))))
        (pss_one (ps_ret pe_bl))
        pss_nil)
      (pss_cons (ps_set (i := 5) S.nd rfl (.inl rfl) (pe_op op_catA (pe_op op_repT (pe_tup (pa_cons (pe_tup (pa_cons pe_str (pa_cons pe_int (pa_cons pe_int pa_nil)))) pa_nil)) (pe_op op_sub (pv 2) pe_int)) (pe_tup (pa_cons (pe_tup (pa_cons pe_str (pa_cons pe_int (pa_cons pe_int pa_nil)))) pa_nil))))
      (pss_one (ps_ret (pe_and (pe_cmpR op_eq (pe_callB (call_reprQ gu hu64) (by rfl) R.B.m_repr PyProof.Rows.boot_repr (pa_cons (pe_call R.GFm (hr.mono (by decide)) (by rfl) R.DFm.g R.DFm.F.kp R.DFm.b .nil passL (pa_cons (pv 4) (pa_cons (pv 3) pa_nil))) pa_nil)) (pe_callB (call_reprQ gu hu64) (by rfl) R.B.m_repr PyProof.Rows.boot_repr (pa_cons (pv 5) pa_nil)) (nomark _)) (pe_one (pe_cmpR op_isN1 (pe_call R.GBh (hr.mono (by decide)) (by rfl) R.DBh.g R.DBh.F.kp R.DBh.b .nil passL (pa_cons (pv 3) (pa_cons (pv 5) pa_nil))) pe_non (nomark _)))))))))))), ?_⟩
    show tSeq _ _ _ (sgQ (.ref b) none none none none none) H
    refine s_par (r_op (val_c _ (r_take (val_var rfl) val_c hb Bx (by decide) (by decide) (by omega) fun d1 p1 n1 H1 d10 d11 le1 B1 => ⟨41, d1, rfl, rfl, r_op (val_c _ (r_take (val_var rfl) val_c B1.hb B1.bo (by decide) (by decide) (by omega) fun d2 p2 n2 H2 d20 d21 le2 B2 => ⟨3, d2, rfl, rfl, _, _, rfl, ?_⟩))⟩)))
    obtain ⟨a, rfl⟩ : ∃ a : Nat, d1 = (a : Int) := ⟨d1.toNat, by omega⟩
    obtain ⟨c, rfl⟩ : ∃ a : Nat, d2 = (a : Int) := ⟨d2.toNat, by omega⟩
    have B02 := B1.trans B2
    have a30 : a < 30 := by omega
    have c5 : c < 5 := by omega
    show tSeq _ _ _ (sgQ (.ref b) (some (.int ((41 + a : Nat) : Int))) (some (.int ((3 + c : Nat) : Int))) none none none) H2
    obtain ⟨s0, es0⟩ : ∃ s, s = 41 + a := ⟨_, rfl⟩
    obtain ⟨f0, ef0⟩ : ∃ f, f = 3 + c := ⟨_, rfl⟩
    rw [← es0, ← ef0]
    obtain ⟨s1, es1⟩ : ∃ s, s = s0 + (if s0 % f0 = 0 then 1 else 0) := ⟨_, rfl⟩
    have s41 : 41 ≤ s1 := by omega
    have s71 : s1 ≤ 71 := by
      rw [es1]
      split <;> omega
    have f3 : 3 ≤ f0 := by omega
    have f7 : f0 ≤ 7 := by omega
    have cop : s1 % f0 ≠ 0 := by
      rw [es1]
      split
      · rename_i h
        rw [Nat.add_mod, h, Nat.zero_add, Nat.mod_mod, Nat.mod_eq_of_lt (by omega)]
        decide
      · rename_i h
        exact h
    have dd : decide (V.int (((s0 : Nat) : Int) % (f0 : Nat)) = V.int 0) = decide (s0 % f0 = 0) := by
      rw [deqI]
      exact decide_eq_decide.mpr (by rw [← Int.natCast_emod]; omega)
    refine s_set ((val_i0 (g := fun i j => i + j) (val_var (v := .int (s0 : Nat)) rfl) (val_toIntB (val_op (z := .bl (decide (s0 % f0 = 0))) (val_iC (g := fun i j => i % j) (val_toInt (val_var (v := .int (s0 : Nat)) rfl)) (val_var (v := .int (f0 : Nat)) rfl) (show (0 : Int) < (f0 : Nat) by omega)) val_c fun Q q => ⟨rfl, by rw [dd]; exact q⟩))) _ ?_)
    have ev : ((s0 : Nat) : Int) + (if decide (s0 % f0 = 0) = true then 1 else 0) = ((s1 : Nat) : Int) := by
      rw [es1]
      by_cases h : s0 % f0 = 0
      · rw [if_pos h, if_pos (decide_eq_true h)]
        rfl
      · rw [if_neg h, if_neg (by rw [decide_eq_false h]; exact Bool.false_ne_true)]
        rfl
    rw [ev]
    show tSeq _ _ _ (sgQ (.ref b) (some (.int (s1 : Nat))) (some (.int (f0 : Nat))) none none none) H2
    refine s_par (r_call2 (va := .int (s1 : Nat)) (vb := .int 1) (val_var rfl) val_c ⟨s1, rfl, by omega, by omega, fun H3 rl s3 hrl => r_call2 (va := .int (f0 : Nat)) (vb := .int 1) (val_var rfl) val_c ⟨f0, rfl, by omega, by omega, fun H4 rf s4 hrf => ⟨_, _, rfl, ?_⟩⟩⟩)
    have hrl4 := hrl.mono (TKeep.same s4)
    have lx := ring_x (n := s1) (by omega) (by omega)
    have fx := ring_x (n := f0) (by omega) (by omega)
    show tSeq _ _ _ (sgQ (.ref b) (some (.int (s1 : Nat))) (some (.int (f0 : Nat))) (some (.ref rl)) (some (.ref rf)) none) H4
    refine s_set (due_run (n := s1) (fun _ => val_var rfl) (by omega) (by omega) fun H5 du s5 hdu => ?_)
    have s25 := (s3.trans s4).trans s5
    have B5 := B02.same s25
    have hrl5 := hrl4.mono (TKeep.same s5)
    have hrf5 := hrf.mono (TKeep.same s5)
    show tSeq _ _ _ (sgQ (.ref b) (some (.int (s1 : Nat))) (some (.int (f0 : Nat))) (some (.ref rl)) (some (.ref rf)) (some (.ref du))) H5
    have c1 : (s1 - 1) % f0 ≠ f0 - 1 := fun h => by
      have h2 : (s1 - 1 + 1) % f0 = 0 := by
        rw [Nat.add_mod, h, Nat.mod_eq_of_lt (show 1 < f0 by omega), Nat.sub_add_cancel (by omega), Nat.mod_self]
      rw [Nat.sub_add_cancel (by omega)] at h2
      exact cop h2
    have c2 : (f0 - 1) % s1 ≠ s1 - 1 := by
      rw [Nat.mod_eq_of_lt (by omega)]
      omega
    have e1 := fm_ring (n := s1) (m := f0) (by omega) (by omega) c1
    have e2 := fm_ring (n := f0) (m := s1) (by omega) (by omega) c2
    have sh1 := due_sh (n := s1) (by omega) (by omega)
    have sh2 := due_sh (n := f0) (by omega) (by omega)
    have dl1 : (dueW s1).length ≤ 100 := by rw [due_len (by omega)]; omega
    have dl2 : (dueW f0).length ≤ 100 := by rw [due_len (by omega)]; omega
    refine s_if ?_
    show tOr _ _ _ _ _
    unfold tOr
    refine r_testT (r_op (r_cbT (r_call2 (va := .ref rl) (vb := .ref rf) (val_var rfl) (val_var rfl) (more_run hrl5 lx hrf5 fx fun x H6 s6 hx => ⟨x, wordD (dueW s1), rfl, by rw [e1] at hx; exact hx, sh1, r_cb1 (va := .ref du) (val_var rfl) ⟨.ref du, wordD (dueW s1), rfl, (hdu.mono (TKeep.same s6)).dq, sh1, rfl, _, rfl, ite2 (fun e => by simp at e) fun _ => ?_⟩⟩))))
    refine r_testT (r_op (r_call2 (va := .ref rl) (vb := .ref du) (val_var rfl) (val_var rfl) (.inl ⟨rl, du, ringR s1, dueW s1, rfl, hrl5.mono (TKeep.same s6), lx, hdu.mono (TKeep.same s6), due_ok, dl1, fun H7 s7 => ?_⟩)))
    have r1 : runR (ringR s1) 0 (dueW s1) = some 0 := by
      unfold dueW
      rw [run_ring (s1 - 1) 0 (by omega), if_pos (by omega)]
    rw [r1]
    refine val_c _ ⟨rfl, _, rfl, ite2 (fun e => by simp [optV] at e) fun _ => ?_⟩
    dsimp only [tNext]
    have s57 := s6.trans s7
    have B7 := B5.same s57
    have hrl7 := hrl5.mono (TKeep.same s57)
    have hrf7 := hrf5.mono (TKeep.same s57)
    refine s_set (due_run (n := f0) (fun _ => val_var rfl) (by omega) (by omega) fun H8 dv s8 hdv => ?_)
    have B8 := B7.same s8
    have hrl8 := hrl7.mono (TKeep.same s8)
    have hrf8 := hrf7.mono (TKeep.same s8)
    show tRet _ _ (sgQ (.ref b) (some (.int (s1 : Nat))) (some (.int (f0 : Nat))) (some (.ref rl)) (some (.ref rf)) (some (.ref dv))) H8
    refine e_ret ?_
    dsimp only [tAndV]
    refine r_op (r_cbT (r_call2 (va := .ref rf) (vb := .ref rl) (val_var rfl) (val_var rfl) (more_run hrf8 fx hrl8 lx fun x H9 s9 hx => ⟨x, wordD (dueW f0), rfl, by rw [e2] at hx; exact hx, sh2, r_cb1 (va := .ref dv) (val_var rfl) ⟨.ref dv, wordD (dueW f0), rfl, (hdv.mono (TKeep.same s9)).dq, sh2, rfl, _, rfl, ?_⟩⟩)))
    rw [decide_eq_true rfl]
    refine iteT (r_op (r_call2 (va := .ref rl) (vb := .ref dv) (val_var rfl) (val_var rfl) (.inl ⟨rl, dv, ringR s1, dueW f0, rfl, hrl8.mono (TKeep.same s9), lx, hdv.mono (TKeep.same s9), due_ok, dl2, fun HA sA => ?_⟩)))
    have r2 : runR (ringR s1) 0 (dueW f0) = none := by
      unfold dueW
      rw [run_ring (f0 - 1) 0 (by omega), if_neg (by omega)]
    rw [r2]
    refine val_c _ ⟨rfl, ?_⟩
    exact k HA p2 n2 (B8.same (s9.trans sA)) (by omega)
end
end K5
namespace K5
open PySem PySem.Spec PyProof.Rows L2
/-! ### the law -/
theorem sq_keep {K : PySem.W.Frag} {H H' : Hp} {a : Addr} {xs : List V} (h : SqL K H a xs) (k : ∀ o, H a = some o → H' a = some o) : SqL K H' a xs := by
  rcases h with (h | ⟨o, h⟩) | h
  · exact .inl (.inl (k _ h))
  · exact .inl (.inr ⟨o, k _ h⟩)
  · exact .inr h
theorem r_not {c : TT} {σ : L2.St} {H : Hp} {R : Bool → Hp → Prop} (h : c σ H fun b H1 => R (!b) H1) : tNot c σ H R := h
theorem r_tB {te : TE} {σ : L2.St} {H : Hp} {R : Bool → Hp → Prop} (h : te σ H fun x H1 => ∃ c, x = .bl c ∧ R c H1) : L2.tB te σ H R := h
abbrev nmLaw : List Str := ["_law_script", "_law_k", "_law_box_here", "_law_turn"]
theorem sc_law : FnScope nmLaw ["_law_script"] (defScope s_law) := ⟨rfl, rfl, rfl, by decide +kernel, rfl, by decide +kernel, by decide +kernel⟩
def spLaw (K : PySem.W.Frag) (T : Addr) : Sp := fun vs H Q _ => ∃ (a : Addr) (ns : List Int), vs = [.ref a] ∧ SqL K H a (ns.map V.int) ∧ LamX.TabS H T qR ∧ a ≠ T ∧ ∀ H', Q (.bl true) H'
section
variable {P : Program} {w : World} {K : PySem.W.Frag} {mg : Str → Option Value} {base : Heap} {T : Addr}
theorem ok_law {f fB fR fRr : Addr} {fd dB dR dRr : FuncData} (B : Bt mg) (m_all : mg "all" = none) (DB : Df K mg "_law_box" s__law_box fB dB ["_law_script", "_law_k"])
    (gR : mg "_law_right" = some (.ref fR)) (kR : PySem.W.keepIn K (.ref fR) = true) (bR : Binds K dR ["_law_box_here"] []) (GR : FnG P w K mg base (L2.CX P w) 12 fR dR ["_law_box_here"] (spRight T)) (DRr : Df K mg "_law_rings_right" s__law_rings_right fRr dRr ["_law_box_here"]) (GRr : FnG P w K mg base (L2.CX P w) 10 fRr dRr ["_law_box_here"] spRings) (F : Fun K "law" "law" s_law f fd) : FnG P w K mg base (L2.CX P w) 14 f fd ["_law_script"] (spLaw K T) := by
  have GB : FnOk P w K mg base CX0 1 fB dB ["_law_script", "_law_k"] (spBox K) := ok_box B DB
  refine okG F sc_law (fun vs H Q E h => ?_) (fun cdv A outer s H vs Q E gu hr h => ?_)
  · obtain ⟨a, ns, rfl, _⟩ := h
    rfl
  · obtain ⟨a, ns, rfl, hS, tb, aT, k⟩ := h
    have S := sc_law
    refine ⟨_, (pss_cons (ps_for (passes_of rfl) rfl (pi_range1 (by rfl) B.m_range (pa_cons (pe_callB (call_max2 rfl) (by rfl) B.m_max (by decide +kernel) (pa_cons pe_int (pa_cons (pe_callB (call_min2 rfl) (by rfl) B.m_min (by decide +kernel) (pa_cons pe_int (pa_cons (pe_callB (r := rLenSq K) call_len_seq (by rfl) B.m_len PySem.boot_len (pa_cons (pv 0) pa_nil)) pa_nil))) pa_nil))) pa_nil)) (pg_name (i := 1) S.nd rfl (.inl rfl))
        (pss_cons (ps_set (i := 2) S.nd rfl (.inr rfl) (pe_call GB (hr.mono (by decide)) (by rfl) DB.g DB.F.kp DB.b .nil pass0 (pa_cons (pv 0) (pa_cons (pv 1) pa_nil))))
      (pss_one (ps_if (PW.pt (pw_or (pt_not (pt_val (pe_callB (cr_all rfl) (by rfl) m_all (by decide +kernel) (pa_cons (pe_lc (own := [("_law_turn", 3)]) (g := gName 3) (tt := tYes) rfl S.nd (pi_range1 (by rfl) B.m_range (pa_cons pe_int pa_nil)) (blkOk_by (own := [("_law_turn", 3)]) (N := nmLaw) (sc := defScope s_law) (by decide +kernel)) (fun _ _ _ _ _ => pg_name (i := 3) S.nd rfl (Or.inl rfl)) (fun _ _ _ _ _ => pts_nil) (fun _ _ _ _ _ => pe_callG GR gu (hr.mono (by decide)) (by rfl) gR kR bR passL (pa_cons (pv 2) pa_nil))) pa_nil)))) (pw_or1 (pt_not (pt_val (pe_callG GRr gu (hr.mono (by decide)) (by rfl) DRr.g DRr.F.kp DRr.b passL (pa_cons (pv 2) pa_nil)))))))
        (pss_one (ps_ret pe_bl))
        pss_nil))))
      (pss_one (ps_ret pe_bl))), ?_⟩
    obtain ⟨j, ej⟩ : ∃ j : Nat, j = (if (if ns.length < 3 then ns.length else 3) > 1 then (if ns.length < 3 then ns.length else 3) else 1) := ⟨_, rfl⟩
    have j3 : j ≤ 3 := by
      rw [ej]
      split <;> split <;> omega
    show tSeq _ _ _ [some (.ref a), none, none, none] H
    refine s_forR (n := j) ?_ (by omega) (fun i σ' H' => (∃ v1 v2 v3, σ' = [some (.ref a), v1, v2, v3]) ∧ (∀ o, H a = some o → H' a = some o) ∧ LamX.TabS H' T qR) ⟨⟨none, none, none, rfl⟩, fun o e => e, tb⟩ (fun i σ' H' hi h => ?_) fun σ' H' h => ?_
    · intro Q q
      refine r_cbT2 (val_c _ (r_cbT2 (val_c _ (r_cb1 (va := .ref a) (val_var rfl) ⟨a, _, rfl, .inl hS, ⟨3, _, rfl, ⟨1, _, rfl, ?_⟩⟩⟩))))
      have e : (if (if (((ns.map V.int).length : Nat) : Int) < 3 then (((ns.map V.int).length : Nat) : Int) else 3) > 1 then (if (((ns.map V.int).length : Nat) : Int) < 3 then (((ns.map V.int).length : Nat) : Int) else 3) else 1) = ((j : Nat) : Int) := by
        rw [List.length_map, ej]
        split <;> split <;> split <;> split <;> omega
      rw [e]
      exact q
    · obtain ⟨⟨v1, v2, v3, rfl⟩, kS, t4⟩ := h
      show tSeq _ _ _ [some (.ref a), some (.int (i : Nat)), v2, v3] H'
      refine s_set (r_call2 (va := .ref a) (vb := .int (i : Nat)) (val_var rfl) (val_var rfl) ⟨a, ns, (i : Nat), rfl, sq_keep hS kS, by omega, by omega, fun b p q nb Bx => ?_⟩)
      have s1 := same_upd (o := .lst (bx p q 0)) nb
      have hb : (upd H' b (.lst (bx p q 0))) b = some (.lst (bx p q 0)) := upd_same
      have ab : ∀ o, H a = some o → a ≠ b := fun o e => ne_of_none (kS o e) nb
      generalize (upd H' b (.lst (bx p q 0))) = H1 at s1 hb ⊢
      have R1 : Rs b T q H1 H1 p 0 := ⟨fun _ _ _ _ e => e, hb, Bx, tb_same t4 s1⟩
      have kS1 : ∀ o, H a = some o → H1 a = some o := fun o e => s1 _ _ (kS o e)
      show tIfS _ _ _ _ [some (.ref a), some (.int (i : Nat)), some (.ref b), v3] H1
      refine e_if ?_
      show tOr _ _ _ _ _
      unfold tOr
      refine r_not (r_tB (r_cbT ?_))
      dsimp only [tLc, iRng1, tCons, tNil]
      refine val_c _ ⟨6, rfl, by decide, by decide, fun M nM => ?_⟩
      have bM : b ≠ M := ne_of_none hb nM
      have TM : T ≠ M := fun z => by
        obtain ⟨ps, h1, _⟩ := R1.tb
        rw [z, nM] at h1
        cases h1
      have s2 := same_upd (o := .lst []) nM
      refine lc_range (lo := 0) (n := (6 : Int).toNat) (fun t H2 => ∃ p' n' : Int, (∀ o, H a = some o → H2 a = some o) ∧ H2 b = some (.lst (bx p' q n')) ∧ Box p' q n' ∧ LamX.TabS H2 T qR ∧ n' ≤ 20000 * t ∧ H2 M = some (.lst ((List.replicate t true).map V.bl))) ⟨p, 0, fun o e => s2 _ _ (kS1 o e), s2 _ _ hb, Bx, tb_same R1.tb s2, by omega, upd_same⟩ (fun t H2 ht hI => ?_) fun H2 hI => ?_
      · obtain ⟨p', n', kA, hb2, B2, t2, le2, hM⟩ := hI
        have ht6 : t < 6 := ht
        refine ⟨rfl, ?_⟩
        try dsimp only [tYes]
        rw [if_pos rfl]
        refine r_call1 (va := .ref b) (val_var rfl) ⟨b, p', q, n', rfl, hb2, B2, t2, by omega, fun H3 p3 n3 kb hb3 B3 t3 le3 => ?_⟩
        have hM3 := kb _ _ bM.symm TM.symm hM
        have kM : SameBut M H3 (upd H3 M (.lst ((List.replicate t true).map V.bl ++ [.bl true]))) := SameBut.upd M H3 _
        refine ⟨_, hM3, by rw [List.length_map, List.length_replicate]; exact Nat.lt_of_le_of_lt (show t ≤ 6 by omega) (by decide), p3, n3, fun o e => ?_, by rw [upd_ne bM]; exact hb3, B3, tb_bk t3 kM hM3, by omega, ?_⟩
        · exact kM _ _ (ne_of_none (kS1 o e) nM) (kb _ _ (ab o e) aT (kA o e))
        · rw [upd_same, List.replicate_succ', List.map_append]
          rfl
      · obtain ⟨p', n', kA, hb2, B2, t2, le2, hM⟩ := hI
        refine ⟨M, List.replicate 6 true, rfl, SqL.of hM, true, rfl, iteF (r_not (r_tB (r_call1 (va := .ref b) (val_var rfl) ⟨b, p', q, n', rfl, hb2, B2, by omega, fun H3 p3 n3 B3 le3 => ⟨true, rfl, iteF ?_⟩⟩)))⟩
        exact ⟨⟨_, _, _, rfl⟩, fun o e => B3.sb _ _ (ab o e) (kA o e), tb_bk t2 B3.sb hb2⟩
    · exact k H'
end
end K5
namespace K5
open PySem PySem.Spec PyProof.Rows L2
/-! ### the law's call, where the caller shows nothing -/
/-- what is tracked at the call: empty tables, and the script unless the text has written it -/
def atCall (K : PySem.W.Frag) (ts : List Addr) (a : Addr) (ob : Obj) (ns : List Int) : Hp := fun b =>
  if b ∈ ts then some (.tbl #[]) else if b = a ∧ K.lookup a = none then some (.frz ob (.lst (ns.map V.int))) else none
section
variable {K : PySem.W.Frag} {ts : List Addr} {a b : Addr} {ob : Obj} {ns : List Int}
theorem atCall_tab (h : b ∈ ts) : atCall K ts a ob ns b = some (.tbl #[]) := if_pos h
theorem atCall_arg (h : a ∉ ts) (free : K.lookup a = none) : atCall K ts a ob ns a = some (.frz ob (.lst (ns.map V.int))) := (if_neg h).trans (if_pos ⟨rfl, free⟩)
theorem atCall_not (h : b ∉ ts) (n : ¬ (b = a ∧ K.lookup a = none)) : atCall K ts a ob ns b = none := (if_neg h).trans (if_neg n)
theorem atCall_cases (K : PySem.W.Frag) (ts : List Addr) (a b : Addr) (ob : Obj) (ns : List Int) : atCall K ts a ob ns b = none ∨ (b ∈ ts ∧ atCall K ts a ob ns b = some (.tbl #[])) ∨ (b ∉ ts ∧ b = a ∧ K.lookup a = none ∧ atCall K ts a ob ns b = some (.frz ob (.lst (ns.map V.int)))) := by
  by_cases h : b ∈ ts
  · exact .inr (.inl ⟨h, atCall_tab h⟩)
  · by_cases n : b = a ∧ K.lookup a = none
    · exact .inr (.inr ⟨h, n.1, n.2, (if_neg h).trans (if_pos n)⟩)
    · exact .inl (atCall_not h n)
end
theorem law_G {P : Program} {w : World} {K : PySem.W.Frag} {mg mb : Str → Option Value} {cx : CXT} {lv : Nat} {fa a : Addr} {cs : List (Addr × Addr)} {rec : FuncData} {x : Str} {pr : Sp} {st : Shared} {us : List Value} {ns : List Int}
    (inK : K.In st.heap) (gl : st.heap.Ns mainGlobals mg) (bl : st.heap.Ns builtinsNs mb) (std : ∀ y : Str, y ≠ "__name__" → mb y = bootBuiltins y) (nol : st.heap.NoLimit) (noGens : st.gens = #[])
    (tabs : ∀ p ∈ cs, st.heap.get? p.2 = some { cls := .none, data := .fields #[] }) (outK : ∀ p ∈ cs, K.lookup p.2 = none) (codes : ∀ p ∈ cs, PySem.W.CodeHd st.heap p.1 p.2)
    (bmod : ∃ (bm : Addr) (o : Obj), mg "__builtins__" = some (.ref bm) ∧ bm ≠ builtinsNs ∧ st.heap.get? bm = some o ∧ o.cls = .type "module" ∧ o.dict = some builtinsNs ∧ o.data = .plain)
    (arg : st.heap.get? a = some { cls := .type "list", data := .seq us.toArray }) (wholes : IntsAre us ns) (few : ns.length ≤ sizeLine) (room : Room lv callerA)
    (F : ∀ base : Heap, K.In base → base.Ns mainGlobals mg → (∀ p ∈ cs, LamX.TabB base mg p.1 p.2) → FnG P w K mg base cx lv fa rec [x] pr) (binds : ∀ (s : Shared) (u : Value), BindsTo s rec ⟨[u], []⟩ [(x, u)])
    (goes : ∀ H : Hp, (∀ p ∈ cs, H p.2 = some (.tbl #[])) → SqL K H a (ns.map V.int) → pr [.ref a] H (fun v _ => v = .bl true) fun _ _ _ => False)
    (quiet : ∀ H e s2, cx [] H st (fun _ _ _ => False) e s2 → False) :
    codeAny (model P w) callerA (.call (.ref fa) ⟨[.ref a], []⟩) (fun r s2 => r = .ok (.ret (.bool true)) ∧ OldK st.heap s2.heap ∧ s2.os = st.os ∧ AllBare s2.gens) st := by
  generalize hts : cs.map (·.2) = ts
  have inTs : ∀ p ∈ cs, p.2 ∈ ts := fun p hp => hts ▸ List.mem_map.mpr ⟨p, hp, rfl⟩
  have ofTs : ∀ b ∈ ts, ∃ p ∈ cs, p.2 = b := fun b hb => List.mem_map.mp (hts ▸ hb)
  have tabAt : ∀ b ∈ ts, st.heap.get? b = some { cls := .none, data := .fields #[] } := fun b hb => by
    obtain ⟨p, hp, rfl⟩ := ofTs b hb
    exact tabs p hp
  generalize hob : ({ cls := .type "list", data := .seq us.toArray } : Obj) = ob at arg
  have obD : ∃ m, ob.data = .seq us.toArray m := hob ▸ ⟨_, rfl⟩
  have argOut : a ∉ ts := fun z => by
    have q := tabAt a z
    rw [arg] at q
    obtain ⟨m, d⟩ := obD
    rw [Option.some.inj q] at d
    cases d
  have rel := vals_ints wholes
  have size : us.toArray.size ≤ sizeLine := by
    rw [List.size_toArray, wholes.length]
    exact few
  let H : Hp := atCall K ts a ob ns
  -- neither a table nor a list: it is not tracked
  have loose : ∀ {b : Addr} {o : Obj}, st.heap.get? b = some o → (∀ vs m, o.data ≠ .seq vs m) → o.data ≠ .fields #[] → H b = none := by
    intro b o e n1 n2
    rcases atCall_cases K ts a b ob ns with q | ⟨q, _⟩ | ⟨_, q, _, _⟩
    · exact q
    · rw [tabAt b q] at e
      cases e
      exact absurd rfl n2
    · rw [q, arg] at e
      cases e
      obtain ⟨m, d⟩ := obD
      exact absurd d (n1 _ _)
  have dictLoose : ∀ {b : Addr} {o : Obj} {es : Array DictEntry} {ep : Nat}, st.heap.get? b = some o → o.data = .dict es ep → H b = none := by
    intro b o es ep e d
    exact loose e (fun vs m z => by rw [d] at z; cases z) fun z => by rw [d] at z; cases z
  have names : ∀ {b : Addr} {m : Str → Option Value}, st.heap.Ns b m → (hidT st.heap H).Ns b m := by
    rintro b m ⟨o, es, ep, e, d, r⟩
    exact ⟨o, es, ep, hidT_get e (dictLoose e d), d, r⟩
  have inB : K.In (hidT st.heap H) := by
    intro b o e
    refine hidT_get (inK b o e) ?_
    rcases atCall_cases K ts a b ob ns with q | ⟨q, _⟩ | ⟨_, q, free, _⟩
    · exact q
    · obtain ⟨p, hp, rfl⟩ := ofTs b q
      rw [outK p hp] at e
      cases e
    · rw [q, free] at e
      cases e
  have notG : ∀ b ∈ ts, mainGlobals ≠ b := fun b hb z => by
    obtain ⟨o, es, ep, e, d, _⟩ := gl
    rw [z, tabAt b hb] at e
    cases e
    cases d
  have tb : ∀ p ∈ cs, LamX.TabB (hidT st.heap H) mg p.1 p.2 := by
    intro p hp
    constructor
    · obtain ⟨o, vs, r1, r2, r3, r4, r5, r6, r7, e, k1, k2, k3⟩ := codes p hp
      refine ⟨o, vs, r1, r2, r3, r4, r5, r6, r7, hidT_get e (loose e (fun us m z => ?_) fun z => ?_), k1, k2, k3⟩
      · rw [k2] at z
        cases z
      · rw [k2] at z
        cases z
        simp at k3
    · obtain ⟨bm, o, y1, y2, y3, y4, y5, y6⟩ := bmod
      refine ⟨bm, o, y1, y2, fun z => ?_, fun z => ?_, hidT_get y3 (loose y3 (fun us m z => ?_) fun z => ?_), y4, y5, y6⟩
      · obtain ⟨g, es, ep, e, d, _⟩ := gl
        rw [← z, y3] at e
        cases e
        rw [y6] at d
        cases d
      · rw [z, tabs p hp] at y3
        cases y3
        cases y6
      · rw [y6] at z
        cases z
      · rw [y6] at z
        cases z
    · exact notG _ (inTs p hp)
  have held : HOk P w H st.heap := by
    intro b u z
    rcases atCall_cases K ts a b ob ns with q | ⟨q, q2⟩ | ⟨_, q, _, q2⟩
    · rw [show H b = none from q] at z
      cases z
    · rw [show H b = _ from q2] at z
      cases z
      exact tabAt b q
    · rw [show H b = _ from q2] at z
      cases z
      rw [q]
      exact ⟨arg, by rw [List.length_map]; exact few, us, _, rel, arg.trans (congrArg some hob.symm)⟩
  have script : SqL K H a (ns.map V.int) := by
    cases lk : K.lookup a with
    | none => exact .inl (.inr ⟨ob, atCall_arg argOut lk⟩)
    | some o =>
      have e := inK a o lk
      rw [arg] at e
      cases e
      obtain ⟨m, d⟩ := obD
      refine .inr ⟨ob, us.toArray, m, lk, ?_, ?_, d, size, by simpa using rel⟩ <;> rw [← hob]
  have nolB : (hidT st.heap H).NoLimit := by
    obtain ⟨mc, z1, z2⟩ := nol
    exact ⟨mc, names z1, z2⟩
  have e0 : Env0 P w K mg (hidT st.heap H) callerA [] st H :=
    { frames := rfl, mod := ⟨inB, names gl, ⟨mb, names bl, std⟩, nolB⟩, bs := fun b o e => of_hidT e, bsz := Nat.le_of_eq (hidT_size _ _), funs := trivial, frf := fun b hb => (nomatch hb), hok := held, bare := .of_eq noGens }
  have runs := (F _ inB (names gl) tb).does callerA [] st H ⟨[.ref a], []⟩ [.ref a] [.ref a] (fun v _ => v = .bl true) (fun _ _ _ => False) rfl room e0 (binds st (.ref a)) (.cons rfl .nil) (goes H (fun p hp => atCall_tab (inTs p hp)) script)
  refine codeAny_mono runs ?_
  intro r s2 h
  match r, h with
  | .error e, h => exact (quiet H e s2 h).elim
  | .ok .next, h => exact h.elim
  | .ok .brk, h => exact h.elim
  | .ok .cont, h => exact h.elim
  | .ok (.ret u), ⟨v, H2, sameOs, bare, un, held2, ru, q⟩ =>
    have q : v = V.bl true := q
    subst q
    have ru : u = Value.bool true := ru
    subst ru
    have grown : ∀ p ∈ cs, ∃ more : Array Value, s2.heap.get? p.2 = some { cls := .none, data := .fields more } := fun p hp => by
      obtain ⟨more, z⟩ := un.tbls p.2 #[] (atCall_tab (inTs p hp))
      exact ⟨_, held2 p.2 _ z⟩
    have kept : ∀ b o, b ∉ ts → st.heap.get? b = some o → s2.heap.get? b = some o := by
      intro b o nb e
      rcases atCall_cases K ts a b ob ns with z | ⟨z, _⟩ | ⟨_, z, _, z2⟩
      · exact un.keep b o e z (fun c => (nomatch c)) fun c => (nomatch c)
      · exact absurd z nb
      · obtain ⟨g, _⟩ := held2 b _ (un.frzs b ob _ z2)
        rw [z, arg] at e
        cases e
        exact g
    refine ⟨rfl, ⟨fun b o e => ?_, fun b o e => ?_⟩, sameOs, bare⟩ <;> by_cases hb : b ∈ ts
    · obtain ⟨p, hp, rfl⟩ := ofTs b hb
      obtain ⟨more, hm⟩ := grown p hp
      rw [tabs p hp] at e
      cases e
      refine .inr (.inl ⟨((codes p hp).tab (tabs p hp)).isCodeTable, rfl, #[], more, rfl, ?_⟩)
      rw [hm, Array.empty_append]
    · exact .inl (kept b o hb e)
    · obtain ⟨p, hp, rfl⟩ := ofTs b hb
      obtain ⟨more, hm⟩ := grown p hp
      exact ⟨_, hm⟩
    · exact ⟨o, kept b o hb e⟩
end K5
namespace K5
open PySem PySem.Spec PyProof.Rows L2
/-! ### the head's facts, by names -/
/-- a class of errors, as it is written -/
theorem funOf {K : PySem.W.Frag} {x qual : Str} {st : Stmt} {f : Addr} {fd : FuncData} (F : FunD K x qual (defArgs st) (defBody st) (defScope st) [] [] f fd) : Fun K x qual st f fd := by
  obtain ⟨oc, od, dV, kV, doc, pm, an, cd, ct, sl, e, lk, hc, hD, _⟩ := F.ex
  rcases hD with ⟨_, rfl⟩ | ⟨z, _⟩
  · exact ⟨⟨oc, od, kV, doc, pm, an, cd, ct, sl, e, lk, hc⟩, F.kp⟩
  · exact absurd rfl z
theorem funTOf {K : PySem.W.Frag} {x qual : Str} {st : Stmt} {p : He.Defn} {fd : FuncData} (F : FunD K x qual (defArgs st) (defBody st) (defScope st) [] [] (He.fAd K p) fd) : FunT K x qual st (He.fAd K p) fd (He.codeOf K p) := by
  obtain ⟨oc, od, dV, kV, doc, pm, an, cd, ct, sl, e, lk, hc, hD, _⟩ := F.ex
  rcases hD with ⟨_, rfl⟩ | ⟨z, _⟩
  · obtain ⟨c, rfl⟩ := He.codeIn_ref hc
    have q := He.codeOf_eq (c := c) lk (by rw [e])
    rw [q]
    exact ⟨⟨oc, od, kV, doc, pm, an, ct, sl, e, lk, hc⟩, F.kp⟩
  · exact absurd rfl z
section
variable {K : PySem.W.Frag} {w : World} {h : Heap} {mg : Str → Option Value}
theorem er_of {x : Str} (X : K.In h) (G : h.Ns mainGlobals mg) (g : mg x = some (.ref (He.ga K x))) (e : (errL K x).all id = true) (e2 : (exL K).all id = true) : Er K mg x (He.ga K x) (He.ma K (He.ga K "WireError") "__init__") where
  O := ⟨oexB_ok (all_at e 0 rfl), of_decide_eq_true (all_at e 1 rfl), of_decide_eq_true (all_at e 2 rfl), of_decide_eq_true (all_at e 3 rfl), all_at e 4 rfl⟩
  g := g
  iC := of_decide_eq_true (all_at e 5 rfl)
  tI := of_decide_eq_true (all_at e2 3 rfl)
  nv := of_decide_eq_true (all_at e 6 rfl)
theorem exc_of {x : Str} (e : (errL K x).all id = true) (e2 : (exL K).all id = true) : ExcC K (He.ga K x) where
  hg := (xfB_ok (all_at e 7 rfl)).ga
  hk := (xfB_ok (all_at e 7 rfl)).gg
  hs := (xfB_ok (all_at e 7 rfl)).exC
  hd := (xfB_ok (all_at e 7 rfl)).hdC
  ha := of_decide_eq_true (all_at e 8 rfl)
  hn := of_decide_eq_true (all_at e2 4 rfl)
  ht := of_decide_eq_true (all_at e2 5 rfl)
  hm := of_decide_eq_true (all_at e 9 rfl)
def nmE : Fin 2 → Str := fun i => (["BadPact", "BadWord"] : List Str).get i
def CE2 (K : PySem.W.Frag) : Fin 2 → Addr := fun i => He.ga K (nmE i)
theorem eE_at {K : PySem.W.Frag} (e2 : (exL K).all id = true) : ∀ i, (errL K (nmE i)).all id = true
  | ⟨0, _⟩ => all_at e2 0 rfl
  | ⟨1, _⟩ => all_at e2 1 rfl
theorem eE_of {K : PySem.W.Frag} (e2 : (exL K).all id = true) : E2 K (He.ga K "WireError") (CE2 K) where
  e := fun i => of_decide_eq_true (all_at (eE_at e2 i) 10 rfl)
  x := fun i => exc_of (eE_at e2 i) e2
  f := fun i => xfB_ok (all_at (eE_at e2 i) 7 rfl)
  v := fun i => of_decide_eq_true (all_at (eE_at e2 i) 6 rfl)
  k := fun i j => match i, j with
    | ⟨0, _⟩, ⟨0, _⟩ => of_decide_eq_true (all_at e2 6 rfl)
    | ⟨0, _⟩, ⟨1, _⟩ => of_decide_eq_true (all_at e2 7 rfl)
    | ⟨1, _⟩, ⟨0, _⟩ => of_decide_eq_true (all_at e2 8 rfl)
    | ⟨1, _⟩, ⟨1, _⟩ => of_decide_eq_true (all_at e2 9 rfl)
theorem all_mk {P : Program} {f : Addr} (X : K.In h) (G : h.Ns mainGlobals mg) (hf : mg ("law" : Str) = some (.ref f)) (c : He.SaysD faL fnL K) (e2 : exB K = true) :
    ∃ fd : FuncData, (∀ (s : Shared) (v : Value), BindsTo s fd ⟨[v], []⟩ [("_law_script", v)]) ∧ ∀ base : Heap, K.In base → base.Ns mainGlobals mg → LamX.TabB base mg (He.codeOf K ("_law_right", none)) (He.cT K ("_law_right", none)).2 →
      FnG P w K mg base (L2.CX P w) 14 f fd ["_law_script"] (spLaw K (He.cT K ("_law_right", none)).2) := by
  have eBadPact : (errL K "BadPact").all id = true := all_at e2 0 rfl
  have eBadWord : (errL K "BadWord").all id = true := all_at e2 1 rfl
  have eBadWorths : (errL K "BadWorths").all id = true := all_at e2 2 rfl
  have Bt0 : Bt mg := { m_int := (He.free_ok X G (c.fact 40 (f := .free "int") rfl)), m_len := (He.free_ok X G (c.fact 41 (f := .free "len") rfl)), m_abs := (He.free_ok X G (c.fact 42 (f := .free "abs") rfl)), m_max := (He.free_ok X G (c.fact 43 (f := .free "max") rfl)), m_min := (He.free_ok X G (c.fact 44 (f := .free "min") rfl)), m_list := (He.free_ok X G (c.fact 45 (f := .free "list") rfl)), m_str := (He.free_ok X G (c.fact 46 (f := .free "str") rfl)), m_bool := (He.free_ok X G (c.fact 47 (f := .free "bool") rfl)), m_range := (He.free_ok X G (c.fact 48 (f := .free "range") rfl)), m_isinstance := (He.free_ok X G (c.fact 49 (f := .free "isinstance") rfl)), m_tuple := (He.free_ok X G (c.fact 50 (f := .free "tuple") rfl)), m_repr := (He.free_ok X G (c.fact 51 (f := .free "repr") rfl)) }
  obtain ⟨k0, F0⟩ := c.def_ 0 (d := d0) rfl
  obtain ⟨k1, F1⟩ := c.def_ 1 (d := d1) rfl
  obtain ⟨k2, F2⟩ := c.def_ 2 (d := d2) rfl
  obtain ⟨k3, F3⟩ := c.def_ 3 (d := d3) rfl
  obtain ⟨k4, F4⟩ := c.def_ 4 (d := d4) rfl
  obtain ⟨k5, F5⟩ := c.def_ 5 (d := d5) rfl
  obtain ⟨k6, F6⟩ := c.def_ 6 (d := d6) rfl
  obtain ⟨k7, F7⟩ := c.def_ 7 (d := d7) rfl
  obtain ⟨k8, F8⟩ := c.def_ 8 (d := d8) rfl
  obtain ⟨k9, F9⟩ := c.def_ 9 (d := d9) rfl
  obtain ⟨k10, F10⟩ := c.def_ 10 (d := d10) rfl
  obtain ⟨k11, F11⟩ := c.def_ 11 (d := d11) rfl
  obtain ⟨k12, F12⟩ := c.def_ 12 (d := d12) rfl
  obtain ⟨k13, F13⟩ := c.def_ 13 (d := d13) rfl
  obtain ⟨k14, F14⟩ := c.def_ 14 (d := d14) rfl
  obtain ⟨k15, F15⟩ := c.def_ 15 (d := d15) rfl
  obtain ⟨k16, F16⟩ := c.def_ 16 (d := d16) rfl
  obtain ⟨k17, F17⟩ := c.def_ 17 (d := d17) rfl
  obtain ⟨k18, F18⟩ := c.def_ 18 (d := d18) rfl
  obtain ⟨k19, F19⟩ := c.def_ 19 (d := d19) rfl
  obtain ⟨k20, F20⟩ := c.def_ 20 (d := d20) rfl
  obtain ⟨k21, F21⟩ := c.def_ 21 (d := d21) rfl
  obtain ⟨k22, F22⟩ := c.def_ 22 (d := d22) rfl
  obtain ⟨k23, F23⟩ := c.def_ 23 (d := d23) rfl
  obtain ⟨k24, F24⟩ := c.def_ 24 (d := d24) rfl
  obtain ⟨k25, F25⟩ := c.def_ 25 (d := d25) rfl
  obtain ⟨k26, F26⟩ := c.def_ 26 (d := d26) rfl
  obtain ⟨k27, F27⟩ := c.def_ 27 (d := d27) rfl
  obtain ⟨k28, F28⟩ := c.def_ 28 (d := d28) rfl
  obtain ⟨k29, F29⟩ := c.def_ 29 (d := d29) rfl
  obtain ⟨k30, F30⟩ := c.def_ 30 (d := d30) rfl
  obtain ⟨k31, F31⟩ := c.def_ 31 (d := d31) rfl
  obtain ⟨k32, F32⟩ := c.def_ 32 (d := d32) rfl
  obtain ⟨k33, F33⟩ := c.def_ 33 (d := d33) rfl
  obtain ⟨k34, F34⟩ := c.def_ 34 (d := d34) rfl
  obtain ⟨k35, F35⟩ := c.def_ 35 (d := d35) rfl
  obtain ⟨k36, F36⟩ := c.def_ 36 (d := d36) rfl
  have e := hf.symm.trans (He.glo_ok X G (c.fact 35 (f := .glo "law") rfl))
  cases e
  have b0 : Binds K k0 ["value"] [] := FunD.bindsN F0 fun _ _ _ _ _ _ us hl => match us, hl with | [_], _ => rfl
  have D0 : Df K mg "is_integer" s_is_integer (He.fAd K ("is_integer", none)) k0 ["value"] := ⟨funOf (st := s_is_integer) F0, He.glo_ok X G (c.fact 0 (f := .glo "is_integer") rfl), b0⟩
  have b1 : Binds K k1 ["value", "many"] [] := FunD.bindsN F1 fun _ _ _ _ _ _ us hl => match us, hl with | [_, _], _ => rfl
  have D1 : Df K mg "is_below" s_is_below (He.fAd K ("is_below", none)) k1 ["value", "many"] := ⟨funOf (st := s_is_below) F1, He.glo_ok X G (c.fact 1 (f := .glo "is_below") rfl), b1⟩
  have b2 : Binds K k2 ["value"] [] := FunD.bindsN F2 fun _ _ _ _ _ _ us hl => match us, hl with | [_], _ => rfl
  have D2 : Df K mg "is_worths" s_is_worths (He.fAd K ("is_worths", none)) k2 ["value"] := ⟨funOf (st := s_is_worths) F2, He.glo_ok X G (c.fact 2 (f := .glo "is_worths") rfl), b2⟩
  have b3 : Binds K k3 ["value", "worths"] [] := FunD.bindsN F3 fun _ _ _ _ _ _ us hl => match us, hl with | [_, _], _ => rfl
  have D3 : Df K mg "is_answer" s_is_answer (He.fAd K ("is_answer", none)) k3 ["value", "worths"] := ⟨funOf (st := s_is_answer) F3, He.glo_ok X G (c.fact 3 (f := .glo "is_answer") rfl), b3⟩
  have b4 : Binds K k4 ["value"] [] := FunD.bindsN F4 fun _ _ _ _ _ _ us hl => match us, hl with | [_], _ => rfl
  have D4 : Df K mg "is_name" s_is_name (He.fAd K ("is_name", none)) k4 ["value"] := ⟨funOf (st := s_is_name) F4, He.glo_ok X G (c.fact 4 (f := .glo "is_name") rfl), b4⟩
  have b5 : Binds K k5 ["value"] [] := FunD.bindsN F5 fun _ _ _ _ _ _ us hl => match us, hl with | [_], _ => rfl
  have D5 : Df K mg "is_door" s_is_door (He.fAd K ("is_door", none)) k5 ["value"] := ⟨funOf (st := s_is_door) F5, He.glo_ok X G (c.fact 5 (f := .glo "is_door") rfl), b5⟩
  have b6 : Binds K k6 ["value", "size"] [] := FunD.bindsN F6 fun _ _ _ _ _ _ us hl => match us, hl with | [_, _], _ => rfl
  have D6 : Df K mg "is_tuple" s_is_tuple (He.fAd K ("is_tuple", none)) k6 ["value", "size"] := ⟨funOf (st := s_is_tuple) F6, He.glo_ok X G (c.fact 6 (f := .glo "is_tuple") rfl), b6⟩
  have b7 : Binds K k7 ["rows"] [] := FunD.bindsN F7 fun _ _ _ _ _ _ us hl => match us, hl with | [_], _ => rfl
  have D7 : Df K mg "ascends" s_ascends (He.fAd K ("ascends", none)) k7 ["rows"] := ⟨funOf (st := s_ascends) F7, He.glo_ok X G (c.fact 7 (f := .glo "ascends") rfl), b7⟩
  have b8 : Binds K k8 ["worths", "value"] [] := FunD.bindsN F8 fun _ _ _ _ _ _ us hl => match us, hl with | [_, _], _ => rfl
  have D8 : Df K mg "is_pact" s_is_pact (He.fAd K ("is_pact", none)) k8 ["worths", "value"] := ⟨funOf (st := s_is_pact) F8, He.glo_ok X G (c.fact 8 (f := .glo "is_pact") rfl), b8⟩
  have b9 : Binds K k9 ["worths", "many", "value"] [] := FunD.bindsN F9 fun _ _ _ _ _ _ us hl => match us, hl with | [_, _, _], _ => rfl
  have D9 : Df K mg "is_state" s_is_state (He.fAd K ("is_state", none)) k9 ["worths", "many", "value"] := ⟨funOf (st := s_is_state) F9, He.glo_ok X G (c.fact 9 (f := .glo "is_state") rfl), b9⟩
  have b10 : Binds K k10 ["worths", "many", "value"] [] := FunD.bindsN F10 fun _ _ _ _ _ _ us hl => match us, hl with | [_, _, _], _ => rfl
  have D10 : Df K mg "is_row" s_is_row (He.fAd K ("is_row", none)) k10 ["worths", "many", "value"] := ⟨funOf (st := s_is_row) F10, He.glo_ok X G (c.fact 10 (f := .glo "is_row") rfl), b10⟩
  have b11 : Binds K k11 ["worths", "many", "value"] [] := FunD.bindsN F11 fun _ _ _ _ _ _ us hl => match us, hl with | [_, _, _], _ => rfl
  have D11 : Df K mg "is_outcome" s_is_outcome (He.fAd K ("is_outcome", none)) k11 ["worths", "many", "value"] := ⟨funOf (st := s_is_outcome) F11, He.glo_ok X G (c.fact 11 (f := .glo "is_outcome") rfl), b11⟩
  have b12 : Binds K k12 ["value"] [] := FunD.bindsN F12 fun _ _ _ _ _ _ us hl => match us, hl with | [_], _ => rfl
  have D12 : Df K mg "is_word" s_is_word (He.fAd K ("is_word", none)) k12 ["value"] := ⟨funOf (st := s_is_word) F12, He.glo_ok X G (c.fact 12 (f := .glo "is_word") rfl), b12⟩
  have b13 : Binds K k13 ["value"] [] := FunD.bindsN F13 fun _ _ _ _ _ _ us hl => match us, hl with | [_], _ => rfl
  have D13 : Df K mg "is_letter" s_is_letter (He.fAd K ("is_letter", none)) k13 ["value"] := ⟨funOf (st := s_is_letter) F13, He.glo_ok X G (c.fact 13 (f := .glo "is_letter") rfl), b13⟩
  have b14 : Binds K k14 ["state", "door", "worth"] [] := FunD.bindsN F14 fun _ _ _ _ _ _ us hl => match us, hl with | [_, _, _], _ => rfl
  have D14 : Df K mg "outcomes_of" s_outcomes_of (He.fAd K ("outcomes_of", none)) k14 ["state", "door", "worth"] := ⟨funOf (st := s_outcomes_of) F14, He.glo_ok X G (c.fact 14 (f := .glo "outcomes_of") rfl), b14⟩
  have b15 : Binds K k15 ["state", "door", "worth", "answer"] [] := FunD.bindsN F15 fun _ _ _ _ _ _ us hl => match us, hl with | [_, _, _, _], _ => rfl
  have D15 : Df K mg "state_behind" s_state_behind (He.fAd K ("state_behind", none)) k15 ["state", "door", "worth", "answer"] := ⟨funOf (st := s_state_behind) F15, He.glo_ok X G (c.fact 15 (f := .glo "state_behind") rfl), b15⟩
  have b16 : Binds K k16 ["pact", "word"] [] := FunD.bindsN F16 fun _ _ _ _ _ _ us hl => match us, hl with | [_, _], _ => rfl
  have D16 : Df K mg "behind" s_behind (He.fAd K ("behind", none)) k16 ["pact", "word"] := ⟨funOf (st := s_behind) F16, He.glo_ok X G (c.fact 16 (f := .glo "behind") rfl), b16⟩
  have b17 : Binds K k17 ["pact", "other"] [] := FunD.bindsN F17 fun _ _ _ _ _ _ us hl => match us, hl with | [_, _], _ => rfl
  have D17 : Df K mg "first_more" s_first_more (He.fAd K ("first_more", none)) k17 ["pact", "other"] := ⟨funOf (st := s_first_more) F17, He.glo_ok X G (c.fact 17 (f := .glo "first_more") rfl), b17⟩
  have b18 : Binds K k18 ["state"] [] := FunD.bindsN F18 fun _ _ _ _ _ _ us hl => match us, hl with | [_], _ => rfl
  have D18 : Df K mg "letters_of" s_letters_of (He.fAd K ("letters_of", none)) k18 ["state"] := ⟨funOf (st := s_letters_of) F18, He.glo_ok X G (c.fact 18 (f := .glo "letters_of") rfl), b18⟩
  have b19 : Binds K k19 ["queue", "at"] [] := FunD.bindsN F19 fun _ _ _ _ _ _ us hl => match us, hl with | [_, _], _ => rfl
  have D19 : Df K mg "word_that_met" s_word_met (He.fAd K ("word_that_met", none)) k19 ["queue", "at"] := ⟨funOf (st := s_word_met) F19, He.glo_ok X G (c.fact 19 (f := .glo "word_that_met") rfl), b19⟩
  have b20 : Binds K k20 ["_law_script", "_law_k"] [] := FunD.bindsN F20 fun _ _ _ _ _ _ us hl => match us, hl with | [_, _], _ => rfl
  have D20 : Df K mg "_law_box" s__law_box (He.fAd K ("_law_box", none)) k20 ["_law_script", "_law_k"] := ⟨funOf (st := s__law_box) F20, He.glo_ok X G (c.fact 20 (f := .glo "_law_box") rfl), b20⟩
  have b21 : Binds K k21 ["_law_box_here", "_law_many"] [] := FunD.bindsN F21 fun _ _ _ _ _ _ us hl => match us, hl with | [_, _], _ => rfl
  have D21 : Df K mg "_law_take" sTake (He.fAd K ("_law_take", none)) k21 ["_law_box_here", "_law_many"] := ⟨funOf (st := sTake) F21, He.glo_ok X G (c.fact 21 (f := .glo "_law_take") rfl), b21⟩
  have b22 : Binds K k22 ["_law_box_here", "_law_some_here"] [] := FunD.bindsN F22 fun _ _ _ _ _ _ us hl => match us, hl with | [_, _], _ => rfl
  have D22 : Df K mg "_law_of" s__law_of (He.fAd K ("_law_of", none)) k22 ["_law_box_here", "_law_some_here"] := ⟨funOf (st := s__law_of) F22, He.glo_ok X G (c.fact 22 (f := .glo "_law_of") rfl), b22⟩
  have b23 : Binds K k23 ["_law_box_here", "_law_items", "_law_many"] [] := FunD.bindsN F23 fun _ _ _ _ _ _ us hl => match us, hl with | [_, _, _], _ => rfl
  have D23 : Df K mg "_law_some" s__law_some (He.fAd K ("_law_some", none)) k23 ["_law_box_here", "_law_items", "_law_many"] := ⟨funOf (st := s__law_some) F23, He.glo_ok X G (c.fact 23 (f := .glo "_law_some") rfl), b23⟩
  have b24 : Binds K k24 ["_law_pact", "_law_state", "_law_door", "_law_worth"] [] := FunD.bindsN F24 fun _ _ _ _ _ _ us hl => match us, hl with | [_, _, _, _], _ => rfl
  have D24 : Df K mg "_law_outcomes" s__law_outcomes (He.fAd K ("_law_outcomes", none)) k24 ["_law_pact", "_law_state", "_law_door", "_law_worth"] := ⟨funOf (st := s__law_outcomes) F24, He.glo_ok X G (c.fact 24 (f := .glo "_law_outcomes") rfl), b24⟩
  have b25 : Binds K k25 ["_law_box_here", "_law_doors"] [] := FunD.bindsN F25 fun _ _ _ _ _ _ us hl => match us, hl with | [_, _], _ => rfl
  have D25 : Df K mg "_law_pact_drawn" s__law_pact_drawn (He.fAd K ("_law_pact_drawn", none)) k25 ["_law_box_here", "_law_doors"] := ⟨funOf (st := s__law_pact_drawn) F25, He.glo_ok X G (c.fact 25 (f := .glo "_law_pact_drawn") rfl), b25⟩
  have b26 : Binds K k26 ["_law_box_here", "_law_pact"] [] := FunD.bindsN F26 fun _ _ _ _ _ _ us hl => match us, hl with | [_, _], _ => rfl
  have D26 : Df K mg "_law_bent" s__law_bent (He.fAd K ("_law_bent", none)) k26 ["_law_box_here", "_law_pact"] := ⟨funOf (st := s__law_bent) F26, He.glo_ok X G (c.fact 26 (f := .glo "_law_bent") rfl), b26⟩
  have b27 : Binds K k27 ["_law_pact", "_law_word"] [] := FunD.bindsN F27 fun _ _ _ _ _ _ us hl => match us, hl with | [_, _], _ => rfl
  have D27 : Df K mg "_law_behind" s__law_behind (He.fAd K ("_law_behind", none)) k27 ["_law_pact", "_law_word"] := ⟨funOf (st := s__law_behind) F27, He.glo_ok X G (c.fact 27 (f := .glo "_law_behind") rfl), b27⟩
  have b28 : Binds K k28 ["_law_pact", "_law_at"] [] := FunD.bindsN F28 fun _ _ _ _ _ _ us hl => match us, hl with | [_, _], _ => rfl
  have D28 : Df K mg "_law_letters" s__law_letters (He.fAd K ("_law_letters", none)) k28 ["_law_pact", "_law_at"] := ⟨funOf (st := s__law_letters) F28, He.glo_ok X G (c.fact 28 (f := .glo "_law_letters") rfl), b28⟩
  have b29 : Binds K k29 ["_law_pact", "_law_other"] [] := FunD.bindsN F29 fun _ _ _ _ _ _ us hl => match us, hl with | [_, _], _ => rfl
  have D29 : Df K mg "_law_first_more" s__law_first_more (He.fAd K ("_law_first_more", none)) k29 ["_law_pact", "_law_other"] := ⟨funOf (st := s__law_first_more) F29, He.glo_ok X G (c.fact 29 (f := .glo "_law_first_more") rfl), b29⟩
  have b30 : Binds K k30 ["_law_box_here", "_law_pact", "_law_doors"] [] := FunD.bindsN F30 fun _ _ _ _ _ _ us hl => match us, hl with | [_, _, _], _ => rfl
  have D30 : Df K mg "_law_word_drawn" s__law_word_drawn (He.fAd K ("_law_word_drawn", none)) k30 ["_law_box_here", "_law_pact", "_law_doors"] := ⟨funOf (st := s__law_word_drawn) F30, He.glo_ok X G (c.fact 30 (f := .glo "_law_word_drawn") rfl), b30⟩
  have b31 : Binds K k31 ["_law_ask"] [] := FunD.bindsN F31 fun _ _ _ _ _ _ us hl => match us, hl with | [_], _ => rfl
  have D31 : Df K mg "_law_caught" s__law_caught (He.fAd K ("_law_caught", none)) k31 ["_law_ask"] := ⟨funOf (st := s__law_caught) F31, He.glo_ok X G (c.fact 31 (f := .glo "_law_caught") rfl), b31⟩
  have b32 : Binds K k32 ["_law_box_here"] [] := FunD.bindsN F32 fun _ _ _ _ _ _ us hl => match us, hl with | [_], _ => rfl
  have b33 : Binds K k33 ["_law_size", "_law_times"] [] := FunD.bindsN F33 fun _ _ _ _ _ _ us hl => match us, hl with | [_, _], _ => rfl
  have D33 : Df K mg "_law_ring" s__law_ring (He.fAd K ("_law_ring", none)) k33 ["_law_size", "_law_times"] := ⟨funOf (st := s__law_ring) F33, He.glo_ok X G (c.fact 33 (f := .glo "_law_ring") rfl), b33⟩
  have b34 : Binds K k34 ["_law_box_here"] [] := FunD.bindsN F34 fun _ _ _ _ _ _ us hl => match us, hl with | [_], _ => rfl
  have D34 : Df K mg "_law_rings_right" s__law_rings_right (He.fAd K ("_law_rings_right", none)) k34 ["_law_box_here"] := ⟨funOf (st := s__law_rings_right) F34, He.glo_ok X G (c.fact 34 (f := .glo "_law_rings_right") rfl), b34⟩
  have b35 : Binds K k35 ["_law_script"] [] := FunD.bindsN F35 fun _ _ _ _ _ _ us hl => match us, hl with | [_], _ => rfl
  have D35 : Df K mg "law" s_law (He.fAd K ("law", none)) k35 ["_law_script"] := ⟨funOf (st := s_law) F35, He.glo_ok X G (c.fact 35 (f := .glo "law") rfl), b35⟩
  have b36 : Binds K k36 ["self", "value"] [] := FunD.bindsN F36 fun _ _ _ _ _ _ us hl => match us, hl with | [_, _], _ => rfl
  have U36 : Fun K "__init__" "WireError.__init__" s_err (He.fAd K ("WireError", some "__init__")) k36 := funOf (st := s_err) F36
  have gWireError : mg "WireError" = some (.ref (He.ga K "WireError")) := He.glo_ok X G (c.fact 36 (f := .glo "WireError") rfl)
  have gBadWorths : mg "BadWorths" = some (.ref (He.ga K "BadWorths")) := He.glo_ok X G (c.fact 37 (f := .glo "BadWorths") rfl)
  have gBadPact : mg "BadPact" = some (.ref (He.ga K "BadPact")) := He.glo_ok X G (c.fact 38 (f := .glo "BadPact") rfl)
  have gBadWord : mg "BadWord" = some (.ref (He.ga K "BadWord")) := He.glo_ok X G (c.fact 39 (f := .glo "BadWord") rfl)
  have cMOST_STATES : ∃ t, mg "MOST_STATES" = some (.int 400 t) := He.int_ok X G (c.fact 55 (f := .int "MOST_STATES" 400) rfl)
  have cMOST_WORTHS : ∃ t, mg "MOST_WORTHS" = some (.int 4 t) := He.int_ok X G (c.fact 56 (f := .int "MOST_WORTHS" 4) rfl)
  refine ⟨_, fun s v => FunD.bindsA (ps := ["_law_script"]) F35 (fun _ _ _ _ _ _ us hl => match us, hl with | [_], _ => rfl) s [v] rfl, fun base XB GB TR1 => ?_⟩
  have Gerr := ok_err (P := P) (w := w) (mg := mg) (base := base) U36
  have ErBadPact : Er K mg "BadPact" (He.ga K "BadPact") (He.fAd K ("WireError", some "__init__")) := er_of X G gBadPact eBadPact e2
  have ErBadWord : Er K mg "BadWord" (He.ga K "BadWord") (He.fAd K ("WireError", some "__init__")) := er_of X G gBadWord eBadWord e2
  have ErBadWorths : Er K mg "BadWorths" (He.ga K "BadWorths") (He.fAd K ("WireError", some "__init__")) := er_of X G gBadWorths eBadWorths e2
  have Gwo := ok_is_worths (P := P) (w := w) (mg := mg) (base := base) Bt0 D2 D0
  have Grow := ok_is_row (P := P) (w := w) (mg := mg) (base := base) Bt0 (He.free_ok X G (c.fact 52 (f := .free "all") rfl)) D10 D6 D3 D1 D0 D5 D4 D11 D7
  have Gst := ok_is_state (P := P) (w := w) (mg := mg) (base := base) Bt0 (He.free_ok X G (c.fact 52 (f := .free "all") rfl)) D9 D10 Grow D7
  have Gst0 := ok_is_state0 (P := P) (w := w) (mg := mg) (base := base) Bt0 (He.free_ok X G (c.fact 52 (f := .free "all") rfl)) D9 D10 Grow D7
  have Gpact := ok_is_pactQ (P := P) (w := w) (mg := mg) (base := base) Bt0 (He.free_ok X G (c.fact 52 (f := .free "all") rfl)) ⟨cMOST_STATES⟩ ErBadWorths Gerr b36 D2 Gwo D9 Gst0 Gst D8
  have Glet := ok_is_letter (P := P) (w := w) (mg := mg) (base := base) Bt0 cMOST_WORTHS D13 D6 D3 D1 D0 D5 D4
  have Gword := ok_is_word (P := P) (w := w) (mg := mg) (base := base) Bt0 (He.free_ok X G (c.fact 52 (f := .free "all") rfl)) D12 D13 Glet
  have Gbeh := ok_behind (P := P) (w := w) (mg := mg) (base := base) cMOST_WORTHS ErBadPact ErBadWord Gerr b36 D16 D8 Gpact D12 Gword D15 D14
  have Gmore := ok_first_more (P := P) (w := w) (mg := mg) (base := base) Bt0 cMOST_WORTHS ErBadPact Gerr b36 D17 D8 Gpact D18 D15 D14 D19
  have Gsome := ok_some (P := P) (w := w) (mg := mg) (base := base) Bt0 D23 D21
  have Gof := ok_law_of (P := P) (w := w) (mg := mg) (base := base) Bt0 D22 D21
  have Gpd := ok_pact_drawn (P := P) (w := w) (mg := mg) (base := base) Bt0 (He.free_ok X G (c.fact 53 (f := .free "sorted") rfl)) D25 D21 D23
  have Gbn := ok_bent (P := P) (w := w) (mg := mg) (base := base) Bt0 D26 D21
  have Gwd := ok_word_drawn (P := P) (w := w) (mg := mg) (base := base) Bt0 (He.free_ok X G (c.fact 53 (f := .free "sorted") rfl)) D30 D21 D22 D28
  have Glb := ok_law_behind (P := P) (w := w) (mg := mg) (base := base) Bt0 (He.free_ok X G (c.fact 54 (f := .free "dict") rfl)) D27 D24
  have Glf := ok_law_first_more (P := P) (w := w) (mg := mg) (base := base) Bt0 (He.free_ok X G (c.fact 54 (f := .free "dict") rfl)) (He.free_ok X G (c.fact 44 (f := .free "min") rfl)) D29 D28
  have LR : LamX.TabB base mg (He.codeOf K ("_law_right", none)) (He.cT K ("_law_right", none)).2 := TR1
  have RR : Rr P w K mg base (He.cT K ("_law_right", none)).2 (He.codeOf K ("_law_right", none)) (He.ga K "WireError") (CE2 K) _ _ _ _ _ _ _ _ _ _ _ _ _ _ _ _ _ _ _ _ _ _ := { B := Bt0, DT := D21, DS := D23, GS := Gsome, DO := D22, GO := Gof, DPD := D25, GPD := Gpd, DBn := D26, GBn := Gbn, DWd := D30, GWd := Gwd, DBh := D16, GBh := Gbeh, DFm := D17, GFm := Gmore, DLB := D27, GLB := Glb, DLF := D29, GLF := Glf, DCt := D31, E := eE_of e2, gE := gWireError, g0 := gBadPact, g1 := gBadWord, TB := LR }
  have FR := funTOf (st := s__law_right) (p := ("_law_right", none)) F32
  have Gright := ok_right RR FR
  have Grings := ok_rings_right RR D33 D34.F
  exact ok_law Bt0 (He.free_ok X G (c.fact 52 (f := .free "all") rfl)) D20 (He.glo_ok X G (c.fact 32 (f := .glo "_law_right") rfl)) FR.kp b32 Gright D34 Grings D35.F
end
end K5
namespace K5
open PySem PySem.Spec PyProof.Rows L2
end K5
namespace K5
open PySem PySem.Spec PyProof.Rows L2
theorem walk5 {q : Program} {loose : List Str} {XP : (Str → Option Value) → Heap → Prop} {d : DefRec} (hn : (PySem.Challenge.rw_truestandins_k13_words_that_pacts_let).most = some 63) (hdf : d.params.defaults = []) (hname : d.name = ("law" : Str)) :
    PySem.W.WalkO q loose XP hk5.says (PySem.W.OpenLaw.row PySem.Challenge.rw_truestandins_k13_words_that_pacts_let).toRowW d [] (fun f vs => PySem.call f vs) := by
  refine Att.attach_callB hn hdf fun w s₀ st mg mb fa o pm cd doc a us ns G Y ho hd hcd hmg arg whole len bits gens => ?_
  obtain ⟨K, KX, c⟩ := Y
  rw [hname] at hmg
  have mem1 : (("_law_right", none) : He.Defn) ∈ tfL := by simp
  have all1 : ∀ p ∈ [He.cT K ("_law_right", none)], ∃ d ∈ tfL, p = He.cT K d := fun p hp => ⟨_, mem1, List.mem_singleton.mp hp⟩
  obtain ⟨fd, hb, hF⟩ := all_mk (P := (PySem.Challenge.rw_truestandins_k13_words_that_pacts_let).prog) (w := w) KX G.T.g hmg c.t.d c.more
  have in1 : He.cT K ("_law_right", none) ∈ [He.cT K ("_law_right", none)] := List.mem_singleton.mpr rfl
  refine law_G (cs := [He.cT K ("_law_right", none)]) (x := "_law_script") (lv := 14) KX G.T.g G.T.b G.T.builtins G.T.nolimit gens (fun p hp => ?_) (fun p hp => ?_) (fun p hp => ?_) G.T.bmain arg whole (Nat.le_trans len (by decide)) ⟨rfl, by decide, by decide⟩ (fun base XB GB TB => hF base XB GB (TB _ in1)) hb (fun H hH hS => ?_) fun H e s2 z => ?_
  · obtain ⟨d, m, rfl⟩ := all1 p hp
    exact c.empty _ m
  · obtain ⟨d, m, rfl⟩ := all1 p hp
    exact c.out _ m
  · obtain ⟨d, m, rfl⟩ := all1 p hp
    exact PySem.W.codeHd_of_K KX (c.hd _ m)
  · have hT1 := hH _ in1
    have ne : ∀ T : Addr, H T = some (.tbl #[]) → K.lookup T = none → a ≠ T := fun T hT out e => by
      rw [e] at hS
      rcases hS with (h | ⟨u, h⟩) | ⟨u, its, m, lk, _⟩
      · rw [hT] at h
        cases h
      · rw [hT] at h
        cases h
      · rw [out] at lk
        cases lk
    exact ⟨a, ns, rfl, hS, LamX.TabS.nil hT1, ne _ hT1 (c.out _ mem1), fun _ => rfl⟩
  · obtain ⟨_, _, _, _, _, _, _, _, _, _, _, _, z⟩ := z
    exact z.elim
end K5
open PySem PySem.W PySem.Calls PyProof.Rows
theorem PySem.Challenge.cw_truestandins_k13_words_that_pacts_let_holds : PySem.Challenge.rw_truestandins_k13_words_that_pacts_let.Holds := by
  w_on; o_law
  refine HandSHeadRun.head_any (r := K5.R5) (q := view K5.R5.prog [45]) (H := K5.hk5) (ob := K5.ob5) (M := 6000) (loose := K5.namesL) (d := HandSHeadRun.topDef K5.R5.prog 45) (kwd := []) K5.ob5_eq
    (by kernel_rfl) (fun s => by kernel_rfl) K5.run5 (by kernel_rfl) (by kernel_rfl) (by kernel_rfl) (by rfl) (by first | assumption | decide +kernel) (by decide +kernel) ⟨rfl, rfl, rfl, rfl, rfl, by decide +kernel⟩ ?hw ?hc
  case hw => w_witness2
  case hc => exact K5.walk5 rfl (by kernel_rfl) (by kernel_rfl)
