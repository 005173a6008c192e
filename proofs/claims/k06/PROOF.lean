import PyProof.Rows.All
import Wide.All
import OpenK.AllK
import Wide.FinOn
import HandS.ForMost
import HandS.Wide
import HandS.Steps
import HandS.IsInst
import HandS.StrMore
import HandS.Flow
import HandS.ForExc
import HandS.ExcInit
import HandS.Text
import PyProof.StrLawsChain
import HandS.NoneIn
import KE.KUnpackStar
import HandS.Strs
import HandS.TupAny
import HandS.ListItems
import HandS.Conv
import HandS.JoinGen
import PyProof.GenCompT
import PyProof.WalksPairs
import PyProof.TupleOfGen
import KE.KDictKeyed
import KE.KDictLaw
import HandS.Dict
import HandS.Iter
import KE.SortData
import KE.KDictList
import HandS.TupSets
import HandS.SetTxt0
import KE.KeyNested
import HandS.TupLe
import HandS.RaiseMore
import PyProof.ReprRoads
import PyProof.Rows.RegFStrParts
import PyProof.ReprReads
import PyProof.StrLawsTight
import HandS.HeadHook4
import HandS.HeadWalk
import HandS.Head2
import PySem.Challenge.RW_truestandins_k06_draws_and_answers_by_ha
set_option Elab.async false
set_option linter.all false
set_option maxRecDepth 100000
set_option maxHeartbeats 0
namespace K5
open PySem PySem.Spec PyProof.Rows L2
def topS (i : Nat) : Stmt := PySem.Challenge.pw_truestandins_k06_draws_and_answers_by_ha.main.body.getD (i + 1) (.Pass ⟨0, 0, 0, 0⟩)
/-! ### values that leave the heap as it is -/
section
variable {X : Cx} {K : PySem.W.Frag} {σ : L2.St} {H : Hp} {ta tb : TE} {i j : Int} {p : Addr} {xs : List V} {v : V}
theorem val_ixL (ha : Val ta σ H (.ref p)) (hb : Val tb σ H (.int i)) (hS : SqL K H p xs) (h : atI xs i = some v) : Val (tOp (rIxL K) ta tb) σ H v :=
  val_op ha hb fun Q q => ⟨p, xs, i, v, rfl, rfl, hS, h, q⟩
theorem val_i0 {g : Int → Int → Int} (ha : Val ta σ H (.int i)) (hb : Val tb σ H (.int j)) : Val (tOp (rI0 fun i j => .int (g i j)) ta tb) σ H (.int (g i j)) :=
  val_op ha hb fun Q q => ⟨i, j, rfl, rfl, q⟩
theorem val_iC {C : Int → Int → Prop} {g : Int → Int → Int} (ha : Val ta σ H (.int i)) (hb : Val tb σ H (.int j)) (hc : C i j) : Val (tOp (rI C fun i j => .int (g i j)) ta tb) σ H (.int (g i j)) :=
  val_op ha hb fun Q q => ⟨i, j, rfl, rfl, hc, q⟩
def rInt1 : List V → Hp → VK → Prop := fun xs H Q => (∃ i, xs = [.int i] ∧ Q (.int i) H) ∨ ∃ k, xs = [.bl k] ∧ Q (.int (if k then 1 else 0)) H
theorem pe_toInt {e : Expr} {te : TE} {p pos : Pos} (hg : Gl X "int") (hm : X.mg "int" = none) (h : PE X e te)
    (he : starEach (e :: []) X.env = (false, eval e X.env) :: starEach [] X.env := by rfl) (hpl : (backTo pos (starEach [] X.env)).any (·.1) = false := by rfl) : PE X (.Call (.Name "int" p) [e] [] pos) (tCB rInt1 (tCons te tNil)) :=
  pe_callTy call_int1 hg hm PyProof.Rows.boot_int (pa_cons h pa_nil he) (he := he) (hpl := hpl)
theorem val_toInt (h : Val ta σ H (.int i)) : Val (tCB rInt1 (tCons ta tNil)) σ H (.int i) := fun Q q => h _ (.inl ⟨i, rfl, q⟩)
theorem val_toIntB {b : Bool} (h : Val ta σ H (.bl b)) : Val (tCB rInt1 (tCons ta tNil)) σ H (.int (if b then 1 else 0)) := fun Q q => h _ (.inr ⟨b, rfl, q⟩)
end
/-! ### the box of draws -/
def bx (p q n : Int) : List V := [.int p, .int q, .int n]
structure Box (p q n : Int) : Prop where
  p0 : 0 ≤ p
  q0 : 0 ≤ q
  q1 : q < 2305843009213693921
  n0 : 0 ≤ n
  n1 : n ≤ 1000000
abbrev sTake : Stmt := topS 48
theorem scTake : FnScope ["_law_box_here", "_law_many", "_law_digit", "_law_big"] ["_law_box_here", "_law_many"] (defScope sTake) := ⟨rfl, rfl, rfl, by decide +kernel, rfl, by decide +kernel, by decide +kernel⟩
/-- a draw: the box goes on, at most one more is counted -/
def spTake : Sp := fun vs H Q _ => ∃ (b : Addr) (m p q n : Int), vs = [.ref b, .int m] ∧ H b = some (.lst (bx p q n)) ∧ Box p q n ∧ n < 1000000 ∧ 0 < m ∧ m < 1000000 ∧
  ∀ d p' n' : Int, 0 ≤ d → d < m → Box p' q n' → n' ≤ n + 1 → Q (.int d) (upd H b (.lst (bx p' q n')))
section
variable {P : Program} {w : World} {K : PySem.W.Frag} {mg : Str → Option Value} {base : Heap}
theorem ok_take {f : Addr} {fd : FuncData} {CX : CXT} (F : Fun K "_law_take" "_law_take" sTake f fd) (mI : mg "int" = none) : FnOk P w K mg base CX0 1 f fd ["_law_box_here", "_law_many"] spTake := by
  refine F.ok scTake (fun vs H Q E h => ?_) (fun cdv A outer s H vs Q E hr h => ?_)
  · obtain ⟨b, m, p, q, n, rfl, _⟩ := h
    rfl
  · obtain ⟨b, m, p, q, n, rfl, hb, B, hn, m0, m1, k⟩ := h
    refine ⟨_, pss_cons (ps_if (pt_cmpR op_gt (pe_ix ix_list (pv 0) pe_int (fun _ _ => rfl)) pe_int (nomark _))
        (pss_cons (ps_set (i := 2) scTake.nd rfl (.inl rfl) (pe_op op_mod (pe_toInt (by rfl) mI (pe_ix ix_list (pv 0) pe_int (fun _ _ => rfl))) (pv 1)))
        (pss_cons (ps_asg (pe_op op_fdiv (pe_ix ix_list (pv 0) pe_int (fun _ _ => rfl)) (pv 1)) (pg_sub (pv 0) pe_int set_list))
        (pss_one (ps_ret (pv 2))))) pss_nil)
      (pss_cons (ps_asg (pe_op op_add (pe_ix ix_list (pv 0) pe_int (fun _ _ => rfl)) pe_int) (pg_sub (pv 0) pe_int set_list))
      (pss_cons (ps_set (i := 3) scTake.nd rfl (.inl rfl) (pe_op op_mod (pe_toInt (by rfl) mI (pe_op op_mul (pe_op op_add (pe_op op_add (pe_ix ix_list (pv 0) pe_int (fun _ _ => rfl)) (pe_op op_mul (pe_op op_mul pe_int (pe_ix ix_list (pv 0) pe_int (fun _ _ => rfl))) (pe_ix ix_list (pv 0) pe_int (fun _ _ => rfl)))) pe_int) pe_int)) pe_int))
      (pss_cons (ps_set (i := 3) scTake.nd rfl (.inl rfl) (pe_op op_mod (pe_toInt (by rfl) mI (pe_op op_mul (pv 3) (pe_op op_add (pe_op op_mod (pe_toInt (by rfl) mI (pv 3)) pe_int) (pe_op op_mul pe_int (pe_ix ix_list (pv 0) pe_int (fun _ _ => rfl)))))) pe_int))
      (pss_one (ps_ret (pe_op op_mod (pe_toInt (by rfl) mI (pe_op op_add (pe_op op_fdiv (pv 3) pe_int) (pe_op op_fdiv (pv 3) pe_int))) (pv 1))))))), ?_⟩
    have hS : SqL K H b (bx p q n) := SqL.of hb
    refine (val_ixL (val_var rfl) val_c hS (atI_nat (j := 0) rfl)) _ ?_
    refine ⟨_, _, rfl, rfl, _, rfl, ite2 (fun e => ?_) (fun e => ?_)⟩
    · refine (val_iC (val_toInt (val_ixL (val_var rfl) val_c hS (atI_nat (j := 0) rfl))) (val_var rfl) m0) _ ?_
      refine (val_iC (val_ixL (val_var rfl) val_c hS (atI_nat (j := 0) rfl)) (val_var rfl) ⟨m0, by omega⟩) _ ?_
      refine ⟨_, rfl, b, _, 0, 0, rfl, rfl, hb, rfl, ?_⟩
      refine ⟨_, rfl, ?_⟩
      have hp : 0 < p := of_decide_eq_true e
      exact k _ _ _ (Int.emod_nonneg _ (by omega)) (Int.emod_lt_of_pos _ m0) ⟨Int.ediv_nonneg B.p0 (by omega), B.q0, B.q1, B.n0, B.n1⟩ (by omega)
    · refine (val_i0 (val_ixL (val_var rfl) val_c hS (atI_nat (j := 2) rfl)) val_c) _ ?_
      refine ⟨_, rfl, b, _, 2, 2, rfl, rfl, hb, rfl, ?_⟩
      have h1 : (upd H b (.lst (bx p q (n + 1)))) b = some (.lst (bx p q (n + 1))) := upd_same
      have hS1 : SqL K (upd H b (.lst (bx p q (n + 1)))) b (bx p q (n + 1)) := SqL.of h1
      refine (val_iC (val_toInt (val_iC (val_i0 (val_i0 (val_ixL (val_var rfl) val_c hS1 (atI_nat (j := 1) rfl)) (val_iC (val_iC val_c (val_ixL (val_var rfl) val_c hS1 (atI_nat (j := 2) rfl)) ?_) (val_ixL (val_var rfl) val_c hS1 (atI_nat (j := 2) rfl)) ?_)) val_c) val_c ?_)) val_c ?_) _ ?_
      · exact .inl ⟨by decide, by decide⟩
      · exact .inr ⟨by have := B.n0; omega, by omega⟩
      · exact .inr ⟨by decide, by decide⟩
      · show (0 : Int) < 2305843009213693921
        decide
      generalize hz : (q + 65543 * (n + 1) * (n + 1) + 41) * 48271 % 2305843009213693921 = z
      have z0 : 0 ≤ z := by rw [← hz]; exact Int.emod_nonneg _ (by decide)
      have z1 : z < 2305843009213693921 := by rw [← hz]; exact Int.emod_lt_of_pos _ (by decide)
      refine (val_iC (val_toInt (val_iC (val_var rfl) (val_i0 (val_iC (val_toInt (val_var rfl)) val_c ?_) (val_iC val_c (val_ixL (val_var rfl) val_c hS1 (atI_nat (j := 2) rfl)) ?_)) ?_)) val_c ?_) _ ?_
      · show (0 : Int) < 1000003
        decide
      · exact .inl ⟨by decide, by decide⟩
      · exact .inl ⟨by omega, by omega⟩
      · show (0 : Int) < 2305843009213693907
        decide
      refine (val_iC (val_toInt (val_i0 (val_iC (val_var rfl) val_c ⟨by decide, by decide⟩) (val_iC (val_var rfl) val_c ⟨by decide, by decide⟩))) (val_var rfl) m0) _ ?_
      exact k _ _ _ (Int.emod_nonneg _ (by omega)) (Int.emod_lt_of_pos _ m0) ⟨B.p0, B.q0, B.q1, by have := B.n0; omega, by omega⟩ (by omega)
end
end K5
namespace K5
open PySem PySem.Spec PyProof.Rows L2
/-- the built-ins' names still are the built-ins' -/
structure Bt (mg : Str → Option Value) : Prop where
  m_int : mg "int" = none
  m_len : mg "len" = none
  m_abs : mg "abs" = none
  m_max : mg "max" = none
  m_min : mg "min" = none
  m_list : mg "list" = none
  m_str : mg "str" = none
  m_bool : mg "bool" = none
  m_range : mg "range" = none
  m_isinstance : mg "isinstance" = none
  m_tuple : mg "tuple" = none
  m_repr : mg "repr" = none
/-- a def of the top -/
structure Df (K : PySem.W.Frag) (mg : Str → Option Value) (x : Str) (st : Stmt) (f : Addr) (fd : FuncData) (ps : List Str) : Prop where
  F : Fun K x x st f fd
  g : mg x = some (.ref f)
  b : Binds K fd ps []
/-- a method -/
structure Mf (K : PySem.W.Frag) (C : Addr) (x qual : Str) (st : Stmt) (f : Addr) (fd : FuncData) (ps : List Str) : Prop where
  F : Fun K x qual st f fd
  m : Meth K C x f
  b : Binds K fd ps []
/-! ### heaps -/
theorem same_upd {H : Hp} {p : Addr} {o : HO} (h : H p = none) : Same H (upd H p o) := fun b x e => by
  rw [upd_ne (ne_of_none e h)]
  exact e
/-- all that was tracked is as it was, but the list at b -/
def SameBut (b : Addr) (H H' : Hp) : Prop := ∀ a o, a ≠ b → H a = some o → H' a = some o
theorem SameBut.of_same {b : Addr} {H H' : Hp} (e : Same H H') : SameBut b H H' := fun a o _ h => e a o h
theorem SameBut.trans {b : Addr} {H H1 H2 : Hp} (x : SameBut b H H1) (y : SameBut b H1 H2) : SameBut b H H2 := fun a o n h => y a o n (x a o n h)
theorem SameBut.upd (b : Addr) (H : Hp) (o : HO) : SameBut b H (upd H b o) := fun a u n h => by
  rw [upd_ne n]
  exact h
/-! ### numbers -/
def CPowB (i j : Int) : Prop := 0 ≤ j ∧ (Builtin.Int.intBits i : Int) * j ≤ 2 ^ 27
theorem op_powB {X : Cx} : OpR X (binaryOp .Pow) (rI CPowB fun i j => .int (i ^ j.toNat)) := opI fun _ _ _ _ _ _ _ hc q => pow_int hc.1 hc.2 q
section
variable {X : Cx} {K : PySem.W.Frag} {σ : L2.St} {H : Hp} {ta tb : TE} {i j : Int} {p : Addr} {xs : List V} {v : V}
theorem val_i0b {g : Int → Int → Bool} (ha : Val ta σ H (.int i)) (hb : Val tb σ H (.int j)) : Val (tOp (rI0 fun i j => .bl (g i j)) ta tb) σ H (.bl (g i j)) :=
  val_op ha hb fun Q q => ⟨i, j, rfl, rfl, q⟩
def rAbs : List V → Hp → VK → Prop := fun xs H Q => ∃ i, xs = [.int i] ∧ Q (.int (if i < 0 then -i else i)) H
theorem val_abs (h : Val ta σ H (.int i)) : Val (tCB rAbs (tCons ta tNil)) σ H (.int (if i < 0 then -i else i)) := fun Q q => h _ ⟨i, rfl, q⟩
def rLenSq (K : PySem.W.Frag) : List V → Hp → VK → Prop := fun xs H Q => ∃ p ys, xs = [.ref p] ∧ (SqL K H p ys ∨ SqT K H p ys) ∧ Q (.int ys.length) H
theorem val_lenL (h : Val ta σ H (.ref p)) (hS : SqL K H p xs) : Val (tCB (rLenSq K) (tCons ta tNil)) σ H (.int xs.length) := fun Q q => h _ ⟨p, xs, rfl, .inl hS, q⟩
end
theorem b01 (b : Bool) : -(2 ^ 64) < (if b = true then (1 : Int) else 0) ∧ (if b = true then (1 : Int) else 0) < 2 ^ 64 := by cases b <;> exact ⟨by decide, by decide⟩
theorem b0 (b : Bool) : 0 ≤ (if b = true then (1 : Int) else 0) := by cases b <;> decide
theorem step_int {te : TE} {σ : L2.St} {H : Hp} {Q : VK} (h : ∃ z : Int, Val te σ H (.int z)) (k : ∀ z : Int, Q (.int z) H) : te σ H Q := by
  obtain ⟨z, hz⟩ := h
  exact hz Q (k z)
/-! ### a fresh box -/
abbrev s__law_box : Stmt := topS 47
theorem sc__law_box : FnScope ["_law_script", "_law_k", "_law_first", "_law_own"] ["_law_script", "_law_k"] (defScope s__law_box) := ⟨rfl, rfl, rfl, by decide +kernel, rfl, by decide +kernel, by decide +kernel⟩
def spBox (K : PySem.W.Frag) : Sp := fun vs H Q _ => ∃ (a : Addr) (ns : List Int) (k : Int), vs = [.ref a, .int k] ∧ SqL K H a (ns.map V.int) ∧ 0 ≤ k ∧ k < 100 ∧
  ∀ (b : Addr) (p q : Int), H b = none → Box p q 0 → Q (.ref b) (upd H b (.lst (bx p q 0)))
section
variable {P : Program} {w : World} {K : PySem.W.Frag} {mg : Str → Option Value} {base : Heap}
theorem ok_box {f : Addr} {fd : FuncData} (B : Bt mg) (D : Df K mg "_law_box" s__law_box f fd ["_law_script", "_law_k"]) : FnOk P w K mg base CX0 1 f fd ["_law_script", "_law_k"] (spBox K) := by
  refine D.F.ok sc__law_box (fun vs H Q E h => ?_) (fun cdv A outer s H vs Q E hr h => ?_)
  · obtain ⟨a, ns, k, rfl, _⟩ := h
    rfl
  · obtain ⟨a, ns, k, rfl, hS, k0, k1, kk⟩ := h
    have S := sc__law_box
    refine ⟨_, (pss_cons (ps_set (i := 2) S.nd rfl (.inl rfl) (pe_ifExp (pt_cmpR op_lt (pv 1) (pe_callB call_len_seq (by rfl) B.m_len PySem.boot_len (pa_cons (pv 0) pa_nil)) (nomark _)) (pe_ix ix_list (pv 0) (pv 1) (fun _ _ => rfl)) (pe_op op_add (pe_op op_mul pe_int (pv 1)) pe_int)))
      (pss_cons (ps_set (i := 3) S.nd rfl (.inl rfl) (pe_op op_mul (pe_op op_mod (pe_toInt (by rfl) B.m_int (pe_callB call_abs (by rfl) B.m_abs PyProof.Rows.boot_abs (pa_cons (pv 2) pa_nil))) (pe_op op_powB (pe_op op_pow pe_int pe_int) pe_int)) (pe_toInt (by rfl) B.m_int (pe_cmpR op_ge (pe_callB call_abs (by rfl) B.m_abs PyProof.Rows.boot_abs (pa_cons (pv 2) pa_nil)) (pe_op op_pow pe_int pe_int) (nomark _)))))
      (pss_one (ps_ret (pe_lst (pa_cons (pv 3) (pa_cons (pe_op op_mod (pe_toInt (by rfl) B.m_int (pe_op op_add (pe_op op_add (pe_op op_mul (pe_op op_mod (pe_toInt (by rfl) B.m_int (pv 2)) pe_int) pe_int) (pe_op op_mul (pe_op op_mul pe_int (pv 1)) (pv 1))) pe_int)) pe_int) (pa_cons pe_int pa_nil)))))))), ?_⟩
    show tIf _ _ _ _ _ _
    refine step_int ?_ fun z => ?_
    · by_cases hk : k < (ns.map V.int).length
      · have hk' : k.toNat < ns.length := by
          rw [List.length_map] at hk
          omega
        refine ⟨ns[k.toNat], fun Q q => ?_⟩
        refine (val_i0b (val_var rfl) (val_lenL (val_var rfl) hS)) _ ⟨_, rfl, ?_⟩
        rw [decide_eq_true hk]
        refine iteT ((val_ixL (val_var rfl) (val_var rfl) hS (at_of (j := k.toNat) (by omega) ?_)) _ q)
        rw [List.getElem?_map, List.getElem?_eq_getElem hk']
        rfl
      · refine ⟨37 * k + 11, fun Q q => ?_⟩
        refine (val_i0b (val_var rfl) (val_lenL (val_var rfl) hS)) _ ⟨_, rfl, ?_⟩
        rw [decide_eq_false hk]
        exact iteF ((val_i0 (val_iC val_c (val_var rfl) (.inl ⟨by decide, by decide⟩)) val_c) _ q)
    · refine (val_iC (val_iC (val_toInt (val_abs (val_var rfl))) (val_iC (val_iC val_c val_c ⟨by decide, by decide, by decide⟩) val_c ⟨by decide, by decide +kernel⟩) ?_) (val_toIntB (val_i0b (val_abs (val_var rfl)) (val_iC val_c val_c ⟨by decide, by decide, by decide⟩))) ?_) _ ?_
      · show (0 : Int) < (10 ^ (60 : Int).toNat) ^ (4 : Int).toNat
        decide +kernel
      · exact .inr (b01 _)
      generalize hp : (if z < 0 then -z else z) % (10 ^ (60 : Int).toNat) ^ (4 : Int).toNat * (if decide (10 ^ (18 : Int).toNat ≤ if z < 0 then -z else z) = true then 1 else 0) = p
      have p0 : 0 ≤ p := by
        rw [← hp]
        exact Int.mul_nonneg (Int.emod_nonneg _ (by decide +kernel)) (b0 _)
      refine ⟨_, rfl, ?_⟩
      have m1 : 0 ≤ z % 2305843009213693951 := Int.emod_nonneg _ (by decide)
      have m2 : z % 2305843009213693951 < 2305843009213693951 := Int.emod_lt_of_pos _ (by decide)
      refine (val_iC (val_toInt (val_i0 (val_i0 (val_iC (val_iC (val_toInt (val_var rfl)) val_c ?_) val_c ?_) (val_iC (val_iC val_c (val_var rfl) ?_) (val_var rfl) ?_)) val_c)) val_c ?_) _ ?_
      · show (0 : Int) < 2305843009213693951
        decide
      · exact .inr ⟨by decide, by decide⟩
      · exact .inl ⟨by decide, by decide⟩
      · exact .inr ⟨by omega, by omega⟩
      · show (0 : Int) < 2305843009213693921
        decide
      refine ⟨by show 3 ≤ sizeLine; decide, fun b hb => ?_⟩
      exact kk b _ _ hb ⟨p0, Int.emod_nonneg _ (by decide), Int.emod_lt_of_pos _ (by decide), by decide, by decide⟩
end
end K5
namespace K5
open PySem PySem.Spec PyProof.Rows L2
abbrev s__law_some : Stmt := topS 50
theorem sc__law_some : FnScope ["_law_box_here", "_law_items", "_law_many", "_law_left", "_law_found", "_law_turn"] ["_law_box_here", "_law_items", "_law_many"] (defScope s__law_some) := ⟨rfl, rfl, rfl, by decide +kernel, rfl, by decide +kernel, by decide +kernel⟩
/-- so many of some items, in a drawn sequence: a new list; the box goes on -/
def spSome (K : PySem.W.Frag) : Sp := fun vs H Q _ => ∃ (b l : Addr) (xs : List V) (m : Nat) (p q n : Int), vs = [.ref b, .ref l, .int m] ∧ H b = some (.lst (bx p q n)) ∧ Box p q n ∧ SqL K H l xs ∧ m ≤ xs.length ∧ xs.length ≤ 1000 ∧ n + m < 1000000 ∧
  ∀ (H' : Hp) (r : Addr) (ys rest : List V) (p' n' : Int), SameBut b H H' → H r = none → H' r = some (.lst ys) → H' b = some (.lst (bx p' q n')) → Box p' q n' → n' ≤ n + m → ys.length = m → (ys ++ rest).Perm xs → Q (.ref r) H'
theorem seqIndex_in {n : Nat} {d : Int} (h0 : 0 ≤ d) (h1 : d < n) : seqIndex? d n = some d.toNat := by
  unfold seqIndex?
  simp only []
  split <;> simp_all <;> omega
theorem erase_perm {α : Type} : ∀ {l : List α} {j : Nat} (h : j < l.length), (l[j] :: l.eraseIdx j).Perm l
  | _ :: _, 0, _ => List.Perm.refl _
  | a :: l, j + 1, h => by
    have hj : j < l.length := Nat.lt_of_succ_lt_succ h
    have ih := erase_perm (l := l) (j := j) hj
    show (l[j] :: a :: l.eraseIdx j).Perm (a :: l)
    exact (List.Perm.swap _ _ _).trans (List.Perm.cons a ih)
theorem perm_pick {ys xs l : List V} {j : Nat} {y : V} (h : (ys ++ l).Perm xs) (hj : l[j]? = some y) : (ys ++ [y] ++ l.eraseIdx j).Perm xs := by
  refine List.Perm.trans ?_ h
  rw [List.append_assoc]
  refine List.Perm.append_left ys ?_
  show (y :: l.eraseIdx j).Perm l
  obtain ⟨hl, e⟩ := List.getElem?_eq_some_iff.mp hj
  rw [← e]
  exact erase_perm hl
section
variable {P : Program} {w : World} {K : PySem.W.Frag} {mg : Str → Option Value} {base : Heap}
theorem ok_some {f fT : Addr} {fd fdT : FuncData} (B : Bt mg) (D : Df K mg "_law_some" s__law_some f fd ["_law_box_here", "_law_items", "_law_many"]) (D__law_take : Df K mg "_law_take" sTake fT fdT ["_law_box_here", "_law_many"]) :
    FnOk P w K mg base CX0 2 f fd ["_law_box_here", "_law_items", "_law_many"] (spSome K) := by
  have G__law_take : FnOk P w K mg base CX0 1 fT fdT ["_law_box_here", "_law_many"] spTake := ok_take (CX := CX0) D__law_take.F B.m_int
  refine D.F.ok sc__law_some (fun vs H Q E h => ?_) (fun cdv A outer s H vs Q E hr h => ?_)
  · obtain ⟨b, l, xs, m, p, q, n, rfl, _⟩ := h
    rfl
  · obtain ⟨b, l, xs, m, p, q, n, rfl, hb, Bx, hS, hm, hx, hn, k⟩ := h
    have S := sc__law_some
    refine ⟨_, (pss_cons (ps_par (i := 3) (j := 4) (by rfl) S.nd rfl rfl (by decide) rfl rfl (pa_cons (pe_callTy call_list_of (by rfl) B.m_list PyProof.Rows.boot_list (pa_cons (pv 1) pa_nil)) (pa_cons (pe_lst pa_nil) pa_nil)) (by rfl))
      (pss_cons (ps_for PassesOwn.never rfl (pi_range1 (by rfl) B.m_range (pa_cons (pv 2) pa_nil)) (pg_name (i := 5) S.nd rfl (.inl rfl))
        (pss_one (ps_expr (pe_bm PySem.F.plainAttrs_list PySem.F.slot_list_append PySem.F.type_list_append mt_append (pv 4) (pa_cons (pe_bm PySem.F.plainAttrs_list PySem.F.slot_list_pop PySem.F.type_list_pop mt_popAt (pv 3) (pa_cons (pe_call G__law_take (hr.mono (by decide)) (by rfl) D__law_take.g D__law_take.F.kp D__law_take.b .nil pass0 (pa_cons (pv 0) (pa_cons (pe_callB call_len_seq (by rfl) B.m_len PySem.boot_len (pa_cons (pv 3) pa_nil)) pa_nil))) pa_nil)) pa_nil)))))
      (pss_one (ps_ret (pv 4))))), ?_⟩
    -- left, found
    refine ⟨.ref l, rfl, l, xs, rfl, .inl hS, fun a na => ?_⟩
    refine ⟨Nat.zero_le _, fun r nr => ?_⟩
    have nra : r ≠ a := fun e => by rw [e, upd_same] at nr; cases nr
    have nba : b ≠ a := ne_of_none hb na
    have s1 : Same H (upd H a (.lst xs)) := same_upd na
    have s2 : Same (upd H a (.lst xs)) (upd (upd H a (.lst xs)) r (.lst [])) := same_upd nr
    have nr0 : H r = none := s1.free nr
    refine ⟨_, _, rfl, ?_⟩
    refine ⟨.int m, rfl, m, rfl, by omega, by omega, ?_⟩
    show ∃ W : Nat → Nat → L2.St → Hp → Prop, _
    refine for_range (lo := 0) (n := (m : Int).toNat) (fun i σ H' => ∃ (ys left : List V) (p' n' : Int) (t : Option V), σ = [some (.ref b), some (.ref l), some (.int m), some (.ref a), some (.ref r), t] ∧
        SameBut b H H' ∧ H' b = some (.lst (bx p' q n')) ∧ Box p' q n' ∧ n' ≤ n + i ∧ H' a = some (.lst left) ∧ H' r = some (.lst ys) ∧ ys.length = i ∧ (ys ++ left).Perm xs) ?_ ?_ ?_
    · refine ⟨[], xs, p, n, none, rfl, (SameBut.of_same s1).trans (SameBut.of_same s2), s2 _ _ (s1 _ _ hb), Bx, by omega, ?_, upd_same, rfl, List.Perm.refl _⟩
      rw [upd_ne nra.symm, upd_same]
    · rintro i σ H' hi ⟨ys, left, p', n', t, rfl, sb, hb', Bx', hn', ha', hr', hy, hp⟩
      have hlen : ys.length + left.length = xs.length := by
        have z := hp.length_eq
        rw [List.length_append] at z
        exact z
      have hi' : i < m := by omega
      refine ⟨.ref r, rfl, .inl ⟨rfl, _, SqL.of hr'⟩, .ref a, rfl, .inl ⟨rfl, _, SqL.of ha'⟩, ?_⟩
      refine ⟨.ref b, rfl, .ref a, rfl, a, left, rfl, .inl (SqL.of ha'), ?_⟩
      refine ⟨b, left.length, p', q, n', rfl, hb', Bx', by omega, by omega, by omega, fun d p'' n'' d0 d1 B2 hn2 => ?_⟩
      have nab : a ≠ b := fun e => nba e.symm
      have nrb : r ≠ b := fun e => by rw [e, hb] at nr0; cases nr0
      have ha2 : (upd H' b (.lst (bx p'' q n''))) a = some (.lst left) := by rw [upd_ne nab]; exact ha'
      have hj : d.toNat < left.length := by omega
      refine ⟨a, left, d, d.toNat, left[d.toNat], rfl, rfl, ha2, by omega, by omega, seqIndex_in d0 (by omega), List.getElem?_eq_getElem hj, ?_⟩
      refine ⟨r, ys, left[d.toNat], rfl, rfl, ?_, ?_, ?_⟩
      · rw [upd_ne nra, upd_ne nrb]
        exact hr'
      · exact small1000 (by omega)
      · refine ⟨ys ++ [left[d.toNat]], left.eraseIdx d.toNat, p'', n'', _, rfl, ?_, ?_, B2, by omega, ?_, upd_same, ?_, perm_pick hp (List.getElem?_eq_getElem hj)⟩
        · intro c o nc hc
          have n1 : c ≠ r := ne_of_none hc nr0
          have n2 : c ≠ a := ne_of_none hc na
          rw [upd_ne n1, upd_ne n2, upd_ne nc]
          exact sb c o nc hc
        · rw [upd_ne nrb.symm, upd_ne nba, upd_same]
        · rw [upd_ne nra.symm, upd_same]
        · rw [List.length_append, hy]
          rfl
    · rintro σ H' ⟨ys, left, p', n', t, rfl, sb, hb', Bx', hn', ha', hr', hy, hp⟩
      exact ⟨.ref r, rfl, k H' r ys left p' n' sb nr0 hr' hb' Bx' (by omega) (by omega) hp⟩
end
end K5
namespace K5
open PySem PySem.Spec PyProof.Rows L2
/-! ### kinds of values -/
inductive Kd (H : Hp) : V → String → Prop
  | non : Kd H .non "NoneType"
  | bl (b : Bool) : Kd H (.bl b) "bool"
  | int (i : Int) : Kd H (.int i) "int"
  | str (x : Str) : Kd H (.str x) "str"
  | lst {a : Addr} {xs : List V} (h : H a = some (.lst xs)) : Kd H (.ref a) "list"
  | tup {a : Addr} {xs : List V} (h : H a = some (.tup xs)) : Kd H (.ref a) "tuple"
  | dK {a : Addr} {kvs : List (Key × V)} (h : H a = some (.dK kvs)) : Kd H (.ref a) "dict"
theorem Kd.ty {K : PySem.W.Frag} {H : Hp} {x : V} {T : String} (h : Kd H x T) : TyX K H x (.type T) := by
  cases h with
  | non => exact .base .non
  | bl b => exact .base (.bl b)
  | int i => exact .base (.int i)
  | str x => exact .base (.str x)
  | lst h => exact .base (.lst h)
  | tup h => exact .base (.tup h)
  | dK h => exact .base (.dK h)
theorem Kd.mono {H H' : Hp} {x : V} {T : String} (h : Kd H x T) (e : Same H H') : Kd H' x T := by
  cases h with
  | non => exact .non
  | bl b => exact .bl b
  | int i => exact .int i
  | str x => exact .str x
  | lst h => exact .lst (e _ _ h)
  | tup h => exact .tup (e _ _ h)
  | dK h => exact .dK (e _ _ h)
def isI : V → Bool
  | .int _ => true
  | _ => false
def isIB : V → Bool
  | .int _ => true
  | .bl _ => true
  | _ => false
def isB : V → Bool
  | .bl _ => true
  | _ => false
def isS : V → Bool
  | .str _ => true
  | _ => false
theorem Kd.int_ {H : Hp} {x : V} {T : String} (h : Kd H x T) : kitB T "int" = some (isIB x) := by cases h <;> (simp only [isIB, isB, isS]; decide +kernel)
theorem Kd.bool_ {H : Hp} {x : V} {T : String} (h : Kd H x T) : kitB T "bool" = some (isB x) := by cases h <;> (simp only [isIB, isB, isS]; decide +kernel)
theorem Kd.str_ {H : Hp} {x : V} {T : String} (h : Kd H x T) : kitB T "str" = some (isS x) := by cases h <;> (simp only [isIB, isB, isS]; decide +kernel)
section
variable {X : Cx} {K : PySem.W.Frag} {σ : L2.St} {H : Hp} {ta tb tc : TE} {i j k : Int} {p : Addr} {xs : List V} {v x : V} {a b : Bool}
theorem val_isi {T C : String} (ha : Val ta σ H x) (hx : Kd H x T) (h : kitB T C = some b) : Val (tCB (rIsi K) (tCons ta (tCons (tC (.ty C)) tNil))) σ H (.bl b) := fun Q q =>
  ha _ ⟨x, .ty C, .type T, .type C, b, rfl, .ty C, hx.ty, kit_ty h, q⟩
theorem val_andV (ha : Val ta σ H (.bl a)) (hb : a = true → Val tb σ H (.bl b)) : Val (tAndV ta tb) σ H (.bl (a && b)) := fun Q q => ha _ ⟨a, rfl, by
  cases a with
  | true => exact iteT (hb rfl _ q)
  | false => exact iteF q⟩
theorem val_notV (ha : Val ta σ H (.bl a)) : Val (tNotV ta) σ H (.bl (!a)) := fun Q q => ha _ ⟨a, rfl, q⟩
theorem val_chain {g1 g2 : Int → Int → Bool} (ha : Val ta σ H (.int i)) (hb : Val tb σ H (.int j)) (hc : Val tc σ H (.int k)) :
    Val (tChain (rI0 fun i j => .bl (g1 i j)) (rI0 fun i j => .bl (g2 i j)) ta tb tc) σ H (.bl (g1 i j && g2 j k)) := fun Q q =>
  ha _ (hb _ ⟨i, j, rfl, rfl, g1 i j, rfl, by
    cases e : g1 i j with
    | true =>
      rw [e] at q
      exact iteT (hc _ ⟨j, k, rfl, rfl, q⟩)
    | false =>
      rw [e] at q
      exact iteF q⟩)
theorem pe_tyN {n : String} {y : Str} {pos : Pos} (hv : bootBuiltins y = some (.type n)) (hg : Gl X y) (hm : X.mg y = none) (hn : y ≠ "__name__" := by decide) (hdb : (y == ("__debug__" : Str)) = false := by decide) : PE X (.Name y pos) (tC (.ty n)) := pe_bltn hg hm hv rfl (hn := hn) (hd := hdb)
theorem bt_int : bootBuiltins "int" = some (.type "int") := by decide +kernel
theorem bt_bool : bootBuiltins "bool" = some (.type "bool") := by decide +kernel
theorem bt_str : bootBuiltins "str" = some (.type "str") := by decide +kernel
theorem val_call {sp : Sp} {E : XK} {t : TA} {vs : List V} (h : ∀ Q : List V → Hp → Prop, Q vs H → t σ H Q) (hs : ∀ Q : VK, Q v H → sp vs H Q E) : Val (tCall sp [] E t) σ H v := fun Q q =>
  h _ (by rw [List.append_nil]; exact hs Q q)
theorem va_nil : ∀ Q : List V → Hp → Prop, Q [] H → tNil σ H Q := fun _ q => q
theorem va_cons {t : TA} {vs : List V} (ha : Val ta σ H v) (ht : ∀ Q : List V → Hp → Prop, Q vs H → t σ H Q) : ∀ Q : List V → Hp → Prop, Q (v :: vs) H → tCons ta t σ H Q := fun Q q => ha _ (ht _ q)
def rLenS : List V → Hp → VK → Prop := fun xs H Q => ∃ z, xs = [.str z] ∧ z.length ≤ sizeLine ∧ Q (.int z.length) H
theorem val_lenS {z : Str} (h : Val ta σ H (.str z)) (hz : z.length ≤ sizeLine) : Val (tCB rLenS (tCons ta tNil)) σ H (.int z.length) := fun Q q => h _ ⟨z, rfl, hz, q⟩
theorem val_sb0 {g : Str → Bool} {z : Str} (h : Val ta σ H (.str z)) : Val (tBM0 K "str" (fun x xs H Q => ∃ a, x = .str a ∧ xs = [] ∧ True ∧ Q (.bl (g a)) H) ta) σ H (.bl (g z)) := fun Q q =>
  h _ ⟨rfl, z, rfl, rfl, True.intro, q⟩
end
/-! ### forms -/
def worthsOk : V → Bool
  | .int i => decide (2 ≤ i) && decide (i ≤ 4)
  | _ => false
def isName (z : Str) : Bool := (decide ((1 : Int) ≤ (z.length : Int)) && decide ((z.length : Int) ≤ 8)) && (Txt.isascii z && (Txt.isalpha z && Txt.islower z))
def isDoor (z : Str) : Bool := isName z && !decide (V.str z = V.str "any")
def spIsInt : Sp := fun vs H Q _ => ∃ (x : V) (T : String), vs = [x] ∧ Kd H x T ∧ Q (.bl (isI x)) H
def spIsWorths : Sp := fun vs H Q _ => ∃ (x : V) (T : String), vs = [x] ∧ Kd H x T ∧ Q (.bl (worthsOk x)) H
def spIsName : Sp := fun vs H Q _ => ∃ z : Str, vs = [.str z] ∧ z.length ≤ 10000000 ∧ Q (.bl (isName z)) H
def spIsDoor : Sp := fun vs H Q _ => ∃ z : Str, vs = [.str z] ∧ z.length ≤ 10000000 ∧ Q (.bl (isDoor z)) H
abbrev s_is_integer : Stmt := topS 8
theorem sc_is_integer : FnScope ["value"] ["value"] (defScope s_is_integer) := ⟨rfl, rfl, rfl, by decide +kernel, rfl, by decide +kernel, by decide +kernel⟩
abbrev s_is_worths : Stmt := topS 10
theorem sc_is_worths : FnScope ["value"] ["value"] (defScope s_is_worths) := ⟨rfl, rfl, rfl, by decide +kernel, rfl, by decide +kernel, by decide +kernel⟩
abbrev s_is_name : Stmt := topS 12
theorem sc_is_name : FnScope ["value"] ["value"] (defScope s_is_name) := ⟨rfl, rfl, rfl, by decide +kernel, rfl, by decide +kernel, by decide +kernel⟩
abbrev s_is_door : Stmt := topS 13
theorem sc_is_door : FnScope ["value"] ["value"] (defScope s_is_door) := ⟨rfl, rfl, rfl, by decide +kernel, rfl, by decide +kernel, by decide +kernel⟩
theorem big_size {n : Nat} (h : n ≤ 10000000) : n ≤ sizeLine := Nat.le_trans h (by decide)
section
variable {P : Program} {w : World} {K : PySem.W.Frag} {mg : Str → Option Value} {base : Heap}
theorem ok_is_integer {f : Addr} {fd : FuncData} (B : Bt mg) (D : Df K mg "is_integer" s_is_integer f fd ["value"]) : FnOk P w K mg base CX0 1 f fd ["value"] spIsInt := by
  refine D.F.ok sc_is_integer (fun vs H Q E h => ?_) (fun cdv A outer s H vs Q E hr h => ?_)
  · obtain ⟨x, T, rfl, _⟩ := h
    rfl
  · obtain ⟨x, T, rfl, hx, k⟩ := h
    have S := sc_is_integer
    refine ⟨_, (pss_one (ps_ret (pe_and (pe_callB call_isi (by rfl) B.m_isinstance PyProof.Rows.boot_isinstance (pa_cons (pv 0) (pa_cons (pe_tyN bt_int (by rfl) B.m_int) pa_nil))) (pe_one (pe_not (pe_callB call_isi (by rfl) B.m_isinstance PyProof.Rows.boot_isinstance (pa_cons (pv 0) (pa_cons (pe_tyN bt_bool (by rfl) B.m_bool) pa_nil)))))))), ?_⟩
    refine (val_andV (val_isi (val_var rfl) hx hx.int_) fun _ => val_notV (val_isi (val_var rfl) hx hx.bool_)) _ ?_
    have e : (isIB x && !isB x) = isI x := by cases x <;> rfl
    rw [e]
    exact k
theorem ok_is_worths {f fI : Addr} {fd fdI : FuncData} (B : Bt mg) (D : Df K mg "is_worths" s_is_worths f fd ["value"]) (D_is_integer : Df K mg "is_integer" s_is_integer fI fdI ["value"]) : FnOk P w K mg base CX0 2 f fd ["value"] spIsWorths := by
  have G_is_integer : FnOk P w K mg base CX0 1 fI fdI ["value"] spIsInt := ok_is_integer B D_is_integer
  refine D.F.ok sc_is_worths (fun vs H Q E h => ?_) (fun cdv A outer s H vs Q E hr h => ?_)
  · obtain ⟨x, T, rfl, _⟩ := h
    rfl
  · obtain ⟨x, T, rfl, hx, k⟩ := h
    have S := sc_is_worths
    refine ⟨_, (pss_one (ps_ret (pe_and (pe_call G_is_integer (hr.mono (by decide)) (by rfl) D_is_integer.g D_is_integer.F.kp D_is_integer.b .nil pass0 (pa_cons (pv 0) pa_nil)) (pe_one (pe_chain op_le op_le pe_int (pv 0) pe_int))))), ?_⟩
    refine (val_call (va_cons (val_var rfl) va_nil) fun Q q => ⟨x, T, rfl, hx, q⟩) _ ⟨_, rfl, ?_⟩
    cases hx with
    | int i => exact iteT ((val_chain val_c (val_var rfl) val_c) _ k)
    | _ => exact iteF k
theorem ok_is_name {f : Addr} {fd : FuncData} (B : Bt mg) (D : Df K mg "is_name" s_is_name f fd ["value"]) : FnOk P w K mg base CX0 1 f fd ["value"] spIsName := by
  refine D.F.ok sc_is_name (fun vs H Q E h => ?_) (fun cdv A outer s H vs Q E hr h => ?_)
  · obtain ⟨z, rfl, _⟩ := h
    rfl
  · obtain ⟨z, rfl, hz, k⟩ := h
    have S := sc_is_name
    refine ⟨_, (pss_cons (ps_if (pt_not (pt_val (pe_callB call_isi (by rfl) B.m_isinstance PyProof.Rows.boot_isinstance (pa_cons (pv 0) (pa_cons (pe_tyN bt_str (by rfl) B.m_str) pa_nil)))))
        (pss_one (ps_ret pe_bl))
        pss_nil)
      (pss_one (ps_ret (pe_and (pe_chain op_le op_le pe_int (pe_callB call_len_str (by rfl) B.m_len PySem.boot_len (pa_cons (pv 0) pa_nil)) pe_int) (pe_and (pe_bm0 PySem.F.plainAttrs_str PySem.F.slot_str_isascii PySem.F.type_str_isascii mt_isascii (pv 0)) (pe_and (pe_bm0 PySem.F.plainAttrs_str PySem.F.slot_str_isalpha PySem.F.type_str_isalpha mt_isalpha (pv 0)) (pe_one (pe_bm0 PySem.F.plainAttrs_str PySem.F.slot_str_islower PySem.F.type_str_islower mt_islower (pv 0))))))))), ?_⟩
    refine (val_isi (val_var rfl) (.str z) (Kd.str_ (H := H) (.str z))) _ ⟨_, rfl, ?_⟩
    refine iteF ?_
    exact (val_andV (val_chain val_c (val_lenS (val_var rfl) (big_size hz)) val_c) fun _ => val_andV (val_sb0 (val_var rfl)) fun _ => val_andV (val_sb0 (val_var rfl)) fun _ => val_sb0 (val_var rfl)) _ k
theorem ok_is_door {f fN : Addr} {fd fdN : FuncData} (B : Bt mg) (D : Df K mg "is_door" s_is_door f fd ["value"]) (D_is_name : Df K mg "is_name" s_is_name fN fdN ["value"]) : FnOk P w K mg base CX0 2 f fd ["value"] spIsDoor := by
  have G_is_name : FnOk P w K mg base CX0 1 fN fdN ["value"] spIsName := ok_is_name B D_is_name
  refine D.F.ok sc_is_door (fun vs H Q E h => ?_) (fun cdv A outer s H vs Q E hr h => ?_)
  · obtain ⟨z, rfl, _⟩ := h
    rfl
  · obtain ⟨z, rfl, hz, k⟩ := h
    have S := sc_is_door
    refine ⟨_, (pss_one (ps_ret (pe_and (pe_call G_is_name (hr.mono (by decide)) (by rfl) D_is_name.g D_is_name.F.kp D_is_name.b .nil pass0 (pa_cons (pv 0) pa_nil)) (pe_one (pe_cmpR op_ne (pv 0) pe_str (nomark _)))))), ?_⟩
    exact (val_andV (val_call (va_cons (val_var rfl) va_nil) fun Q q => ⟨z, rfl, hz, q⟩) fun _ => val_op (val_var rfl) val_c fun Q q => ⟨rfl, q⟩) _ k
end
end K5
namespace K5
open PySem PySem.Spec PyProof.Rows L2
/-! ### numbers as words -/
theorem dec_range : ∀ c : Nat, c < 128 → Unicode.isDecimal c = true → 48 ≤ c ∧ c < 58 := by
  have h : ∀ c : Fin 128, Unicode.isDecimal c.val = true → 48 ≤ c.val ∧ c.val < 58 := by decide +kernel
  exact fun c hc => h ⟨c, hc⟩
def okNum (z : Str) : Bool := match PySem.intText? z with
  | some n => decide (0 ≤ n ∧ n ≤ 999)
  | none => false
theorem okNum_spec {z : Str} (h : okNum z = true) : ∃ n, PySem.intText? z = some n ∧ 0 ≤ n ∧ n ≤ 999 := by
  unfold okNum at h
  cases e : PySem.intText? z with
  | none => rw [e] at h; cases h
  | some n =>
    rw [e] at h
    exact ⟨n, rfl, of_decide_eq_true h⟩
theorem ok1 : ∀ a : Fin 10, okNum ⟨#[48 + a.val]⟩ = true := by decide +kernel
theorem ok2 : ∀ a b : Fin 10, okNum ⟨#[48 + a.val, 48 + b.val]⟩ = true := by decide +kernel
theorem ok3 : ∀ a b c : Fin 10, okNum ⟨#[48 + a.val, 48 + b.val, 48 + c.val]⟩ = true := by decide +kernel
theorem digits3 {z : Str} (h3 : z.length ≤ 3) (ha : Txt.isascii z = true) (hd : Txt.isdecimal z = true) : okNum z = true := by
  obtain ⟨⟨l⟩⟩ := z
  have hall : ∀ c ∈ l, 48 ≤ c ∧ c < 58 := by
    intro c hc
    unfold Txt.isascii at ha
    unfold Txt.isdecimal at hd
    rw [Bool.and_eq_true] at hd
    have h1 := hd.2
    rw [List.all_toArray, List.all_eq_true] at h1 ha
    exact dec_range c (of_decide_eq_true (ha c hc)) (h1 c hc)
  have hl : 0 < l.length := by
    unfold Txt.isdecimal at hd
    rw [Bool.and_eq_true] at hd
    exact of_decide_eq_true hd.1
  have hl3 : l.length ≤ 3 := h3
  match l, hl, hl3, hall with
  | [a], _, _, hall =>
    have q := hall a (by simp)
    have z := ok1 ⟨a - 48, by omega⟩
    rw [show 48 + (a - 48) = a by omega] at z
    exact z
  | [a, b], _, _, hall =>
    have q1 := hall a (by simp)
    have q2 := hall b (by simp)
    have z := ok2 ⟨a - 48, by omega⟩ ⟨b - 48, by omega⟩
    rw [show 48 + (a - 48) = a by omega, show 48 + (b - 48) = b by omega] at z
    exact z
  | [a, b, c], _, _, hall =>
    have q1 := hall a (by simp)
    have q2 := hall b (by simp)
    have q3 := hall c (by simp)
    have z := ok3 ⟨a - 48, by omega⟩ ⟨b - 48, by omega⟩ ⟨c - 48, by omega⟩
    rw [show 48 + (a - 48) = a by omega, show 48 + (b - 48) = b by omega, show 48 + (c - 48) = c by omega] at z
    exact z
def numV (z : Str) : Int := (PySem.intText? z).getD 0
def numOf (z : Str) (many : Int) : Int :=
  if (decide ((3 : Int) < (z.length : Int)) || !(Txt.isascii z && Txt.isdecimal z)) = true then -1
  else if (decide (V.str (toString (numV z)) = V.str z) && decide (numV z < many)) = true then numV z else -1
section
variable {X : Cx} {K : PySem.W.Frag} {σ : L2.St} {H : Hp} {ta tb tc : TE} {t u : TT} {i j k : Int} {p : Addr} {xs : List V} {v x : V} {a b : Bool}
theorem ans_or2 (h1 : Ans t σ H a) (h2 : a = false → Ans u σ H b) : Ans (tOr t u) σ H (a || b) := by
  intro Q q
  refine h1 _ ?_
  cases a with
  | true => exact iteT q
  | false => exact iteF (h2 rfl Q q)
theorem ans_and3 (h1 : Ans t σ H a) (h2 : a = true → Ans u σ H b) : Ans (tAnd t u) σ H (a && b) := by
  intro Q q
  refine h1 _ ?_
  cases a with
  | true => exact iteT (h2 rfl Q q)
  | false => exact iteF q
theorem ans_i0 {g : Int → Int → Bool} (ha : Val ta σ H (.int i)) (hb : Val tb σ H (.int j)) : Ans (tTest (tOp (rI0 fun i j => .bl (g i j)) ta tb)) σ H (g i j) := fun Q q =>
  (val_i0b ha hb) _ ⟨_, rfl, q⟩
theorem ans_eq2 (ha : Val ta σ H x) (hb : Val tb σ H v) (hs : scal x v = true) : Ans (tTest (tOp rEq ta tb)) σ H (decide (x = v)) := ans_eq ha hb hs rfl
theorem val_ite (ht : Ans t σ H a) (h1 : a = true → Val ta σ H x) (h2 : a = false → Val tb σ H v) : Val (tIf t ta tb) σ H (if a = true then x else v) := fun Q q => ht _ (by
  cases a with
  | true => exact iteT (h1 rfl Q q)
  | false => exact iteF (h2 rfl Q q))
theorem val_neg (h : Val ta σ H (.int i)) : Val (tUn (rU fun i => .int (-i)) ta) σ H (.int (-i)) := fun Q q => h _ ⟨i, rfl, q⟩
theorem val_intS {z : Str} {n : Int} (h : Val ta σ H (.str z)) (hn : PySem.intText? z = some n) (hl : z.length ≤ 640) : Val (tCB (fun xs H Q => ∃ a n, xs = [.str a] ∧ PySem.intText? a = some n ∧ a.length ≤ 640 ∧ Q (.int n) H) (tCons ta tNil)) σ H (.int n) := fun Q q => h _ ⟨z, n, rfl, hn, hl, q⟩
theorem val_strI {n : Int} (h : Val ta σ H (.int n)) (hl : n.natAbs.log2 < 1920) : Val (tCB (fun xs H Q => ∃ i, xs = [.int i] ∧ i.natAbs.log2 < 1920 ∧ Q (.str (toString i)) H) (tCons ta tNil)) σ H (.str (toString n)) := fun Q q => h _ ⟨n, rfl, hl, q⟩
end
def spNumber : Sp := fun vs H Q _ => ∃ (z : Str) (m : Int), vs = [.str z, .int m] ∧ z.length ≤ 10000000 ∧ Q (.int (numOf z m)) H
abbrev s_number : Stmt := topS 31
theorem sc_number : FnScope ["word", "many", "worth"] ["word", "many"] (defScope s_number) := ⟨rfl, rfl, rfl, by decide +kernel, rfl, by decide +kernel, by decide +kernel⟩
theorem log_small {n : Nat} (h : n ≤ 999) : n.log2 < 1920 := by
  by_cases h0 : n = 0
  · rw [h0]; decide
  · exact Nat.lt_of_lt_of_le ((Nat.log2_lt h0).mpr (show n < 2 ^ 10 by omega)) (by decide)
section
variable {P : Program} {w : World} {K : PySem.W.Frag} {mg : Str → Option Value} {base : Heap}
theorem ok_number {f : Addr} {fd : FuncData} (B : Bt mg) (D : Df K mg "number" s_number f fd ["word", "many"]) : FnOk P w K mg base CX0 1 f fd ["word", "many"] spNumber := by
  refine D.F.ok sc_number (fun vs H Q E h => ?_) (fun cdv A outer s H vs Q E hr h => ?_)
  · obtain ⟨z, m, rfl, _⟩ := h
    rfl
  · obtain ⟨z, m, rfl, hz, k⟩ := h
    have S := sc_number
    refine ⟨_, (pss_cons (ps_if (PW.pt (pw_or (pt_cmpR op_gt (pe_callB call_len_str (by rfl) B.m_len PySem.boot_len (pa_cons (pv 0) pa_nil)) pe_int (nomark _)) (pw_or1 (pt_not (PW.pt (pw_and (pt_val (pe_bm0 PySem.F.plainAttrs_str PySem.F.slot_str_isascii PySem.F.type_str_isascii mt_isascii (pv 0))) (pw_and1 (pt_val (pe_bm0 PySem.F.plainAttrs_str PySem.F.slot_str_isdecimal PySem.F.type_str_isdecimal mt_isdecimal (pv 0))))))))))
        (pss_one (ps_ret (pe_un un_neg pe_int)))
        pss_nil)
      (pss_cons (ps_set (i := 2) S.nd rfl (.inl rfl) (pe_callTy call_int_str (by rfl) B.m_int PyProof.Rows.boot_int (pa_cons (pv 0) pa_nil)))
      (pss_one (ps_ret (pe_ifExp (PW.pt (pw_and (pt_cmpR op_eq (pe_callTy call_str_int (by rfl) B.m_str (by decide +kernel) (pa_cons (pv 2) pa_nil)) (pv 0) (nomark _)) (pw_and1 (pt_cmpR op_lt (pv 2) (pv 1) (nomark _))))) (pv 2) (pe_un un_neg pe_int)))))), ?_⟩
    refine (ans_or2 (ans_i0 (val_lenS (val_var rfl) (big_size hz)) val_c) fun _ => ans_not (ans_and3 (ans_val (val_sb0 (val_var rfl))) fun _ => ans_val (val_sb0 (val_var rfl)))) _ ?_
    by_cases c : (decide ((3 : Int) < (z.length : Int)) || !(Txt.isascii z && Txt.isdecimal z)) = true
    · rw [c]
      refine iteT ((val_neg val_c) _ ?_)
      have e : numOf z m = -1 := if_pos c
      rw [e] at k
      exact k
    · have e : numOf z m = if (decide (V.str (toString (numV z)) = V.str z) && decide (numV z < m)) = true then numV z else -1 := if_neg c
      rw [Bool.not_eq_true] at c
      rw [c]
      rw [Bool.or_eq_false_iff, Bool.not_eq_false', Bool.and_eq_true] at c
      obtain ⟨c1, c2, c3⟩ := c
      have h3 : z.length ≤ 3 := by
        have := of_decide_eq_false c1
        omega
      obtain ⟨n, hn, n0, n1⟩ := okNum_spec (digits3 h3 c2 c3)
      have en : numV z = n := by
        unfold numV
        rw [hn]
        rfl
      refine iteF ?_
      dsimp only [tNext, tSeq, tAsg]
      refine (val_intS (val_var rfl) hn (by omega)) _ ?_
      refine (val_ite (ans_and3 (ans_eq2 (val_strI (val_var rfl) (log_small (by omega))) (val_var rfl) rfl) fun _ => ans_i0 (val_var rfl) (val_var rfl)) (fun _ => val_var rfl) fun _ => val_neg val_c) _ ?_
      rw [en] at e
      rw [e] at k
      cases q : (decide (V.str (toString n) = V.str z) && decide (n < m)) with
      | true =>
        rw [q, if_pos rfl] at k
        rw [if_pos rfl]
        exact k
      | false =>
        rw [q, if_neg Bool.false_ne_true] at k
        rw [if_neg Bool.false_ne_true]
        exact k
end
end K5
namespace K5
open PySem PySem.Spec PyProof.Rows L2
/-! ### errors -/
/-- the error x's class at C, its __init__ at fI -/
structure Er (K : PySem.W.Frag) (mg : Str → Option Value) (x : Str) (C fI : Addr) : Prop where
  O : OexC K C
  g : mg x = some (.ref C)
  iC : PySem.W.findIn K (.ref C) "__init__" = some (some (.ref fI))
  tI : PySem.W.typeIn K (.ref fI) = some (.type "function")
  nv : PySem.W.findIn K (.ref C) "value" = some none
/-- an error of the class at C with this value lies behind H -/
def ErrK (C : Addr) (v : V) (H : Hp) (E : XK) : Prop := ∀ (d : Addr) (H' : Hp), Same H H' → H d = none → H' d = some (.xd [(("value" : Str), v)]) → E (.ref C) (some d) H'
theorem ErrK.mono {C : Addr} {v : V} {H H1 : Hp} {E : XK} (h : ErrK C v H E) (e : Same H H1) : ErrK C v H1 E := fun d H' e2 nd hd => h d H' (e.trans e2) (e.free nd) hd
def spErr (K : PySem.W.Frag) : Sp := fun vs H Q _ => ∃ (a C : Addr) (v : V), vs = [.ref a, v] ∧ OexC K C ∧ PySem.W.findIn K (.ref C) "value" = some none ∧ H a = some (exo a C none) ∧
  ∀ dx, H dx = none → dx ≠ a → Q .non (upd (upd H dx (exd dx [(("value" : Str), v)])) a (exo a C (some dx)))
abbrev s_err : Stmt := inClass (topS 1) 0
theorem sc_err : FnScope ["self", "value"] ["self", "value"] (defScope s_err) := ⟨rfl, rfl, rfl, by decide +kernel, rfl, by decide +kernel, by decide +kernel⟩
section
variable {P : Program} {w : World} {K : PySem.W.Frag} {mg : Str → Option Value} {base : Heap}
theorem ok_err {f : Addr} {fd : FuncData} (F : Fun K "__init__" "WireError.__init__" s_err f fd) : FnOk P w K mg base CX0 1 f fd ["self", "value"] (spErr K) := by
  refine F.ok sc_err (fun vs H Q E h => ?_) (fun cdv A outer s H vs Q E hr h => ?_)
  · obtain ⟨a, C, v, rfl, _⟩ := h
    rfl
  · obtain ⟨a, C, v, rfl, T, hn, ha, k⟩ := h
    refine ⟨_, pss_one (ps_ost (pv 0) (pv 1)), ?_⟩
    exact ⟨v, rfl, .ref a, rfl, a, C, rfl, T, hn, .inl ⟨ha, fun dx nd ne => k dx nd ne⟩⟩
end
/-- raise X(e), the value of e known -/
theorem raise_run {K : PySem.W.Frag} {C : Addr} {ta : TE} {σ : L2.St} {H : Hp} {v : V} {Q : XK} (T : OexC K C) (hn : PySem.W.findIn K (.ref C) "value" = some none) (hv : Val ta σ H v) (h : ErrK C v H Q) :
    tMkO C (spErr K) [] (tCons ta tNil) σ H Q := by
  refine hv _ ⟨by show 1 ≤ 1000; decide, fun a na => ?_⟩
  refine ⟨a, C, v, rfl, T, hn, upd_same, fun dx nd ne => ⟨rfl, dx, [(("value" : Str), v)], upd_same, ?_, ?_, ?_⟩⟩
  · rw [upd_ne ne, upd_same]
  · rw [upd_ne ne] at nd
    exact nd
  · have nd' : H dx = none := by
      rw [upd_ne ne] at nd
      exact nd
    refine h dx _ (fun b o e => ?_) nd' upd_same
    have n1 : b ≠ dx := ne_of_none e nd'
    have n2 : b ≠ a := ne_of_none e na
    rw [upd_ne n1, del_ne n2, upd_ne n2, upd_ne n1, upd_ne n2]
    exact e
/-! ### texts -/
def rRepS : R2 := fun x y H Q => ∃ z n, x = .str z ∧ y = .int n ∧ MulOk z n ∧ Q (.str (Txt.mul z n)) H
theorem op_repS {X : Cx} : OpR X (binaryOp .Mult) rRepS := by
  intro pins s σ H x y v u Q I rx ry h
  obtain ⟨z, n, rfl, rfl, hc, q⟩ := h
  obtain ⟨t, rfl⟩ := rx
  obtain ⟨t', rfl⟩ := ry
  exact SB.mul hc fun t' k => ⟨.str _, H, I.tok _, ⟨_, rfl⟩, q⟩
/-! ### lines -/
theorem lk_hd {f : Str} {v : V} {r : List (Str × V)} : List.lookup f ((f, v) :: r) = some v := by simp [List.lookup]
theorem lk_tl {f g : Str} {v : V} {r : List (Str × V)} (h : ¬ f = g) : List.lookup f ((g, v) :: r) = List.lookup f r := by
  have e : (f == g) = false := by simpa using h
  simp [List.lookup, e]
theorem put_hd {f : Str} {v x : V} {r : List (Str × V)} : putF f v ((f, x) :: r) = (f, v) :: r := by
  unfold putF
  rw [if_pos rfl]
theorem put_tl {f g : Str} {v x : V} {r : List (Str × V)} (h : ¬ g = f) : putF f v ((g, x) :: r) = (g, x) :: putF f v r := by
  show (if g = f then _ else _) = _
  rw [if_neg h]
structure ClL (K : PySem.W.Frag) (C : Addr) : Prop where
  cl : Cls K C
  nr : NoAttr K C "rows"
  na : NoAttr K C "at"
def lf (r : Addr) (n : Int) : List (Str × V) := [("rows", .ref r), ("at", .int n)]
theorem lf_rows {r : Addr} {n : Int} : (lf r n).lookup ("rows" : Str) = some (.ref r) := lk_hd
theorem lf_at {r : Addr} {n : Int} : (lf r n).lookup ("at" : Str) = some (.int n) := (lk_tl (by decide +kernel)).trans lk_hd
theorem lf_no {r : Addr} {n : Int} {m : Str} (h1 : ¬ m = "rows") (h2 : ¬ m = "at") : (lf r n).lookup m = none := (lk_tl h1).trans (lk_tl h2)
theorem lf_put {r : Addr} {n k : Int} : putF "at" (.int k) (lf r n) = lf r k := (put_tl (by decide +kernel)).trans (congrArg _ put_hd)
/-- a reader of these rows, at a line -/
structure LinesAt (C : Addr) (H : Hp) (l dx r : Addr) (rows : List Str) (n : Nat) : Prop where
  o : H l = some (.ins C dx (lf r n))
  r : H r = some (.lst (rows.map V.str))
  le : n ≤ rows.length
theorem LinesAt.mono {C : Addr} {H H' : Hp} {l dx r : Addr} {rows : List Str} {n : Nat} (h : LinesAt C H l dx r rows n) (e : Same H H') : LinesAt C H' l dx r rows n := ⟨e _ _ h.o, e _ _ h.r, h.le⟩
/-- sizes that are never met -/
structure Sz (rows : List Str) : Prop where
  len : rows.length ≤ 14001
  row : ∀ z ∈ rows, z.length ≤ 14000
  ok : ∀ z ∈ rows, PyData.strOk z = true
/-! ### what stands in the parts of a text -/
theorem cps_append (x y : Str) : (x ++ y).cps.toList = x.cps.toList ++ y.cps.toList := by
  show (x.cps ++ y.cps).toList = _
  exact Array.toList_append
theorem join_mem {y p : Str} {c : Nat} : ∀ {ps : List Str}, p ∈ ps → c ∈ p.cps.toList → c ∈ (Str.join y ps).cps.toList
  | [x], hp, hc => by
    have e : p = x := by simpa using hp
    rw [← e]
    exact hc
  | x :: z :: r, hp, hc => by
    show c ∈ (x ++ y ++ Str.join y (z :: r)).cps.toList
    rw [cps_append, cps_append]
    rcases List.mem_cons.mp hp with e | e
    · rw [e] at hc
      exact List.mem_append_left _ (List.mem_append_left _ hc)
    · exact List.mem_append_right _ (join_mem e hc)
theorem join_len {y p : Str} : ∀ {ps : List Str}, p ∈ ps → p.length ≤ (Str.join y ps).length
  | [x], hp => by
    have e : p = x := by simpa using hp
    rw [← e]
    exact Nat.le_refl _
  | x :: z :: r, hp => by
    have e0 : (Str.join y (x :: z :: r)).length = x.length + y.length + (Str.join y (z :: r)).length := by
      show (x.cps ++ y.cps ++ (Str.join y (z :: r)).cps).size = _
      rw [Array.size_append, Array.size_append]
      rfl
    rw [e0]
    rcases List.mem_cons.mp hp with e | e
    · rw [e]
      omega
    · have := join_len (y := y) e
      omega
theorem join_many {y : Str} (hy : 1 ≤ y.length) : ∀ {ps : List Str}, ps.length ≤ (Str.join y ps).length + 1
  | [] => Nat.zero_le _
  | [x] => Nat.le_add_left _ _
  | x :: z :: r => by
    have ih := join_many hy (ps := z :: r)
    have e0 : (Str.join y (x :: z :: r)).length = x.length + y.length + (Str.join y (z :: r)).length := by
      show (x.cps ++ y.cps ++ (Str.join y (z :: r)).cps).size = _
      rw [Array.size_append, Array.size_append]
      rfl
    rw [e0, List.length_cons]
    omega
theorem split_len {x y p : Str} (h : p ∈ Txt.split x y) : p.length ≤ x.length := by
  have := join_len (y := y) h
  rw [StrLaws.join_split] at this
  exact this
theorem split_ok {x y p : Str} (h : p ∈ Txt.split x y) (hx : PyData.strOk x = true) : PyData.strOk p = true := by
  unfold PyData.strOk at hx ⊢
  rw [Array.all_eq_true'] at hx ⊢
  intro c hc
  have := join_mem (y := y) h (Array.mem_toList_iff.mpr hc)
  rw [StrLaws.join_split] at this
  exact hx c (Array.mem_toList_iff.mp this)
theorem cut_ok {x : Str} {lo hi : Option Int} (hx : PyData.strOk x = true) : PyData.strOk (cutS x lo hi) = true := by
  unfold PyData.strOk at hx ⊢
  rw [Array.all_eq_true'] at hx ⊢
  intro c hc
  refine hx c (Array.mem_toList_iff.mp ?_)
  have h1 : c ∈ (cutS x lo hi).cps.toList := Array.mem_toList_iff.mpr hc
  have h2 : c ∈ (x.cps.toList.drop (HT.sIx x.length 0 lo)).take (HT.sIx x.length x.length hi - HT.sIx x.length 0 lo) := h1
  exact List.mem_of_mem_drop (List.mem_of_mem_take h2)
theorem sz_rows {z : Str} (hz : z.length ≤ 14000) (ho : PyData.strOk z = true) : Sz (Txt.split z "\n") where
  len := by
    have := join_many (y := "\n") (by decide +kernel) (ps := Txt.split z "\n")
    rw [StrLaws.join_split] at this
    omega
  row := fun p hp => Nat.le_trans (split_len hp) hz
  ok := fun p hp => split_ok hp ho
def margin (dp : Nat) : Str := Txt.mul "  " (dp : Int)
def cleanWords (ws : List Str) : List Str := if inV (.str "") (ws.map V.str) = true then [] else ws
def restWords (row : Str) (dp : Nat) : List Str := Txt.split (cutS row (some ((margin dp).length : Int)) none) " "
def rowWords (row : Str) (dp : Nat) : List Str := if Txt.startswith row (margin dp) = true then cleanWords (restWords row dp) else []
def wordsAt (rows : List Str) (n dp : Nat) : List Str := match rows[n]? with
  | none => []
  | some row => rowWords row dp
theorem words_ok {rows : List Str} {n dp : Nat} (sz : Sz rows) : ∀ z ∈ wordsAt rows n dp, PyData.strOk z = true ∧ z.length ≤ 14000 := by
  intro z hz
  unfold wordsAt at hz
  cases e : rows[n]? with
  | none =>
    rw [e] at hz
    cases hz
  | some row =>
    rw [e] at hz
    have hr : row ∈ rows := List.mem_of_getElem? e
    have h2 : z ∈ restWords row dp := by
      unfold rowWords cleanWords at hz
      dsimp only at hz
      split at hz
      · split at hz
        · cases hz
        · exact hz
      · cases hz
    exact ⟨split_ok h2 (cut_ok (sz.ok _ hr)), Nat.le_trans (split_len h2) (Nat.le_trans (cutS_length _ _ _) (sz.row _ hr))⟩
theorem words_many {rows : List Str} {n dp : Nat} (sz : Sz rows) : (wordsAt rows n dp).length ≤ 14001 := by
  unfold wordsAt
  cases e : rows[n]? with
  | none => exact Nat.zero_le _
  | some row =>
    have hr : row ∈ rows := List.mem_of_getElem? e
    have h1 : (restWords row dp).length ≤ 14001 := by
      have := join_many (y := " ") (by decide +kernel) (ps := restWords row dp)
      unfold restWords at this ⊢
      rw [StrLaws.join_split] at this
      have h2 := cutS_length row (some ((margin dp).length : Int)) none
      have h3 := sz.row _ hr
      omega
    show (rowWords row dp).length ≤ _
    unfold rowWords cleanWords
    split
    · split
      · exact Nat.zero_le _
      · exact h1
    · exact Nat.zero_le _
/-- a list or tuple of texts, as data -/
theorem dpAll_strs {K : PySem.W.Frag} {H : Hp} : ∀ l : List Str, DpAll K H (l.map V.str) (l.map PyData.str)
  | [] => .nil
  | z :: r => .cons (.str z) (dpAll_strs r)
theorem lay_strs : ∀ {l : List Str}, (∀ z ∈ l, PyData.strOk z = true) → PyData.canLayAll0 (l.map PyData.str) = true ∧ PyData.depthAll (l.map PyData.str) = 0
  | [], _ => ⟨by simp [PyData.canLayAll0], by simp [PyData.depthAll]⟩
  | z :: r, h => by
    have ih := lay_strs (l := r) fun y hy => h y (List.mem_cons_of_mem _ hy)
    have hz := h z (List.mem_cons_self ..)
    constructor
    · simp [PyData.canLayAll0, PyData.canLay0, hz, ih.1]
    · simp [PyData.depthAll, PyData.depth, ih.2]
theorem shaped_strs {l : List Str} (h : ∀ z ∈ l, PyData.strOk z = true) : SeqAt.shaped (.list (l.map PyData.str)) = true := by
  have q := lay_strs h
  unfold SeqAt.shaped
  simp [PyData.canLay0, PyData.depth, q.1, q.2]
theorem eqv_strs : ∀ a b : List Str, PyData.eqvAll (a.map PyData.str) (b.map PyData.str) = decide (a = b)
  | [], [] => by simp [PyData.eqvAll]
  | [], _ :: _ => by simp [PyData.eqvAll]
  | _ :: _, [] => by simp [PyData.eqvAll]
  | x :: a, y :: b => by
    rw [List.map_cons, List.map_cons, PyData.eqvAll, eqv_strs a b, PyData.eqv]
    by_cases h : x = y
    · subst h
      simp
    · simp [h]
theorem margin_ok {dp : Nat} (h : dp ≤ 3) : MulOk ("  " : Str) (dp : Int) ∧ (margin dp).length ≤ 6 := by
  match dp, h with
  | 0, _ => exact ⟨⟨by decide, fun q => absurd (by decide) q, fun q => absurd (by decide) q⟩, by decide +kernel⟩
  | 1, _ => exact ⟨⟨by decide, fun _ q => absurd q (by decide), fun _ q => absurd q (by decide)⟩, by decide +kernel⟩
  | 2, _ => exact ⟨⟨by decide, fun _ _ => by decide +kernel, fun _ _ => by decide +kernel⟩, by decide +kernel⟩
  | 3, _ => exact ⟨⟨by decide, fun _ _ => by decide +kernel, fun _ _ => by decide +kernel⟩, by decide +kernel⟩
end K5
namespace K5
open PySem PySem.Spec PyProof.Rows L2
theorem cutS_le {z : Str} {lo hi : Option Int} : (cutS z lo hi).length ≤ z.length := cutS_length z lo hi
abbrev s_Lines___init__ : Stmt := inClass (topS 30) 0
theorem sc_Lines___init__ : FnScope ["self", "text"] ["self", "text"] (defScope s_Lines___init__) := ⟨rfl, rfl, rfl, by decide +kernel, rfl, by decide +kernel, by decide +kernel⟩
abbrev s_Lines_words : Stmt := inClass (topS 30) 1
theorem sc_Lines_words : FnScope ["self", "depth", "margin", "words"] ["self", "depth"] (defScope s_Lines_words) := ⟨rfl, rfl, rfl, by decide +kernel, rfl, by decide +kernel, by decide +kernel⟩
abbrev s_Lines_begins : Stmt := inClass (topS 30) 2
theorem sc_Lines_begins : FnScope ["self", "word"] ["self", "word"] (defScope s_Lines_begins) := ⟨rfl, rfl, rfl, by decide +kernel, rfl, by decide +kernel, by decide +kernel⟩
abbrev s_Lines_step : Stmt := inClass (topS 30) 5
theorem sc_Lines_step : FnScope ["self"] ["self"] (defScope s_Lines_step) := ⟨rfl, rfl, rfl, by decide +kernel, rfl, by decide +kernel, by decide +kernel⟩
abbrev s_Lines_need : Stmt := inClass (topS 30) 6
theorem sc_Lines_need : FnScope ["self", "right"] ["self", "right"] (defScope s_Lines_need) := ⟨rfl, rfl, rfl, by decide +kernel, rfl, by decide +kernel, by decide +kernel⟩
abbrev s_Lines_need_end : Stmt := inClass (topS 30) 7
theorem sc_Lines_need_end : FnScope ["self"] ["self"] (defScope s_Lines_need_end) := ⟨rfl, rfl, rfl, by decide +kernel, rfl, by decide +kernel, by decide +kernel⟩
/-! ### promises -/
def rowsOf (z : Str) : List Str := Txt.split z "\n"
def spLinesInit (C CT : Addr) : Sp := fun vs H Q E => ∃ (l dx : Addr) (x : V) (T : String), vs = [.ref l, x] ∧ H l = some (.ins C dx []) ∧ Kd H x T ∧
  (∀ z : Str, x = .str z → z.length ≤ 14000 ∧ ∀ (H' : Hp) (r : Addr), SameBut l H H' → H r = none → LinesAt C H' l dx r (rowsOf z) 0 → Q .non H') ∧
  (isS x = false → ErrK CT (.int (-1)) H E)
def spWords (C : Addr) : Sp := fun vs H Q _ => ∃ (l dx r : Addr) (rows : List Str) (n dp : Nat), vs = [.ref l, .int dp] ∧ LinesAt C H l dx r rows n ∧ Sz rows ∧ dp ≤ 3 ∧
  ∀ (H' : Hp) (p : Addr), Same H H' → H p = none → H' p = some (.lst ((wordsAt rows n dp).map V.str)) → Q (.ref p) H'
def spBegins (C : Addr) : Sp := fun vs H Q _ => ∃ (l dx r : Addr) (rows : List Str) (n : Nat) (z : Str), vs = [.ref l, .str z] ∧ LinesAt C H l dx r rows n ∧ Sz rows ∧ PyData.strOk z = true ∧
  ∀ H' : Hp, Same H H' → Q (.bl (decide ((wordsAt rows n 0).take 1 = [z]))) H'
def spStep (C : Addr) : Sp := fun vs H Q _ => ∃ (l dx r : Addr) (rows : List Str) (n : Nat), vs = [.ref l] ∧ LinesAt C H l dx r rows n ∧ n < rows.length ∧
  ∀ H' : Hp, SameBut l H H' → LinesAt C H' l dx r rows (n + 1) → Q .non H'
def spNeed (K : PySem.W.Frag) (C CT : Addr) : Sp := fun vs H Q E => ∃ (l dx r : Addr) (rows : List Str) (n : Nat) (x : V) (b : Bool), vs = [.ref l, x] ∧ LinesAt C H l dx r rows n ∧ TruV K x H b ∧
  (b = true → Q .non H) ∧ (b = false → ErrK CT (.int n) H E)
def spNeedEnd (C CT : Addr) : Sp := fun vs H Q E => ∃ (l dx r : Addr) (rows : List Str) (n : Nat), vs = [.ref l] ∧ LinesAt C H l dx r rows n ∧
  (n = rows.length → Q .non H) ∧ (n ≠ rows.length → ErrK CT (.int n) H E)
section
variable {X : Cx} {K : PySem.W.Frag} {σ : L2.St} {H : Hp} {ta tb tc : TE} {t u : TT} {i j k : Int} {p : Addr} {xs : List V} {v x : V} {a b : Bool}
theorem val_repS {z : Str} {n : Int} (ha : Val ta σ H (.str z)) (hb : Val tb σ H (.int n)) (hc : MulOk z n) : Val (tOp rRepS ta tb) σ H (.str (Txt.mul z n)) := val_op ha hb fun Q q => ⟨z, n, rfl, rfl, hc, q⟩
theorem val_sw {z y : Str} (ha : Val ta σ H (.str z)) (hb : Val tb σ H (.str y)) : Val (tBM K "str" (fun x xs H Q => ∃ a b, x = .str a ∧ xs = [.str b] ∧ Q (.bl (Txt.startswith a b)) H) ta (tCons tb tNil)) σ H (.bl (Txt.startswith z y)) := fun Q q =>
  ha _ ⟨rfl, hb _ ⟨z, y, rfl, rfl, q⟩⟩
theorem val_cutS {z : Str} {n : Int} (ha : Val ta σ H (.str z)) (hb : Val tb σ H (.int n)) (hz : z.length ≤ sizeLine) : Val (tSl rSlS ta (tPart tb) tNoPart) σ H (.str (cutS z (some n) none)) := fun Q q =>
  ha _ (hb _ ⟨n, rfl, z, rfl, hz, q⟩)
end
section
variable {P : Program} {w : World} {K : PySem.W.Frag} {mg : Str → Option Value} {base : Heap}
/-- an error of a callee leaves the def as its own -/
theorem pxp {X : Cx} {E : XK} (hs : X.stack = X.env :: X.outer) (hf : X.env.frame = some X.env.locals) (hex : X.ex = []) {E₁ : Value → Shared → Prop}
    (hx : X.xe = fun e s' => wpAny (model X.prog X.w) X.A (leaving X.env e) (fun _ s'' => L2.CX X.prog X.w X.outer X.H_0 X.s_0 E e s'') E₁ s') : Passes (L2.CX X.prog X.w) X E :=
  passes_call (W := fun c d _ H => E c d H) (takes_of hs hf hex hx) fun _ _ _ _ h => h
theorem ok_Lines_init {f CL CT fE : Addr} {fd fdE : FuncData} (B : Bt mg) (L : ClL K CL) (F : Fun K "__init__" "Lines.__init__" s_Lines___init__ f fd) (T : Er K mg "BadText" CT fE) (FE : Fun K "__init__" "WireError.__init__" s_err fE fdE) (bE : Binds K fdE ["self", "value"] []) :
    FnOk P w K mg base (L2.CX P w) 4 f fd ["self", "text"] (spLinesInit CL CT) := by
  have GE : FnOk P w K mg base CX0 1 fE fdE ["self", "value"] (spErr K) := ok_err FE
  refine F.okX sc_Lines___init__ (fun vs H Q E h => ?_) (fun cdv A outer s H vs Q E hr h => ?_)
  · obtain ⟨l, dx, x, T, rfl, _⟩ := h
    rfl
  · obtain ⟨l, dx, x, Ty, rfl, hl, hx, k, ke⟩ := h
    have S := sc_Lines___init__
    refine ⟨_, (pss_cons (ps_if (pt_not (pt_val (pe_callB call_isi (by rfl) B.m_isinstance PyProof.Rows.boot_isinstance (pa_cons (pv 1) (pa_cons (pe_tyN bt_str (by rfl) B.m_str) pa_nil)))))
        (pss_one (ps_raise rfl (takes_of rfl rfl rfl rfl) (pmk_oex T.O T.iC T.tI GE (hr.mono (by decide)) bE .nil pass0 (by rfl) T.g (pa_cons (pe_un un_neg pe_int) pa_nil))))
        pss_nil)
      (pss_cons (ps_fld (pv 0) (pe_bm PySem.F.plainAttrs_str PySem.F.slot_str_split PySem.F.type_str_split mt_split (pv 1) (pa_cons pe_str pa_nil)) rfl)
      (pss_one (ps_fld (pv 0) pe_int rfl)))), ?_⟩
    refine (val_isi (val_var rfl) hx hx.str_) _ ⟨_, rfl, ?_⟩
    cases hx with
    | str z =>
      obtain ⟨hz, kk⟩ := k z rfl
      refine iteF ?_
      refine ⟨_, rfl, rfl, z, "\n", rfl, rfl, by decide +kernel, by have : z.length + 2 ≤ 10000000 := by omega
                                                                    exact big_size this, fun r nr => ?_⟩
      have nlr : l ≠ r := ne_of_none hl nr
      refine ⟨_, rfl, l, CL, dx, _, rfl, by rw [upd_ne nlr]; exact hl, L.cl, L.nr, by decide, ?_⟩
      refine ⟨_, rfl, l, CL, dx, _, rfl, upd_same, L.cl, L.na, by show 1 < 1000; decide, ?_⟩
      refine kk _ r (fun a o na e => ?_) nr ⟨?_, ?_, Nat.zero_le _⟩
      · rw [upd_ne na, upd_ne na, upd_ne (ne_of_none e nr)]
        exact e
      · rw [upd_same]
        have e : putF "at" (V.int 0) (putF "rows" (V.ref r) []) = lf r 0 := (put_tl (by decide +kernel)).trans rfl
        rw [e]
        rfl
      · rw [upd_ne nlr.symm, upd_ne nlr.symm, upd_same]
        rfl
    | _ =>
      refine iteT ?_
      exact raise_run T.O T.nv (val_neg val_c) (ke rfl)
theorem ok_words {f CL : Addr} {fd : FuncData} (B : Bt mg) (L : ClL K CL) (F : Fun K "words" "Lines.words" s_Lines_words f fd) : FnOk P w K mg base CX0 1 f fd ["self", "depth"] (spWords CL) := by
  refine F.ok sc_Lines_words (fun vs H Q E h => ?_) (fun cdv A outer s H vs Q E hr h => ?_)
  · obtain ⟨l, dx, r, rows, n, dp, rfl, _⟩ := h
    rfl
  · obtain ⟨l, dx, r, rows, n, dp, rfl, hl, sz, hd, k⟩ := h
    have S := sc_Lines_words
    refine ⟨_, (pss_cons (ps_set (i := 2) S.nd rfl (.inl rfl) (pe_op op_repS pe_str (pv 1)))
      (pss_cons (ps_if (PW.pt (pw_or (pt_cmpR op_eq (pe_fld (pv 0) rfl) (pe_callB call_len_seq (by rfl) B.m_len PySem.boot_len (pa_cons (pe_fld (pv 0) rfl) pa_nil)) (nomark _)) (pw_or1 (pt_not (pt_val (pe_bm PySem.F.plainAttrs_str PySem.F.slot_str_startswith PySem.F.type_str_startswith mt_startswith (pe_ix ix_list (pe_fld (pv 0) rfl) (pe_fld (pv 0) rfl) (fun _ _ => rfl)) (pa_cons (pv 2) pa_nil)))))))
        (pss_one (ps_ret (pe_lst pa_nil)))
        pss_nil)
      (pss_cons (ps_set (i := 3) S.nd rfl (.inl rfl) (pe_bm PySem.F.plainAttrs_str PySem.F.slot_str_split PySem.F.type_str_split mt_split (pe_slice sl_str (pe_ix ix_list (pe_fld (pv 0) rfl) (pe_fld (pv 0) rfl) (fun _ _ => rfl)) (po_some (pe_callB call_len_str (by rfl) B.m_len PySem.boot_len (pa_cons (pv 2) pa_nil))) po_none) (pa_cons pe_str pa_nil)))
      (pss_one (ps_ret (pe_ifExp (pt_cmpR op_in_seq pe_str (pv 3) (by rfl)) (pe_lst pa_nil) (pv 3))))))), ?_⟩
    have hm := margin_ok hd
    have hR : SqL K H r (rows.map V.str) := SqL.of hl.r
    refine (show Val _ _ _ (V.str (margin dp)) from val_repS val_c (val_var rfl) hm.1) _ ?_
    have vat : ∀ σ : L2.St, σ[0]? = some (some (.ref l)) → Val (tFld K (tVar 0) "at") σ H (.int n) := fun σ h0 => val_fld (val_var h0) hl.o L.cl L.na lf_at
    have vrw : ∀ σ : L2.St, σ[0]? = some (some (.ref l)) → Val (tFld K (tVar 0) "rows") σ H (.ref r) := fun σ h0 => val_fld (val_var h0) hl.o L.cl L.nr lf_rows
    by_cases c : n = rows.length
    · have e : wordsAt rows n dp = [] := by
        unfold wordsAt
        rw [c, List.getElem?_eq_none (Nat.le_refl _)]
      rw [e] at k
      refine (ans_or1 (ans_eq (vat _ rfl) (val_lenL (vrw _ rfl) hR) rfl (decide_eq_true (by rw [List.length_map, c])))) _ ?_
      refine iteT ⟨Nat.zero_le _, fun p np => ?_⟩
      exact k _ p (same_upd np) np upd_same
    · have hn : n < rows.length := by
        have := hl.le
        omega
      have hg : rows[n]? = some rows[n] := List.getElem?_eq_getElem hn
      have hgV : (rows.map V.str)[n]? = some (.str rows[n]) := by
        rw [List.getElem?_map, hg]
        rfl
      have hz : rows[n].length ≤ 14000 := sz.row _ (List.getElem_mem hn)
      have vrow : ∀ σ : L2.St, σ[0]? = some (some (.ref l)) → Val (tOp (rIxL K) (tFld K (tVar 0) "rows") (tFld K (tVar 0) "at")) σ H (.str rows[n]) := fun σ h0 => val_ixL (vrw σ h0) (vat σ h0) hR (atI_nat hgV)
      have ew : wordsAt rows n dp = rowWords rows[n] dp := by
        unfold wordsAt
        rw [hg]
      rw [ew] at k
      refine (ans_or (ans_eq (vat _ rfl) (val_lenL (vrw _ rfl) hR) rfl (decide_eq_false (by rw [List.length_map]; intro q; injection q with q; omega))) (ans_not (ans_val (val_sw (vrow _ rfl) (val_var rfl))))) _ ?_
      by_cases c2 : Txt.startswith rows[n] (margin dp) = true
      · have er : rowWords rows[n] dp = cleanWords (restWords rows[n] dp) := if_pos c2
        rw [er] at k
        rw [c2]
        refine iteF ?_
        dsimp only [tNext, tSeq, tAsg]
        refine (val_cutS (vrow _ rfl) (val_lenS (val_var rfl) (big_size (by have := hm.2; omega))) (big_size (by omega))) _ ?_
        have hc := cutS_le (z := rows[n]) (lo := some ((margin dp).length : Int)) (hi := none)
        refine ⟨rfl, _, " ", rfl, rfl, by decide +kernel, big_size (by omega), fun p np => ?_⟩
        have hp : (upd H p (.lst ((restWords rows[n] dp).map V.str))) p = some (.lst ((restWords rows[n] dp).map V.str)) := upd_same
        refine ⟨_, rfl, p, _, rfl, .inl (SqL.of hp), rfl, ?_, _, rfl, ?_⟩
        · rw [List.all_map, List.all_eq_true]
          intro z hz
          rfl
        · have s1 : Same H (upd H p (.lst ((restWords rows[n] dp).map V.str))) := same_upd np
          unfold cleanWords at k
          cases c4 : inV (.str "") ((restWords rows[n] dp).map V.str) with
          | true =>
            rw [c4, if_pos rfl] at k
            refine iteT ⟨Nat.zero_le _, fun q nq => ?_⟩
            exact k _ q (s1.trans (same_upd nq)) (s1.free nq) upd_same
          | false =>
            rw [c4, if_neg Bool.false_ne_true] at k
            exact iteF ⟨_, rfl, k _ p s1 np hp⟩
      · have er : rowWords rows[n] dp = [] := if_neg c2
        rw [er] at k
        rw [Bool.not_eq_true] at c2
        rw [c2]
        refine iteT ⟨Nat.zero_le _, fun p np => ?_⟩
        exact k _ p (same_upd np) np upd_same
theorem ok_begins {f fW CL : Addr} {fd fdW : FuncData} (B : Bt mg) (L : ClL K CL) (F : Fun K "begins" "Lines.begins" s_Lines_begins f fd) (M_words : Mf K CL "words" "Lines.words" s_Lines_words fW fdW ["self", "depth"]) :
    FnOk P w K mg base CX0 2 f fd ["self", "word"] (spBegins CL) := by
  have G_words : FnOk P w K mg base CX0 1 fW fdW ["self", "depth"] (spWords CL) := ok_words B L M_words.F
  refine F.ok sc_Lines_begins (fun vs H Q E h => ?_) (fun cdv A outer s H vs Q E hr h => ?_)
  · obtain ⟨l, dx, r, rows, n, z, rfl, _⟩ := h
    rfl
  · obtain ⟨l, dx, r, rows, n, z, rfl, hl, sz, hz, k⟩ := h
    have S := sc_Lines_begins
    refine ⟨_, (pss_one (ps_ret (pe_cmpR (op_eqD (by have := hr.units; exact this)) (pe_slice sl_list (pe_meth (pv 0) L.cl M_words.m G_words (hr.mono (by decide)) M_words.b .nil pass0 (pa_cons pe_int pa_nil)) po_none (po_some pe_int)) (pe_lst (pa_cons (pv 1) pa_nil)) (nomark _)))), ?_⟩
    refine ⟨_, rfl, l, dx, _, rfl, hl.o, lf_no (by decide +kernel) (by decide +kernel), ?_⟩
    refine ⟨l, dx, r, rows, n, 0, rfl, hl, sz, by decide, fun H1 p s1 np hp => ?_⟩
    refine ⟨1, rfl, p, _, rfl, SqL.of hp, fun q nq => ?_⟩
    refine ⟨_, rfl, by show 1 ≤ sizeLine; decide, fun o no => ?_⟩
    have s2 : Same H1 (upd H1 q (.lst (cutV ((wordsAt rows n 0).map V.str) none (some 1)))) := same_upd nq
    have s3 := same_upd (H := upd H1 q (.lst (cutV ((wordsAt rows n 0).map V.str) none (some 1)))) (o := .lst [V.str z]) no
    have ec : cutV ((wordsAt rows n 0).map V.str) none (some 1) = ((wordsAt rows n 0).take 1).map V.str := by
      unfold cutV
      rw [show HT.sIx ((wordsAt rows n 0).map V.str).length ((wordsAt rows n 0).map V.str).length (some 1) = min 1 ((wordsAt rows n 0).map V.str).length from HT.sIx_nat _ _ 1, HT.sIx_none, List.drop_zero, Nat.sub_zero, List.map_take]
      exact List.take_eq_take_min.symm
    have hq : SqL K (upd (upd H1 q (.lst (cutV ((wordsAt rows n 0).map V.str) none (some 1)))) o (.lst [V.str z])) q (((wordsAt rows n 0).take 1).map V.str) := by
      rw [← ec]
      exact SqL.of (s3 _ _ upd_same)
    refine ⟨.list (((wordsAt rows n 0).take 1).map PyData.str), .list ([z].map PyData.str), .lst hq (dpAll_strs _), .lst (SqL.of upd_same) (dpAll_strs [z]), shaped_strs fun y hy => (words_ok sz y (List.mem_of_mem_take hy)).1, shaped_strs fun y hy => ?_, ?_⟩
    · have e : y = z := by simpa using hy
      rw [e]
      exact hz
    · have e : PyData.eqv (.list (((wordsAt rows n 0).take 1).map PyData.str)) (.list ([z].map PyData.str)) = decide ((wordsAt rows n 0).take 1 = [z]) := by
        rw [PyData.eqv]
        exact eqv_strs _ _
      rw [e]
      exact k _ ((s1.trans s2).trans s3)
theorem ok_step {f CL : Addr} {fd : FuncData} (L : ClL K CL) (F : Fun K "step" "Lines.step" s_Lines_step f fd) : FnOk P w K mg base CX0 1 f fd ["self"] (spStep CL) := by
  refine F.ok sc_Lines_step (fun vs H Q E h => ?_) (fun cdv A outer s H vs Q E hr h => ?_)
  · obtain ⟨l, dx, r, rows, n, rfl, _⟩ := h
    rfl
  · obtain ⟨l, dx, r, rows, n, rfl, hl, hn, k⟩ := h
    refine ⟨_, (pss_one (ps_fldaug (pv 0) pe_int in_add)), ?_⟩
    refine ⟨_, rfl, l, CL, dx, _, _, rfl, hl.o, L.cl, L.na, lf_at, n, 1, rfl, rfl, dx, _, hl.o, by show 2 < 1000; decide, ?_⟩
    refine k _ (SameBut.upd l H _) ⟨?_, ?_, hn⟩
    · rw [upd_same, lf_put]
      rfl
    · rw [upd_ne (ne_of hl.r hl.o (by intro q; cases q))]
      exact hl.r
theorem ok_need {f CL CT fE : Addr} {fd fdE : FuncData} (L : ClL K CL) (F : Fun K "need" "Lines.need" s_Lines_need f fd) (T : Er K mg "BadText" CT fE) (FE : Fun K "__init__" "WireError.__init__" s_err fE fdE) (bE : Binds K fdE ["self", "value"] []) :
    FnOk P w K mg base (L2.CX P w) 4 f fd ["self", "right"] (spNeed K CL CT) := by
  have GE : FnOk P w K mg base CX0 1 fE fdE ["self", "value"] (spErr K) := ok_err FE
  refine F.okX sc_Lines_need (fun vs H Q E h => ?_) (fun cdv A outer s H vs Q E hr h => ?_)
  · obtain ⟨l, dx, r, rows, n, x, b, rfl, _⟩ := h
    rfl
  · obtain ⟨l, dx, r, rows, n, x, b, rfl, hl, ht, k, ke⟩ := h
    refine ⟨_, (pss_one (ps_if (pt_not (pt_truth (pv 1) (by intro _; rfl)))
        (pss_one (ps_raise rfl (takes_of rfl rfl rfl rfl) (pmk_oex T.O T.iC T.tI GE (hr.mono (by decide)) bE .nil pass0 (by rfl) T.g (pa_cons (pe_fld (pv 0) rfl) pa_nil))))
        pss_nil)), ?_⟩
    refine ⟨_, rfl, b, ht, ?_⟩
    cases b with
    | true => exact iteF (k rfl)
    | false =>
      refine iteT ?_
      exact raise_run T.O T.nv (val_fld (val_var rfl) hl.o L.cl L.na lf_at) (ke rfl)
theorem ok_need_end {f fN CL CT fE : Addr} {fd fdN fdE : FuncData} (B : Bt mg) (L : ClL K CL) (F : Fun K "need_end" "Lines.need_end" s_Lines_need_end f fd) (M_need : Mf K CL "need" "Lines.need" s_Lines_need fN fdN ["self", "right"]) (T : Er K mg "BadText" CT fE) (FE : Fun K "__init__" "WireError.__init__" s_err fE fdE) (bE : Binds K fdE ["self", "value"] []) :
    FnOk P w K mg base (L2.CX P w) 5 f fd ["self"] (spNeedEnd CL CT) := by
  have G_need : FnOk P w K mg base (L2.CX P w) 4 fN fdN ["self", "right"] (spNeed K CL CT) := ok_need L M_need.F T FE bE
  refine F.okX sc_Lines_need_end (fun vs H Q E h => ?_) (fun cdv A outer s H vs Q E hr h => ?_)
  · obtain ⟨l, dx, r, rows, n, rfl, _⟩ := h
    rfl
  · obtain ⟨l, dx, r, rows, n, rfl, hl, k, ke⟩ := h
    refine ⟨_, (pss_one (ps_expr (pe_meth (pv 0) L.cl M_need.m G_need (hr.mono (by decide)) M_need.b .nil (pxp rfl rfl rfl rfl) (pa_cons (pe_cmpR op_eq (pe_fld (pv 0) rfl) (pe_callB call_len_seq (by rfl) B.m_len PySem.boot_len (pa_cons (pe_fld (pv 0) rfl) pa_nil)) (nomark _)) pa_nil)))), ?_⟩
    refine ⟨_, rfl, l, dx, _, rfl, hl.o, lf_no (by decide +kernel) (by decide +kernel), ?_⟩
    have hR : SqL K H r (rows.map V.str) := SqL.of hl.r
    refine (val_op (val_fld (val_var rfl) hl.o L.cl L.na lf_at) (val_lenL (val_fld (val_var rfl) hl.o L.cl L.nr lf_rows) hR) fun Q q => ⟨rfl, q⟩) _ ?_
    refine ⟨l, dx, r, rows, n, _, _, rfl, hl, rfl, fun e => k ?_, fun e => ke ?_⟩
    · have := of_decide_eq_true e
      rw [List.length_map] at this
      injection this with this
      omega
    · have := of_decide_eq_false e
      rw [List.length_map] at this
      intro q
      exact this (by rw [q])
end
end K5
namespace K5
open PySem PySem.Spec PyProof.Rows L2
/-! ### x, *xs = a list -/
section
variable {prog : Program} {w : World} {A : Around} {E : Value → Shared → Prop} {s : Shared}
theorem star_items {a : Addr} {ys : Array Value} {Q : List Value → Shared → Prop} (ha : s.heap.IsList a ys) (hh : A.handled = none) (h1 : 1 ≤ ys.size) (few : ys.size ≤ 16384)
    (h : ∀ (h' : Heap) (tk : Nat), (∀ b o, s.heap.get? b = some o → h'.get? b = some o) → Q (ys.toList.take 1 ++ [.ref h'.objs.size]) { s with heap := h'.push { cls := .type "list", data := .seq (ys.toList.drop 1).toArray }, toks := tk }) :
    wpAny (model prog w) A (unpackItems (.ref a) 2 (some 1)) Q E s := by
  have na : a ≠ s.heap.objs.size := by
    obtain ⟨o, e, _⟩ := ha
    exact Nat.ne_of_lt (Heap.lt_size e)
  unfold unpackItems notIterableAtAll
  refine wpAny_bind (wpAny_bind (wpAny_specialOf ha.typeIs slot_list_iter.lookup (wpAny_pure ?_)))
  simp only [Bool.false_eq_true, if_false]
  refine wpAny_bind (wpAny_holding (wpAny_pyIter_list ha (wpAny_bind (wpAny_holding (PySem.W.kun_draw na 1 0 _ _ ⟨_, Heap.get?_push_size _ rfl, rfl, rfl⟩ (ha.push _) (by omega) fun g hit hs => ?_)))))
  rw [Nat.zero_add] at hit
  rw [List.drop_zero]
  have hg : g.IsList a ys := (ha.push _).extBut hs.extBut na
  have q1 := hit
  have q2 := hg
  obtain ⟨o1, e1, _⟩ := q1
  obtain ⟨o2, e2, _⟩ := q2
  have hf : (ys.toList.take 1).length = 1 := by
    rw [List.length_take, Array.length_toList]
    omega
  rw [if_neg (show ¬ (ys.toList.take 1).length < 1 by omega)]
  refine wpAny_bind (wpAny_holding (PySem.W.kun_collect (s := { s with heap := g }) (T := "list_iterator") (.inr (.inr (.inl rfl))) (Walks.list (A := A.in1) hh s.heap.objs.size a na ys) (fun j u st => st.1.typeIs) (k := 1) h1 ⟨hit, hg⟩ (Heap.lt_size e1) (Heap.lt_size e2) (fun g2 tk hk => ?_) (Nat.le_trans few (by decide))))
  have hd : (ys.toList.drop 1).length = ys.size - 1 := by rw [List.length_drop, Array.length_toList]
  show wpAny _ _ (if (ys.toList.drop 1).length < 2 - 1 - 1 then _ else _) _ _ _
  rw [if_neg (Nat.not_lt_zero _)]
  show wpAny _ _ (newList ((ys.toList.drop 1).take ((ys.toList.drop 1).length - 0)) >>= fun d => pure (ys.toList.take 1 ++ [d] ++ (ys.toList.drop 1).drop ((ys.toList.drop 1).length - 0))) _ _ _
  simp only [Nat.sub_zero, List.take_length, List.drop_length, List.append_nil]
  refine wpAny_bind (wpAny_newList (wpAny_pure (h g2 tk fun b o e => ?_)) (by rw [hd]; exact Nat.le_trans (Nat.sub_le _ _) (Nat.le_trans few (by decide))))
  exact hk b o (Nat.ne_of_lt (Heap.lt_size e)) (hs.extBut b o (Nat.ne_of_lt (Heap.lt_size e)) (Heap.get?_push_of_some _ e))
end
/-- (x, *xs) = a list of one item at least -/
def gStar (K : PySem.W.Frag) (t u : TG) : TG := fun v σ H Q => ∃ (a : Addr) (x : V) (xs : List V), v = .ref a ∧ SqL K H a (x :: xs) ∧ xs.length ≤ 16000 ∧ ∀ p, H p = none → t x σ (upd H p (.lst xs)) fun σ' H' => u (.ref p) σ' H' Q
theorem pg_star {X : Cx} {e1 e2 : Expr} {sp : Pos} {k : Nat} {pos : Pos} {t u : TG} (hc : X.calm = true) (h1 : PG X e1 t) (h2 : PG X e2 u)
    (hs : assignEach [e1, .Starred e2 sp] X.env = [(false, assign e1 X.env), (true, assign e2 X.env)] := by rfl) : PG X (.Tuple [e1, .Starred e2 sp] k pos) (gStar X.K t u) := by
  refine ⟨fun pins s σ H v w Q I r hw => ?_⟩
  obtain ⟨a, x, xs, ev, hq, hl, hw⟩ := hw
  subst ev
  cases r
  obtain ⟨things, rvs, isl, few⟩ := I.list hq
  have hL : s.heap.IsList a things.toArray := by
    obtain ⟨o, m, e, c, d, q⟩ := isl
    exact ⟨o, e, c, m, q⟩
  cases rvs with
  | cons r1 rr =>
    rename_i y ys
    have hlen := rr.length
    rw [PyProof.Rows.assign_Tuple]
    refine wpAny_bind (wpAny_standAt ?_)
    unfold unpack
    rw [hs]
    refine wpAny_bind (wpAny_holding (star_items hL (I.ok.hd hc) (by simp) (by simp; omega) fun h' tk hk => ?_))
    have I1 : Inv X pins σ H { s with heap := h', toks := tk } := I.kept (t' := tk) hk
    have nf : H h'.objs.size = none := I1.hok.fresh (Nat.le_refl _)
    have I2 : Inv X pins σ (upd H h'.objs.size (.lst xs)) { s with heap := h'.push { cls := .type "list", data := .seq ys.toArray }, toks := tk } := by
      refine I1.laid (t' := tk) (fun b o e => Heap.get?_push_of_some _ e) (Nat.le_refl _) ?_
      exact ⟨Nat.le_trans hl (by decide), ys, 0, rr, Heap.get?_push_size _ rfl⟩
    show wpAny _ _ (assignInOrder [assign e1 X.env, assign e2 X.env] [y, .ref h'.objs.size]) _ _ _
    refine assignInOrder_cons (thn (h1.run pins _ σ _ x y _ I2 r1 (hw _ nf)) fun _ s1 ⟨σ1, H1, I3, q1⟩ => ?_)
    refine assignInOrder_cons (thn (h2.run pins s1 σ1 H1 (.ref h'.objs.size) _ _ I3 rfl q1) fun _ s2 ⟨σ2, H2, I4, q2⟩ => ?_)
    exact assignInOrder_nil ⟨σ2, H2, I4, q2⟩
end K5
namespace K5
open PySem PySem.Spec PyProof.Rows L2
/-! ### the reader of statements: what it holds -/
structure Ad where
  (l dl r g dg ct pt st ak : Addr)
structure Tx where
  (rows : List Str) (w : Int) (cells ports : List Str)
structure TxOk (T : Tx) : Prop where
  sz : Sz T.rows
  c : T.cells.length ≤ 3
  p : T.ports.length ≤ 2
def pNames : List Str := ["lines", "worths", "cells", "ports", "steps", "asks", "many"]
def pf (A : Ad) (T : Tx) (m : Nat) : List (Str × V) := [("lines", .ref A.l), ("worths", .int T.w), ("cells", .ref A.ct), ("ports", .ref A.pt), ("steps", .ref A.st), ("asks", .ref A.ak), ("many", .int m)]
theorem lk_none {m : Str} : ∀ {fs : List (Str × V)}, (∀ x ∈ fs.map (·.1), ¬ m = x) → fs.lookup m = none
  | [], _ => rfl
  | (g, v) :: r, h => (lk_tl (h g (by simp))).trans (lk_none fun x hx => h x (by simp at hx ⊢; exact .inr hx))
theorem pf_no {A : Ad} {T : Tx} {k : Nat} {m : Str} (h : ∀ x ∈ pNames, ¬ m = x) : (pf A T k).lookup m = none := lk_none h
section
variable {A : Ad} {T : Tx} {m k : Nat}
theorem pf_lines : (pf A T m).lookup ("lines" : Str) = some (.ref A.l) := lk_hd
theorem pf_worths : (pf A T m).lookup ("worths" : Str) = some (.int T.w) := (lk_tl (by decide +kernel)).trans lk_hd
theorem pf_cells : (pf A T m).lookup ("cells" : Str) = some (.ref A.ct) := (lk_tl (by decide +kernel)).trans ((lk_tl (by decide +kernel)).trans lk_hd)
theorem pf_ports : (pf A T m).lookup ("ports" : Str) = some (.ref A.pt) := (lk_tl (by decide +kernel)).trans ((lk_tl (by decide +kernel)).trans ((lk_tl (by decide +kernel)).trans lk_hd))
theorem pf_steps : (pf A T m).lookup ("steps" : Str) = some (.ref A.st) := (lk_tl (by decide +kernel)).trans ((lk_tl (by decide +kernel)).trans ((lk_tl (by decide +kernel)).trans ((lk_tl (by decide +kernel)).trans lk_hd)))
theorem pf_asks : (pf A T m).lookup ("asks" : Str) = some (.ref A.ak) := (lk_tl (by decide +kernel)).trans ((lk_tl (by decide +kernel)).trans ((lk_tl (by decide +kernel)).trans ((lk_tl (by decide +kernel)).trans ((lk_tl (by decide +kernel)).trans lk_hd))))
theorem pf_many : (pf A T m).lookup ("many" : Str) = some (.int m) := (lk_tl (by decide +kernel)).trans ((lk_tl (by decide +kernel)).trans ((lk_tl (by decide +kernel)).trans ((lk_tl (by decide +kernel)).trans ((lk_tl (by decide +kernel)).trans ((lk_tl (by decide +kernel)).trans lk_hd)))))
theorem pf_put : putF "many" (.int k) (pf A T m) = pf A T k := by
  unfold pf
  rw [put_tl (by decide +kernel), put_tl (by decide +kernel), put_tl (by decide +kernel), put_tl (by decide +kernel), put_tl (by decide +kernel), put_tl (by decide +kernel), put_hd]
end
structure ClP (K : PySem.W.Frag) (C : Addr) : Prop where
  cl : Cls K C
  na : ∀ x ∈ pNames, NoAttr K C x
section
variable {K : PySem.W.Frag} {C : Addr}
theorem ClP.lines (c : ClP K C) : NoAttr K C "lines" := c.na _ (by decide +kernel)
theorem ClP.worths (c : ClP K C) : NoAttr K C "worths" := c.na _ (by decide +kernel)
theorem ClP.cells (c : ClP K C) : NoAttr K C "cells" := c.na _ (by decide +kernel)
theorem ClP.ports (c : ClP K C) : NoAttr K C "ports" := c.na _ (by decide +kernel)
theorem ClP.steps (c : ClP K C) : NoAttr K C "steps" := c.na _ (by decide +kernel)
theorem ClP.asks (c : ClP K C) : NoAttr K C "asks" := c.na _ (by decide +kernel)
theorem ClP.many (c : ClP K C) : NoAttr K C "many" := c.na _ (by decide +kernel)
end
/-- a tuple of which the very object is known: it has no dict of its own -/
def FT (H : Hp) (a : Addr) (xs : List V) : Prop := ∃ ob : Obj, H a = some (.frz ob (.tup xs)) ∧ ob.dict = none
theorem FT.mono {H H' : Hp} {a : Addr} {xs : List V} (h : FT H a xs) (e : Same H H') : FT H' a xs := by
  obtain ⟨ob, h1, h2⟩ := h
  exact ⟨ob, e _ _ h1, h2⟩
theorem FT.sq {K : PySem.W.Frag} {H : Hp} {a : Addr} {xs : List V} (h : FT H a xs) : SqT K H a xs := by
  obtain ⟨ob, h1, _⟩ := h
  exact .inl (.inr ⟨ob, h1⟩)
/-- t.index(z), t such a tuple of texts, z among them -/
def tTupIx (K : PySem.W.Frag) (to : TE) (t : TA) : TE := fun σ H Q => to σ H fun x H1 => ∃ (p : Addr) (ys : List Str), x = .ref p ∧ FT H1 p (ys.map V.str) ∧ t σ H1 fun vs H2 => ∃ (z : Str) (j : Nat), vs = [.str z] ∧ SqT K H2 p (ys.map V.str) ∧ ys[j]? = some z ∧ (∀ m, m < j → ys[m]? ≠ some z) ∧ Q (.int (j : Nat)) H2
theorem pe_tupIx {X : Cx} {o e : Expr} {to : TE} {t : TA} {apos cpos : Pos} (ho : PE X o to) (ha : PA X [e] t)
    (hbase : attributeBase o "index" X.env (eval o X.env) = eval o X.env := by rfl)
    (hfew : ((backTo cpos (starEach [e] X.env)).all (fun x => !x.1) && (backToKw cpos (keywordEach [] X.env)).all (fun x => x.1.isSome) && decide (([e] : List Expr).length + ([] : List Keyword).length + (if ([] : List Keyword).isEmpty then 0 else 1) < 30)) = true := by rfl)
    (hline : (apos.endLine == cpos.line) = true := by rfl) 
    (star1 : starEach [e] X.env = (false, eval e X.env) :: starEach [] X.env := by rfl) (hplain : (backTo cpos (starEach [] X.env)).any (·.1) = false := by rfl) :
    PE X (.Call (.Attribute o "index" apos) [e] [] cpos) (tTupIx X.K to t) := by
  refine ⟨fun pins s σ H Q I h => wpAny_Call_method_late hbase hfew hline rfl (thn (ho.run pins s σ H _ I h) fun v s1 ⟨x, H1, I1, r1, p, ys, ex, hF, q1⟩ => ?_)⟩
  subst ex
  cases r1
  obtain ⟨ob, hob, hd⟩ := hF
  have hok : s1.heap.get? p = some ob ∧ ObjOk X.prog X.w H1 s1.heap p (.tup (ys.map V.str)) := I1.hok p _ hob
  obtain ⟨h1, _, its, _, o2, h2, hc, _⟩ := hok
  refine ⟨"tuple", "tuple.index", PySem.F.plainAttrs_tuple, PySem.F.slot_tuple_index, PySem.F.type_tuple_index, ⟨o2, h2, hc⟩, fun a e2 => ?_, ?_⟩
  · cases e2
    exact ⟨ob, h1, hd⟩
  · have hA := ha.run cpos pins s1 σ H1 _ I1 q1
    rw [star1] at hA ⊢
    refine Calls.callWith_builtin (by show (false || (backTo cpos (starEach [] X.env)).any (·.1)) = false; rw [hplain] <;> rfl) (Calls.evalArgs_plain (thn hA fun us s2 ⟨vs, H2, I2, r2, z, j, ev, hS, hj, hf, q2⟩ => ?_))
    exact mt_tup_index pins s2 σ H2 (.ref p) vs (.ref p) us Q I2 rfl r2 ⟨p, ys, z, j, rfl, ev, hS, hj, hf, q2⟩
/-! ### data in the heap -/
mutual
inductive Tr (H : Hp) : V → PyData → Prop
  | int (i : Int) : Tr H (.int i) (.int i)
  | str (x : Str) : Tr H (.str x) (.str x)
  | tup {a : Addr} {xs : List V} {ds : List PyData} : H a = some (.tup xs) → Trs H xs ds → Tr H (.ref a) (.tuple ds)
inductive Trs (H : Hp) : List V → List PyData → Prop
  | nil : Trs H [] []
  | cons {v : V} {vs : List V} {d : PyData} {ds : List PyData} : Tr H v d → Trs H vs ds → Trs H (v :: vs) (d :: ds)
end
section
variable {H H' : Hp}
mutual
theorem Tr.keep (k : ∀ a zs, H a = some (.tup zs) → H' a = some (.tup zs)) : ∀ {v : V} {d : PyData}, Tr H v d → Tr H' v d
  | _, _, .int i => .int i
  | _, _, .str x => .str x
  | _, _, .tup h r => .tup (k _ _ h) (Trs.keep k r)
theorem Trs.keep (k : ∀ a zs, H a = some (.tup zs) → H' a = some (.tup zs)) : ∀ {vs : List V} {ds : List PyData}, Trs H vs ds → Trs H' vs ds
  | _, _, .nil => .nil
  | _, _, .cons h r => .cons (Tr.keep k h) (Trs.keep k r)
end
theorem Tr.mono {v : V} {d : PyData} (h : Tr H v d) (e : Same H H') : Tr H' v d := h.keep fun _ _ q => e _ _ q
theorem Trs.mono {v : List V} {d : List PyData} (h : Trs H v d) (e : Same H H') : Trs H' v d := h.keep fun _ _ q => e _ _ q
theorem tup_but {o : HO} {b : Addr} (hb : ∀ zs, H b ≠ some (.tup zs)) : ∀ a zs, H a = some (.tup zs) → (upd H b o) a = some (.tup zs) := fun a zs h => by
  have ne : a ≠ b := fun e => hb zs (by rw [← e]; exact h)
  rw [upd_ne ne]
  exact h
theorem Tr.but {o : HO} {b : Addr} {x : V} {d : PyData} (h : Tr H x d) (hb : ∀ zs, H b ≠ some (.tup zs)) : Tr (upd H b o) x d := h.keep (tup_but hb)
theorem Trs.but {o : HO} {b : Addr} {x : List V} {d : List PyData} (h : Trs H x d) (hb : ∀ zs, H b ≠ some (.tup zs)) : Trs (upd H b o) x d := h.keep (tup_but hb)
theorem Trs.len : ∀ {vs : List V} {ds : List PyData}, Trs H vs ds → vs.length = ds.length
  | _, _, .nil => rfl
  | _, _, .cons _ r => congrArg (· + 1) r.len
theorem Trs.get : ∀ {vs : List V} {ds : List PyData} {j : Nat} {d : PyData}, Trs H vs ds → ds[j]? = some d → ∃ v, vs[j]? = some v ∧ Tr H v d
  | _, _, 0, _, .cons h r, e => ⟨_, rfl, by cases e; exact h⟩
  | _, _, j + 1, _, .cons h r, e => r.get (j := j) e
theorem Trs.set {v : V} {d : PyData} (hv : Tr H v d) : ∀ {vs : List V} {ds : List PyData} {j : Nat}, Trs H vs ds → Trs H (vs.set j v) (ds.set j d)
  | _, _, _, .nil => .nil
  | _, _, 0, .cons h r => .cons hv r
  | _, _, j + 1, .cons h r => .cons h (r.set hv)
theorem Trs.app : ∀ {vs ws : List V} {ds es : List PyData}, Trs H vs ds → Trs H ws es → Trs H (vs ++ ws) (ds ++ es)
  | _, _, _, _, .nil, q => q
  | _, _, _, _, .cons h r, q => .cons h (r.app q)
theorem tr2 {a : Addr} {x y : V} {d e : PyData} (h : H a = some (.tup [x, y])) (hx : Tr H x d) (hy : Tr H y e) : Tr H (.ref a) (.tuple [d, e]) := .tup h (.cons hx (.cons hy .nil))
theorem tr1 {a : Addr} {x : V} {d : PyData} (h : H a = some (.tup [x])) (hx : Tr H x d) : Tr H (.ref a) (.tuple [d]) := .tup h (.cons hx .nil)
theorem tr3 {a : Addr} {x y z : V} {d e f : PyData} (h : H a = some (.tup [x, y, z])) (hx : Tr H x d) (hy : Tr H y e) (hz : Tr H z f) : Tr H (.ref a) (.tuple [d, e, f]) := .tup h (.cons hx (.cons hy (.cons hz .nil)))
mutual
theorem Tr.dp {K : PySem.W.Frag} : ∀ {v : V} {d : PyData}, Tr H v d → Dp K H v d
  | _, _, .int i => .int i
  | _, _, .str x => .str x
  | _, _, .tup h r => .tup (SqT.of h) (Trs.dp r)
theorem Trs.dp {K : PySem.W.Frag} : ∀ {vs : List V} {ds : List PyData}, Trs H vs ds → DpAll K H vs ds
  | _, _, .nil => .nil
  | _, _, .cons h r => .cons (Tr.dp h) (Trs.dp r)
end
/-- the entries of asks -/
def AkAt (H : Hp) : List (Key × V) → List (Nat × PyData) → Prop := Paired fun p q => p.1 = .inl (q.1 : Int) ∧ Tr H p.2 q.2
theorem AkAt.keep (k : ∀ a zs, H a = some (.tup zs) → H' a = some (.tup zs)) {kvs : List (Key × V)} {as : List (Nat × PyData)} (h : AkAt H kvs as) : AkAt H' kvs as := Paired.mapP h fun _ _ z => ⟨z.1, z.2.keep k⟩
theorem AkAt.but {o : HO} {b : Addr} {kvs : List (Key × V)} {as : List (Nat × PyData)} (h : AkAt H kvs as) (hb : ∀ zs, H b ≠ some (.tup zs)) : AkAt (upd H b o) kvs as := h.keep (tup_but hb)
def putA (as : List (Nat × PyData)) (n : Nat) (d : PyData) : List (Nat × PyData) :=
  if (as.any fun q => decide (q.1 = n)) = true then as.map (fun q => if q.1 = n then (q.1, d) else q) else as ++ [(n, d)]
theorem AkAt.put {kvs : List (Key × V)} {as : List (Nat × PyData)} {n : Nat} {v : V} {d : PyData} (h : AkAt H kvs as) (hv : Tr H v d) : AkAt H (putK kvs (.inl (n : Int)) v) (putA as n d) := by
  have hk : ∀ (p : Key × V) (q : Nat × PyData), p.1 = .inl (q.1 : Int) → decide (p.1 = (Sum.inl (n : Int) : Key)) = decide (q.1 = n) := fun p q e => by
    rw [e]
    refine decide_eq_decide.mpr ⟨fun z => ?_, fun z => by rw [z]⟩
    injection z with z
    omega
  have ha : (kvs.any fun kv => decide (kv.1 = (Sum.inl (n : Int) : Key))) = as.any fun q => decide (q.1 = n) := by
    clear hv
    induction h with
    | nil => rfl
    | cons h t ih => rw [List.any_cons, List.any_cons, ih, hk _ _ h.1]
  have hm : Paired (fun p q => p.1 = (Sum.inl (q.1 : Int) : Key) ∧ Tr H p.2 q.2) (kvs.map fun kv => if kv.1 = (Sum.inl (n : Int) : Key) then (kv.1, v) else kv) (as.map fun q => if q.1 = n then (q.1, d) else q) := by
    clear ha
    induction h with
    | nil => exact .nil
    | @cons p q ps qs h t ih =>
      refine .cons ?_ ih
      by_cases c : q.1 = n
      · have c2 : p.1 = (Sum.inl (n : Int) : Key) := of_decide_eq_true ((hk p q h.1).trans (decide_eq_true c))
        dsimp only
        rw [if_pos c, if_pos c2]
        exact ⟨h.1, hv⟩
      · have c2 : ¬ p.1 = (Sum.inl (n : Int) : Key) := of_decide_eq_false ((hk p q h.1).trans (decide_eq_false c))
        dsimp only
        rw [if_neg c, if_neg c2]
        exact h
  unfold putK putA
  rw [ha]
  split
  · exact hm
  · rename_i c
    clear c ha hm hk
    unfold AkAt at h
    induction h with
    | nil => exact .cons ⟨rfl, hv⟩ .nil
    | cons h t ih => exact .cons h ih
end
/-- the content of the steps and of the asks -/
structure SD where
  (ds : List PyData) (as : List (Nat × PyData))
/-- the reader at A.g over the lines at A.l, at line n, m statements read; H0: what stood before -/
structure Wd (CL CP : Addr) (A : Ad) (T : Tx) (H0 H : Hp) (n m : Nat) (xs : List V) (kvs : List (Key × V)) (S : SD) : Prop where
  s0 : Same H0 H
  l0 : H0 A.l = none
  g0 : H0 A.g = none
  st0 : H0 A.st = none
  ak0 : H0 A.ak = none
  lg : A.l ≠ A.g
  li : LinesAt CL H A.l A.dl A.r T.rows n
  pg : H A.g = some (.ins CP A.dg (pf A T m))
  ct : FT H A.ct (T.cells.map V.str)
  pt : H A.pt = some (.tup (T.ports.map V.str))
  st : H A.st = some (.lst xs)
  sx : Trs H xs S.ds
  ak : H A.ak = some (.dK kvs)
  ax : AkAt H kvs S.as
  rst : A.r ≠ A.st
section
variable {CL CP : Addr} {A : Ad} {T : Tx} {H0 H H' : Hp} {n m : Nat} {xs : List V} {kvs : List (Key × V)} {S : SD}
theorem Wd.mono (p : Wd CL CP A T H0 H n m xs kvs S) (e : Same H H') : Wd CL CP A T H0 H' n m xs kvs S where
  s0 := p.s0.trans e
  l0 := p.l0
  g0 := p.g0
  st0 := p.st0
  ak0 := p.ak0
  lg := p.lg
  li := p.li.mono e
  pg := e _ _ p.pg
  ct := p.ct.mono e
  pt := e _ _ p.pt
  st := e _ _ p.st
  sx := p.sx.mono e
  ak := e _ _ p.ak
  ax := p.ax.keep fun _ _ q => e _ _ q
  rst := p.rst
end
/-! ### in -/
theorem inV_strs (z : Str) : ∀ l : List Str, inV (.str z) (l.map V.str) = decide (z ∈ l)
  | [] => by simp [inV]
  | y :: r => by
    have ih := inV_strs z r
    unfold inV at ih ⊢
    rw [List.map_cons, List.any_cons, ih]
    by_cases h : z = y
    · subst h
      simp [eqV]
    · have h2 : (y == z) = false := by
        rw [beq_eq_false_iff_ne]
        exact fun e => h e.symm
      simp [eqV, h, h2]
theorem flat_strs (l : List Str) : (l.map V.str).all flatV = true := by
  rw [List.all_map, List.all_eq_true]
  intro z _
  rfl
section
variable {X : Cx} {K : PySem.W.Frag} {σ : L2.St} {H : Hp} {ta tb tc : TE} {t u : TT} {i j k : Int} {p : Addr} {xs : List V} {v x : V} {a b : Bool}
theorem val_inT {z : Str} {l : List Str} (ha : Val ta σ H (.str z)) (hb : Val tb σ H (.ref p)) (hS : SqT K H p (l.map V.str)) : Val (tOp (rIn K false) ta tb) σ H (.bl (decide (z ∈ l))) :=
  val_op ha hb fun Q q => ⟨p, _, rfl, .inr hS, rfl, flat_strs l, by
    show Q (.bl (inV (.str z) (l.map V.str))) H
    rw [inV_strs]
    exact q⟩
/-- x in a pair of texts written there -/
theorem run_in2 {z s1 s2 : Str} {Q : VK} (ha : Val ta σ H (.str z)) (q : ∀ H', Same H H' → Q (.bl (decide (z ∈ [s1, s2]))) H') : tOp (rIn K false) ta (tTup (tCons (tC (.str s1)) (tCons (tC (.str s2)) tNil))) σ H Q := by
  refine ha _ ⟨by show 2 ≤ sizeLine; decide, fun p np => ?_⟩
  refine ⟨p, [.str s1, .str s2], rfl, .inr (SqT.of upd_same), rfl, rfl, ?_⟩
  show Q (.bl (inV (.str z) ([s1, s2].map V.str))) _
  rw [inV_strs]
  exact q _ (same_upd np)
end
/-! ### what a word of an expression may be -/
def srcOk (T : Tx) (z : Str) : Bool := decide (z ∈ (["it", "got"] : List Str)) || decide (z ∈ T.cells) || decide (0 ≤ numOf z T.w)
def condOk (T : Tx) (ws : List Str) : Bool :=
  (decide (ws.length = 1) && decide (ws.getD 0 "" ∈ (["lost", "busy"] : List Str))) ||
  (decide (ws.length = 3) && decide (ws.getD 1 "" ∈ (["=", "!="] : List Str)) && srcOk T (ws.getD 0 "") && srcOk T (ws.getD 2 ""))
/-- its place in a list -/
def ixS (z : Str) : List Str → Nat
  | [] => 0
  | y :: r => if y = z then 0 else ixS z r + 1
theorem first_at {z : Str} : ∀ {l : List Str}, z ∈ l → l[ixS z l]? = some z ∧ ∀ m : Nat, m < ixS z l → l[m]? ≠ some z
  | y :: r, h => by
    unfold ixS
    by_cases e : y = z
    · rw [if_pos e]
      exact ⟨by rw [e]; rfl, fun m hm => absurd hm (Nat.not_lt_zero _)⟩
    · obtain ⟨h1, h2⟩ := first_at (l := r) (by
        rcases List.mem_cons.mp h with q | q
        · exact absurd q.symm e
        · exact q)
      rw [if_neg e]
      refine ⟨h1, fun m hm => ?_⟩
      cases m with
      | zero => exact fun q => e (Option.some.inj q)
      | succ m => exact h2 m (Nat.lt_of_succ_lt_succ hm)
/-! ### what is read -/
def srcD (T : Tx) (z : Str) : PyData :=
  if z ∈ (["it", "got"] : List Str) then .tuple [.str z, .int 0] else if z ∈ T.cells then .tuple [.str "cell", .int (ixS z T.cells : Nat)] else .tuple [.str "worth", .int (numOf z T.w)]
def condD (T : Tx) (ws : List Str) : PyData :=
  if (decide (ws.length = 1) && decide (ws.getD 0 "" ∈ (["lost", "busy"] : List Str))) = true then .tuple [.str (ws.getD 0 "")] else .tuple [.str (ws.getD 1 ""), srcD T (ws.getD 0 ""), srcD T (ws.getD 2 "")]
/-! ### promises -/
def spCell (CL CP CT : Addr) : Sp := fun vs H Q E => ∃ (A : Ad) (T : Tx) (H0 : Hp) (n m : Nat) (xs : List V) (kvs : List (Key × V)) (S : SD) (z : Str), vs = [.ref A.g, .str z] ∧ Wd CL CP A T H0 H n m xs kvs S ∧ TxOk T ∧
  (z ∈ T.cells → Q (.int (ixS z T.cells : Nat)) H) ∧ (z ∉ T.cells → ErrK CT (.int n) H E)
def spSource (CL CP CT : Addr) : Sp := fun vs H Q E => ∃ (A : Ad) (T : Tx) (H0 : Hp) (n m : Nat) (xs : List V) (kvs : List (Key × V)) (S : SD) (z : Str), vs = [.ref A.g, .str z] ∧ Wd CL CP A T H0 H n m xs kvs S ∧ TxOk T ∧ z.length ≤ 14000 ∧
  (srcOk T z = true → ∀ (H' : Hp) (x : V), Same H H' → Tr H' x (srcD T z) → Q x H') ∧ (srcOk T z = false → ErrK CT (.int n) H E)
def spCond (CL CP CT : Addr) : Sp := fun vs H Q E => ∃ (A : Ad) (T : Tx) (H0 : Hp) (n m : Nat) (xs : List V) (kvs : List (Key × V)) (S : SD) (p : Addr) (ws : List Str), vs = [.ref A.g, .ref p] ∧ Wd CL CP A T H0 H n m xs kvs S ∧ TxOk T ∧
  H p = some (.lst (ws.map V.str)) ∧ (∀ z ∈ ws, z.length ≤ 14000) ∧
  (condOk T ws = true → ∀ (H' : Hp) (x : V), Same H H' → Tr H' x (condD T ws) → Q x H') ∧ (condOk T ws = false → ErrK CT (.int n) H E)
end K5
namespace K5
open PySem PySem.Spec PyProof.Rows L2
abbrev s_Program_cell : Stmt := inClass (topS 36) 9
theorem sc_Program_cell : FnScope ["self", "word"] ["self", "word"] (defScope s_Program_cell) := ⟨rfl, rfl, rfl, by decide +kernel, rfl, by decide +kernel, by decide +kernel⟩
abbrev s_Program_source : Stmt := inClass (topS 36) 10
theorem sc_Program_source : FnScope ["self", "word", "worth"] ["self", "word"] (defScope s_Program_source) := ⟨rfl, rfl, rfl, by decide +kernel, rfl, by decide +kernel, by decide +kernel⟩
abbrev s_Program_condition : Stmt := inClass (topS 36) 11
theorem sc_Program_condition : FnScope ["self", "words"] ["self", "words"] (defScope s_Program_condition) := ⟨rfl, rfl, rfl, by decide +kernel, rfl, by decide +kernel, by decide +kernel⟩
/-- what stands at the names of the top, as far as the readers ask -/
structure En (P : Program) (w : World) (K : PySem.W.Frag) (mg : Str → Option Value) (base : Heap) (CL CP CT : Addr) (fNeed fNum fDoor : Addr) (dNeed dNum dDoor : FuncData) : Prop where
  B : Bt mg
  L : ClL K CL
  C : ClP K CP
  Mn : Mf K CL "need" "Lines.need" s_Lines_need fNeed dNeed ["self", "right"]
  Gn : FnOk P w K mg base (L2.CX P w) 4 fNeed dNeed ["self", "right"] (spNeed K CL CT)
  Du : Df K mg "number" s_number fNum dNum ["word", "many"]
  Gu : FnOk P w K mg base CX0 1 fNum dNum ["word", "many"] spNumber
  Dd : Df K mg "is_door" s_is_door fDoor dDoor ["value"]
  Gd : FnOk P w K mg base CX0 2 fDoor dDoor ["value"] spIsDoor
theorem meth_run {C a dx : Addr} {m : Str} {fs : List (Str × V)} {sp : Sp} {E : XK} {ta : TE} {t : TA} {σ : L2.St} {H : Hp} {Q : VK} (ho : Val ta σ H (.ref a)) (ha : H a = some (.ins C dx fs)) (hm : fs.lookup m = none) (h : t σ H fun vs H2 => sp (.ref a :: (vs ++ [])) H2 Q E) :
    tMeth C m sp [] E ta t σ H Q := ho _ ⟨a, dx, fs, rfl, ha, hm, h⟩
theorem tix_run {K : PySem.W.Frag} {to te : TE} {σ : L2.St} {H : Hp} {Q : VK} {p : Addr} {ys : List Str} {z : Str} {j : Nat} (ho : Val to σ H (.ref p)) (he : Val te σ H (.str z)) (hF : FT H p (ys.map V.str)) (hj : ys[j]? = some z) (hf : ∀ m, m < j → ys[m]? ≠ some z) (q : Q (.int (j : Nat)) H) :
    tTupIx K to (tCons te tNil) σ H Q := ho _ ⟨p, ys, rfl, hF, he _ ⟨z, j, rfl, hF.sq, hj, hf, q⟩⟩
theorem bm_run {K : PySem.W.Frag} {T : String} {r : V → List V → Hp → VK → Prop} {to : TE} {t : TA} {σ : L2.St} {H : Hp} {Q : VK} {x : V} (ho : Val to σ H x) (ht : tyV K T x H) (ha : t σ H fun vs H2 => r x vs H2 Q) : tBM K T r to t σ H Q := ho _ ⟨ht, ha⟩
section
variable {P : Program} {w : World} {K : PySem.W.Frag} {mg : Str → Option Value} {base : Heap} {CL CP CT fNeed fNum fDoor : Addr} {dNeed dNum dDoor : FuncData}
theorem ok_cell {f : Addr} {fd : FuncData} (N : En P w K mg base CL CP CT fNeed fNum fDoor dNeed dNum dDoor) (F : Fun K "cell" "Program.cell" s_Program_cell f fd) : FnOk P w K mg base (L2.CX P w) 5 f fd ["self", "word"] (spCell CL CP CT) := by
  refine F.okX sc_Program_cell (fun vs H Q E h => ?_) (fun cdv A0 outer s H vs Q E hr h => ?_)
  · obtain ⟨A, T, H0, n, m, xs, kvs, S, z, rfl, _⟩ := h
    rfl
  · obtain ⟨A, T, H0, n, m, xs, kvs, S, z, rfl, pw, tx, k, ke⟩ := h
    refine ⟨_, (pss_cons (ps_expr (pe_meth (pe_fld (pv 0) rfl) N.L.cl N.Mn.m N.Gn (hr.mono (by decide)) N.Mn.b .nil (pxp rfl rfl rfl rfl) (pa_cons (pe_cmpR op_in_seq (pv 1) (pe_fld (pv 0) rfl) (by rfl)) pa_nil)))
      (pss_one (ps_ret (pe_tupIx (pe_fld (pv 0) rfl) (pa_cons (pv 1) pa_nil))))), ?_⟩
    have hC : SqT K H A.ct (T.cells.map V.str) := pw.ct.sq
    refine meth_run (val_fld (val_var rfl) pw.pg N.C.cl N.C.lines pf_lines) pw.li.o (lf_no (by decide +kernel) (by decide +kernel)) ?_
    refine (val_inT (val_var rfl) (val_fld (val_var rfl) pw.pg N.C.cl N.C.cells pf_cells) hC) _ ?_
    refine ⟨A.l, A.dl, A.r, T.rows, n, _, _, rfl, pw.li, rfl, fun e => ?_, fun e => ke (of_decide_eq_false e)⟩
    have hz := of_decide_eq_true e
    obtain ⟨hj, hf⟩ := first_at hz
    exact tix_run (val_fld (val_var rfl) pw.pg N.C.cl N.C.cells pf_cells) (val_var rfl) pw.ct hj hf (k hz)
theorem ok_source {f : Addr} {fd : FuncData} (N : En P w K mg base CL CP CT fNeed fNum fDoor dNeed dNum dDoor) (F : Fun K "source" "Program.source" s_Program_source f fd) : FnOk P w K mg base (L2.CX P w) 5 f fd ["self", "word"] (spSource CL CP CT) := by
  refine F.okX sc_Program_source (fun vs H Q E h => ?_) (fun cdv A0 outer s H vs Q E hr h => ?_)
  · obtain ⟨A, T, H0, n, m, xs, kvs, S, z, rfl, _⟩ := h
    rfl
  · obtain ⟨A, T, H0, n, m, xs, kvs, S, z, rfl, pw, tx, hz, k, ke⟩ := h
    have Sc := sc_Program_source
    refine ⟨_, (pss_cons (ps_if (pt_cmpR op_in_seq (pv 1) (pe_tup (pa_cons pe_str (pa_cons pe_str pa_nil))) (by rfl))
        (pss_one (ps_ret (pe_tup (pa_cons (pv 1) (pa_cons pe_int pa_nil)))))
        pss_nil)
      (pss_cons (ps_if (pt_cmpR op_in_seq (pv 1) (pe_fld (pv 0) rfl) (by rfl))
        (pss_one (ps_ret (pe_tup (pa_cons pe_str (pa_cons (pe_tupIx (pe_fld (pv 0) rfl) (pa_cons (pv 1) pa_nil)) pa_nil)))))
        pss_nil)
      (pss_cons (ps_set (i := 2) Sc.nd rfl (.inl rfl) (pe_call N.Gu (hr.mono (by decide)) (by rfl) N.Du.g N.Du.F.kp N.Du.b .nil pass0 (pa_cons (pv 1) (pa_cons (pe_fld (pv 0) rfl) pa_nil))))
      (pss_cons (ps_expr (pe_meth (pe_fld (pv 0) rfl) N.L.cl N.Mn.m N.Gn (hr.mono (by decide)) N.Mn.b .nil (pxp rfl rfl rfl rfl) (pa_cons (pe_cmpR op_ge (pv 2) pe_int (nomark _)) pa_nil)))
      (pss_one (ps_ret (pe_tup (pa_cons pe_str (pa_cons (pv 2) pa_nil))))))))), ?_⟩
    refine run_in2 (val_var rfl) fun H1 s1 => ⟨_, rfl, ?_⟩
    have p1 := pw.mono s1
    by_cases c1 : z ∈ (["it", "got"] : List Str)
    · rw [decide_eq_true c1]
      refine iteT ⟨_, rfl, by show 2 ≤ sizeLine; decide, fun p np => ?_⟩
      refine k ?_ _ _ (s1.trans (same_upd np)) ?_
      · unfold srcOk
        rw [decide_eq_true c1]
        rfl
      · unfold srcD
        rw [if_pos c1]
        exact tr2 upd_same (.str _) (.int _)
    · rw [decide_eq_false c1]
      refine iteF ?_
      dsimp only [tNext, tSeq, tIfS]
      have hC : SqT K H1 A.ct (T.cells.map V.str) := p1.ct.sq
      refine (val_inT (val_var rfl) (val_fld (val_var rfl) p1.pg N.C.cl N.C.cells pf_cells) hC) _ ⟨_, rfl, ?_⟩
      by_cases c2 : z ∈ T.cells
      · rw [decide_eq_true c2]
        obtain ⟨hj, hf⟩ := first_at c2
        refine iteT ?_
        dsimp only [tRet, tTup, tCons, tC]
        refine tix_run (val_fld (val_var rfl) p1.pg N.C.cl N.C.cells pf_cells) (val_var rfl) p1.ct hj hf ?_
        refine ⟨by show 2 ≤ sizeLine; decide, fun p np => ?_⟩
        refine k ?_ _ _ (s1.trans (same_upd np)) ?_
        · unfold srcOk
          rw [decide_eq_true c2, Bool.or_true, Bool.true_or]
        · unfold srcD
          rw [if_neg c1, if_pos c2]
          exact tr2 upd_same (.str _) (.int _)
      · rw [decide_eq_false c2]
        refine iteF ?_
        dsimp only [tNext, tSeq, tAsg]
        refine (val_call (va_cons (val_var rfl) (va_cons (val_fld (val_var rfl) p1.pg N.C.cl N.C.worths pf_worths) va_nil)) fun Q q => ⟨z, T.w, rfl, by omega, q⟩) _ ?_
        refine meth_run (val_fld (val_var rfl) p1.pg N.C.cl N.C.lines pf_lines) p1.li.o (lf_no (by decide +kernel) (by decide +kernel)) ?_
        refine (val_i0b (val_var rfl) val_c) _ ?_
        have e : srcOk T z = decide (0 ≤ numOf z T.w) := by
          unfold srcOk
          rw [decide_eq_false c1, decide_eq_false c2]
          rfl
        refine ⟨A.l, A.dl, A.r, T.rows, n, _, _, rfl, p1.li, rfl, fun e2 => ?_, fun e2 => (ke (e.trans e2)).mono s1⟩
        refine ⟨_, rfl, by show 2 ≤ sizeLine; decide, fun p np => ?_⟩
        refine k (e.trans e2) _ _ (s1.trans (same_upd np)) ?_
        unfold srcD
        rw [if_neg c1, if_neg c2]
        exact tr2 upd_same (.str _) (.int _)
theorem dec_len {l : List V} {n : Nat} : decide (V.int (l.length : Int) = V.int (n : Int)) = decide (l.length = n) := by
  by_cases h : l.length = n
  · rw [h, decide_eq_true rfl, decide_eq_true rfl]
  · rw [decide_eq_false h]
    exact decide_eq_false fun e => by
      injection e with e
      omega
theorem ok_condition {f fS : Addr} {fd dS : FuncData} (N : En P w K mg base CL CP CT fNeed fNum fDoor dNeed dNum dDoor) (F : Fun K "condition" "Program.condition" s_Program_condition f fd) (M_source : Mf K CP "source" "Program.source" s_Program_source fS dS ["self", "word"]) : FnOk P w K mg base (L2.CX P w) 6 f fd ["self", "words"] (spCond CL CP CT) := by
  have G_source : FnOk P w K mg base (L2.CX P w) 5 fS dS ["self", "word"] (spSource CL CP CT) := ok_source N M_source.F
  refine F.okX sc_Program_condition (fun vs H Q E h => ?_) (fun cdv A0 outer s H vs Q E hr h => ?_)
  · obtain ⟨A, T, H0, n, m, xs, kvs, S, p, ws, rfl, _⟩ := h
    rfl
  · obtain ⟨A, T, H0, n, m, xs, kvs, S, p, ws, rfl, pw, tx, hp, hz, k, ke⟩ := h
    refine ⟨_, (pss_cons (ps_if (PW.pt (pw_and (pt_cmpR op_eq (pe_callB call_len_seq (by rfl) N.B.m_len PySem.boot_len (pa_cons (pv 1) pa_nil)) pe_int (nomark _)) (pw_and1 (pt_cmpR op_in_seq (pe_ix ix_list (pv 1) pe_int (fun _ _ => rfl)) (pe_tup (pa_cons pe_str (pa_cons pe_str pa_nil))) (by rfl)))))
        (pss_one (ps_ret (pe_tup (pa_cons (pe_ix ix_list (pv 1) pe_int (fun _ _ => rfl)) pa_nil))))
        pss_nil)
      (pss_cons (ps_expr (pe_meth (pe_fld (pv 0) rfl) N.L.cl N.Mn.m N.Gn (hr.mono (by decide)) N.Mn.b .nil (pxp rfl rfl rfl rfl) (pa_cons (pe_and (pe_cmpR op_eq (pe_callB call_len_seq (by rfl) N.B.m_len PySem.boot_len (pa_cons (pv 1) pa_nil)) pe_int (nomark _)) (pe_one (pe_cmpR op_in_seq (pe_ix ix_list (pv 1) pe_int (fun _ _ => rfl)) (pe_tup (pa_cons pe_str (pa_cons pe_str pa_nil))) (by rfl)))) pa_nil)))
      (pss_one (ps_ret (pe_tup (pa_cons (pe_ix ix_list (pv 1) pe_int (fun _ _ => rfl)) (pa_cons (pe_meth (pv 0) N.C.cl M_source.m G_source (hr.mono (by decide)) M_source.b .nil (pxp rfl rfl rfl rfl) (pa_cons (pe_ix ix_list (pv 1) pe_int (fun _ _ => rfl)) pa_nil)) (pa_cons (pe_meth (pv 0) N.C.cl M_source.m G_source (hr.mono (by decide)) M_source.b .nil (pxp rfl rfl rfl rfl) (pa_cons (pe_ix ix_list (pv 1) pe_int (fun _ _ => rfl)) pa_nil)) pa_nil)))))))), ?_⟩
    have hL : (ws.map V.str).length = ws.length := List.length_map ..
    have sq : ∀ {H' : Hp}, Same H H' → SqL K H' p (ws.map V.str) := fun e => SqL.of (e _ _ hp)
    -- what stands behind the first test, once it is false
    have tail : ∀ H1 : Hp, Same H H1 → (decide (ws.length = 1) && decide (ws.getD 0 "" ∈ (["lost", "busy"] : List Str))) = false → (tSeq (tDrop (tMeth CL "need" (spNeed K CL CT) [] E (tFld K (tVar 0) "lines") (tCons (tAndV (tOp rEq (tCB (rLenSq K) (tCons (tVar 1) tNil)) (tC (.int 3))) (tOp (rIn K false) (tOp (rIxL K) (tVar 1) (tC (.int 1))) (tTup (tCons (tC (.str "=")) (tCons (tC (.str "!=")) tNil))))) tNil)))
        (tRet (tTup (tCons (tOp (rIxL K) (tVar 1) (tC (.int 1))) (tCons (tMeth CP "source" (spSource CL CP CT) [] E (tVar 0) (tCons (tOp (rIxL K) (tVar 1) (tC (.int 0))) tNil)) (tCons (tMeth CP "source" (spSource CL CP CT) [] E (tVar 0) (tCons (tOp (rIxL K) (tVar 1) (tC (.int 2))) tNil)) tNil))))))
        { nx := fun _ H' => Q .non H', rt := Q } [some (.ref A.g), some (.ref p)] H1 := by
      intro H1 s1 hn
      have p1 := pw.mono s1
      refine meth_run (val_fld (val_var rfl) p1.pg N.C.cl N.C.lines pf_lines) p1.li.o (lf_no (by decide +kernel) (by decide +kernel)) ?_
      refine (val_op (val_lenL (val_var rfl) (sq s1)) val_c fun Q q => ⟨rfl, q⟩) _ ⟨_, rfl, ?_⟩
      rw [show (V.int 3) = V.int ((3 : Nat) : Int) from rfl, dec_len, hL]
      have e0 : condOk T ws = (decide (ws.length = 3) && decide (ws.getD 1 "" ∈ (["=", "!="] : List Str)) && srcOk T (ws.getD 0 "") && srcOk T (ws.getD 2 "")) := by
        unfold condOk
        rw [hn, Bool.false_or]
      by_cases c : ws.length = 3
      · obtain ⟨a, b, d, rfl⟩ : ∃ a b d, ws = [a, b, d] := by
          match ws, c with
          | [a, b, d], _ => exact ⟨a, b, d, rfl⟩
        rw [decide_eq_true c]
        refine iteT (run_in2 (val_ixL (val_var rfl) val_c (sq s1) (atI_nat (j := 1) rfl)) fun H2 s2 => ?_)
        have s12 := s1.trans s2
        have p2 := pw.mono s12
        refine ⟨A.l, A.dl, A.r, T.rows, n, _, _, rfl, p2.li, rfl, fun e2 => ?_, fun e2 => ErrK.mono (ke ?_) s12⟩
        · refine (val_ixL (val_var rfl) val_c (sq s12) (atI_nat (j := 1) rfl)) _ ?_
          have ez : condOk T [a, b, d] = (srcOk T a && srcOk T d) := by
            rw [e0]
            show (true && decide (b ∈ (["=", "!="] : List Str)) && srcOk T a && srcOk T d) = _
            rw [e2]
            rfl
          refine meth_run (val_var rfl) p2.pg (pf_no (by decide +kernel)) ?_
          refine (val_ixL (val_var rfl) val_c (sq s12) (atI_nat (j := 0) rfl)) _ ?_
          refine ⟨A, T, H0, n, m, xs, kvs, S, a, rfl, p2, tx, hz _ (by simp), fun ea H3 x s3 hx => ?_, fun ea => ErrK.mono (ke (by rw [ez, ea]; rfl)) s12⟩
          have s13 := s12.trans s3
          have p3 := pw.mono s13
          refine meth_run (val_var rfl) p3.pg (pf_no (by decide +kernel)) ?_
          refine (val_ixL (val_var rfl) val_c (sq s13) (atI_nat (j := 2) rfl)) _ ?_
          refine ⟨A, T, H0, n, m, xs, kvs, S, d, rfl, p3, tx, hz _ (by simp), fun ed H4 y s4 hy => ?_, fun ed => ErrK.mono (ke (by rw [ez, ed, Bool.and_false])) s13⟩
          refine ⟨by show 3 ≤ sizeLine; decide, fun q nq => ?_⟩
          exact k (by rw [ez, ea, ed]; rfl) _ _ ((s13.trans s4).trans (same_upd nq)) (tr3 upd_same (.str _) (hx.mono (s4.trans (same_upd nq))) (hy.mono (same_upd nq)))
        · rw [e0]
          show (true && decide (b ∈ (["=", "!="] : List Str)) && srcOk T a && srcOk T d) = _
          rw [e2]
          rfl
      · rw [decide_eq_false c]
        refine iteF ⟨A.l, A.dl, A.r, T.rows, n, _, false, rfl, p1.li, rfl, fun q => Bool.noConfusion q, fun _ => ErrK.mono (ke ?_) s1⟩
        rw [e0, decide_eq_false c]
        rfl
    refine (ans_eq (val_lenL (val_var rfl) (sq (Same.refl H))) val_c rfl rfl) _ ?_
    rw [show (V.int 1) = V.int ((1 : Nat) : Int) from rfl, dec_len, hL]
    by_cases c : ws.length = 1
    · obtain ⟨a, rfl⟩ : ∃ a, ws = [a] := by
        match ws, c with
        | [a], _ => exact ⟨a, rfl⟩
      rw [decide_eq_true c]
      refine iteT (run_in2 (val_ixL (val_var rfl) val_c (sq (Same.refl H)) (atI_nat (j := 0) rfl)) fun H1 s1 => ⟨_, rfl, ?_⟩)
      cases c2 : decide (a ∈ (["lost", "busy"] : List Str)) with
      | true =>
        refine iteT ((val_ixL (val_var rfl) val_c (sq s1) (atI_nat (j := 0) rfl)) _ ⟨by show 1 ≤ sizeLine; decide, fun q nq => ?_⟩)
        refine k ?_ _ _ (s1.trans (same_upd nq)) ?_
        case refine_2 =>
          unfold condD
          rw [if_pos (show (decide (([a] : List Str).length = 1) && decide (([a] : List Str).getD 0 "" ∈ (["lost", "busy"] : List Str))) = true by show (true && decide (a ∈ (["lost", "busy"] : List Str))) = true; rw [c2]; rfl)]
          exact tr1 upd_same (.str _)
        show (true && decide (a ∈ (["lost", "busy"] : List Str)) || _) = true
        rw [c2]
        rfl
      | false => exact iteF (tail H1 s1 (by show (true && decide (a ∈ (["lost", "busy"] : List Str))) = false; rw [c2]; rfl))
    · rw [decide_eq_false c]
      exact iteF (iteF (tail H (Same.refl H) (by rw [decide_eq_false c]; rfl)))
end
end K5
namespace K5
open PySem PySem.Spec PyProof.Rows L2
abbrev s_Program_ask_step : Stmt := inClass (topS 36) 8
theorem sc_Program_ask_step : FnScope ["self", "port", "door", "word", "source"] ["self", "port", "door", "word"] (defScope s_Program_ask_step) := ⟨rfl, rfl, rfl, by decide +kernel, rfl, by decide +kernel, by decide +kernel⟩
abbrev s_Program_plain_step : Stmt := inClass (topS 36) 7
theorem sc_Program_plain_step : FnScope ["self", "words", "word", "rest"] ["self", "words"] (defScope s_Program_plain_step) := ⟨rfl, rfl, rfl, by decide +kernel, rfl, by decide +kernel, by decide +kernel⟩
def askOk (T : Tx) (p d z : Str) : Bool := decide (p ∈ T.ports) && isDoor d && srcOk T z
def plainOk (T : Tx) (ws : List Str) : Bool := match ws with
  | [] => false
  | x :: r =>
    if (decide (x ∈ (["set", "add"] : List Str)) && decide (r.length = 2)) = true then decide (r.getD 0 "" ∈ T.cells) && srcOk T (r.getD 1 "")
    else if (decide (x = ("draw" : Str)) && decide (r.length = 1)) = true then decide (r.getD 0 "" ∈ T.cells)
    else if (decide (x = ("ask" : Str)) && decide (r.length = 3)) = true then askOk T (r.getD 0 "") (r.getD 1 "") (r.getD 2 "")
    else if (decide (x = ("answer" : Str)) && decide (r.length = 1)) = true then srcOk T (r.getD 0 "")
    else decide (ws = (["fail"] : List Str))
/-- the step that is read at line n behind len steps, and the asks then -/
def plainP (T : Tx) (ws : List Str) (n len : Nat) (as : List (Nat × PyData)) : PyData × List (Nat × PyData) := match ws with
  | [] => (.none, as)
  | x :: r =>
    if (decide (x ∈ (["set", "add"] : List Str)) && decide (r.length = 2)) = true then (.tuple [.str x, .int (ixS (r.getD 0 "") T.cells : Nat), srcD T (r.getD 1 "")], as)
    else if (decide (x = ("draw" : Str)) && decide (r.length = 1)) = true then (.tuple [.str x, .int (ixS (r.getD 0 "") T.cells : Nat)], as)
    else if (decide (x = ("ask" : Str)) && decide (r.length = 3)) = true then (.tuple [.str "ask", .str (r.getD 0 ""), .str (r.getD 1 ""), srcD T (r.getD 2 ""), .int n], putA as n (.tuple [.int ((len : Int) + 1), .str (r.getD 0 ""), .str (r.getD 1 "")]))
    else if (decide (x = ("answer" : Str)) && decide (r.length = 1)) = true then (.tuple [.str x, srcD T (r.getD 0 "")], as)
    else (.tuple [.str "fail"], as)
/-- what a step's reading leaves -/
def StepQ (CL CP : Addr) (A : Ad) (T : Tx) (H0 : Hp) (n m : Nat) (xs : List V) (kvs : List (Key × V)) (S : SD) (d : PyData) (as : List (Nat × PyData)) (Q : VK) : Prop :=
  ∀ (H' : Hp) (x : V) (kvs' : List (Key × V)), Wd CL CP A T H0 H' n m xs kvs' ⟨S.ds, as⟩ → kvs'.length ≤ kvs.length + 1 → Tr H' x d → Q x H'
def spAsk (CL CP CT : Addr) : Sp := fun vs H Q E => ∃ (A : Ad) (T : Tx) (H0 : Hp) (n m : Nat) (xs : List V) (kvs : List (Key × V)) (S : SD) (p d z : Str), vs = [.ref A.g, .str p, .str d, .str z] ∧ Wd CL CP A T H0 H n m xs kvs S ∧ TxOk T ∧
  d.length ≤ 14000 ∧ z.length ≤ 14000 ∧ kvs.length ≤ 1000 ∧ xs.length ≤ 1000 ∧
  (askOk T p d z = true → StepQ CL CP A T H0 n m xs kvs S (.tuple [.str "ask", .str p, .str d, srcD T z, .int n]) (putA S.as n (.tuple [.int ((xs.length : Int) + 1), .str p, .str d])) Q) ∧ (askOk T p d z = false → ErrK CT (.int n) H0 E)
def spPlain (CL CP CT : Addr) : Sp := fun vs H Q E => ∃ (A : Ad) (T : Tx) (H0 : Hp) (n m : Nat) (xs : List V) (kvs : List (Key × V)) (S : SD) (p : Addr) (ws : List Str), vs = [.ref A.g, .ref p] ∧ Wd CL CP A T H0 H n m xs kvs S ∧ TxOk T ∧
  H p = some (.lst (ws.map V.str)) ∧ ws ≠ [] ∧ (∀ z ∈ ws, PyData.strOk z = true ∧ z.length ≤ 14000) ∧ ws.length ≤ 14001 ∧ kvs.length ≤ 1000 ∧ xs.length ≤ 1000 ∧
  (plainOk T ws = true → StepQ CL CP A T H0 n m xs kvs S (plainP T ws n xs.length S.as).1 (plainP T ws n xs.length S.as).2 Q) ∧ (plainOk T ws = false → ErrK CT (.int n) H0 E)
theorem putK_le (kvs : List (Key × V)) (k : Key) (v : V) : (putK kvs k v).length ≤ kvs.length + 1 := by
  unfold putK
  split
  · rw [List.length_map]
    omega
  · rw [List.length_append]
    exact Nat.le_refl _
section
variable {P : Program} {w : World} {K : PySem.W.Frag} {mg : Str → Option Value} {base : Heap} {CL CP CT fNeed fNum fDoor : Addr} {dNeed dNum dDoor : FuncData}
theorem ok_ask_step {f fS : Addr} {fd dS : FuncData} (N : En P w K mg base CL CP CT fNeed fNum fDoor dNeed dNum dDoor) (F : Fun K "ask_step" "Program.ask_step" s_Program_ask_step f fd) (M_source : Mf K CP "source" "Program.source" s_Program_source fS dS ["self", "word"]) : FnOk P w K mg base (L2.CX P w) 6 f fd ["self", "port", "door", "word"] (spAsk CL CP CT) := by
  have G_source : FnOk P w K mg base (L2.CX P w) 5 fS dS ["self", "word"] (spSource CL CP CT) := ok_source N M_source.F
  refine F.okX sc_Program_ask_step (fun vs H Q E h => ?_) (fun cdv A0 outer s H vs Q E hr h => ?_)
  · obtain ⟨A, T, H0, n, m, xs, kvs, S, p, d, z, rfl, _⟩ := h
    rfl
  · obtain ⟨A, T, H0, n, m, xs, kvs, S, p, d, z, rfl, pw, tx, hd, hz, hkv, hxs, k, ke⟩ := h
    have Sc := sc_Program_ask_step
    refine ⟨_, (pss_cons (ps_expr (pe_meth (pe_fld (pv 0) rfl) N.L.cl N.Mn.m N.Gn (hr.mono (by decide)) N.Mn.b .nil (pxp rfl rfl rfl rfl) (pa_cons (pe_and (pe_cmpR op_in_seq (pv 1) (pe_fld (pv 0) rfl) (by rfl)) (pe_one (pe_call N.Gd (hr.mono (by decide)) (by rfl) N.Dd.g N.Dd.F.kp N.Dd.b .nil pass0 (pa_cons (pv 2) pa_nil)))) pa_nil)))
      (pss_cons (ps_set (i := 4) Sc.nd rfl (.inl rfl) (pe_meth (pv 0) N.C.cl M_source.m G_source (hr.mono (by decide)) M_source.b .nil (pxp rfl rfl rfl rfl) (pa_cons (pv 3) pa_nil)))
      (pss_cons (ps_dput (hu_of hr) (pe_fld (pv 0) rfl) (pe_fld (pe_fld (pv 0) rfl) rfl) (pe_tup (pa_cons (pe_op op_add (pe_callB call_len_seq (by rfl) N.B.m_len PySem.boot_len (pa_cons (pe_fld (pv 0) rfl) pa_nil)) pe_int) (pa_cons (pv 1) (pa_cons (pv 2) pa_nil)))) rfl)
      (pss_one (ps_ret (pe_tup (pa_cons pe_str (pa_cons (pv 1) (pa_cons (pv 2) (pa_cons (pv 4) (pa_cons (pe_fld (pe_fld (pv 0) rfl) rfl) pa_nil))))))))))), ?_⟩
    refine meth_run (val_fld (val_var rfl) pw.pg N.C.cl N.C.lines pf_lines) pw.li.o (lf_no (by decide +kernel) (by decide +kernel)) ?_
    refine (val_andV (val_inT (val_var rfl) (val_fld (val_var rfl) pw.pg N.C.cl N.C.ports pf_ports) (SqT.of pw.pt)) fun _ => val_call (va_cons (val_var rfl) va_nil) fun Q q => ⟨d, rfl, by omega, q⟩) _ ?_
    refine ⟨A.l, A.dl, A.r, T.rows, n, _, _, rfl, pw.li, rfl, fun e => ?_, fun e => ErrK.mono (ke (by unfold askOk; rw [e]; rfl)) pw.s0⟩
    have ea : askOk T p d z = srcOk T z := by
      unfold askOk
      rw [e]
      rfl
    dsimp only [tNext, tSeq, tAsg]
    refine meth_run (val_var rfl) pw.pg (pf_no (by decide +kernel)) ?_
    refine (val_var rfl) _ ?_
    refine ⟨A, T, H0, n, m, xs, kvs, S, z, rfl, pw, tx, hz, fun es H1 x s1 hx => ?_, fun es => ErrK.mono (ke (ea.trans es)) pw.s0⟩
    have p1 := pw.mono s1
    dsimp only [gName]
    -- self.asks[self.lines.at] = ..
    refine (val_i0 (val_lenL (val_fld (val_var rfl) p1.pg N.C.cl N.C.steps pf_steps) (SqL.of p1.st)) val_c) _ ?_
    refine ⟨_, rfl, _, rfl, by show 3 ≤ sizeLine; decide, fun q nq => ?_⟩
    have p2 := p1.mono (same_upd (o := .tup [.int ((xs.length : Int) + 1), .str p, .str d]) nq)
    refine (val_fld (val_var rfl) p2.pg N.C.cl N.C.asks pf_asks) _ ?_
    refine (val_fld (val_fld (val_var rfl) p2.pg N.C.cl N.C.lines pf_lines) p2.li.o N.L.cl N.L.na lf_at) _ ?_
    refine ⟨A.ak, _, rfl, DPut.k (k := .inl (n : Int)) p2.ak (small1000 hkv), ?_⟩
    have hx2 := hx.mono (same_upd (o := .tup [.int ((xs.length : Int) + 1), .str p, .str d]) nq)
    have hq2 : Tr (upd H1 q (.tup [.int ((xs.length : Int) + 1), .str p, .str d])) (.ref q) (.tuple [.int ((xs.length : Int) + 1), .str p, .str d]) := tr3 upd_same (.int _) (.str _) (.str _)
    generalize (upd H1 q (.tup [.int ((xs.length : Int) + 1), .str p, .str d])) = H2 at p2 hx2 hq2
    -- the dict has changed
    have nak : ∀ {b : Addr} {o : HO}, H2 b = some o → (∀ kv, o ≠ .dK kv) → b ≠ A.ak := fun h1 h2 e2 => by
      rw [e2, p2.ak] at h1
      exact h2 _ (Option.some.inj h1).symm
    have keep : ∀ {b : Addr} {o : HO}, H2 b = some o → (∀ kv, o ≠ .dK kv) → (upd H2 A.ak (.dK (putK kvs (.inl (n : Int)) (.ref q)))) b = some o := fun h1 h2 => by
      rw [upd_ne (nak h1 h2)]
      exact h1
    have nt : ∀ zs, H2 A.ak ≠ some (.tup zs) := fun zs => by rw [p2.ak]; exact fun e => nomatch e
    have p3 : Wd CL CP A T H0 (upd H2 A.ak (.dK (putK kvs (.inl (n : Int)) (.ref q)))) n m xs (putK kvs (.inl (n : Int)) (.ref q)) ⟨S.ds, putA S.as n (.tuple [.int ((xs.length : Int) + 1), .str p, .str d])⟩ := {
      s0 := fun b o h1 => by
        rw [upd_ne (ne_of_none h1 p2.ak0)]
        exact p2.s0 b o h1
      l0 := p2.l0
      g0 := p2.g0
      st0 := p2.st0
      ak0 := p2.ak0
      lg := p2.lg
      li := ⟨keep p2.li.o (fun _ z => nomatch z), keep p2.li.r (fun _ z => nomatch z), p2.li.le⟩
      pg := keep p2.pg (fun _ z => nomatch z)
      ct := by
        obtain ⟨ob, h1, h2⟩ := p2.ct
        exact ⟨ob, keep h1 (fun _ z => nomatch z), h2⟩
      pt := keep p2.pt (fun _ z => nomatch z)
      st := keep p2.st (fun _ z => nomatch z)
      sx := p2.sx.but nt
      ak := upd_same
      ax := (p2.ax.put hq2).but nt
      rst := p2.rst }
    have hx3 := hx2.but (o := .dK (putK kvs (.inl (n : Int)) (.ref q))) nt
    refine ⟨_, rfl, _, rfl, _, rfl, ?_⟩
    refine (val_fld (val_fld (val_var rfl) p3.pg N.C.cl N.C.lines pf_lines) p3.li.o N.L.cl N.L.na lf_at) _ ?_
    refine ⟨by show 5 ≤ sizeLine; decide, fun q2 nq2 => ?_⟩
    exact k (ea.trans es) _ _ _ (p3.mono (same_upd nq2)) (putK_le _ _ _) (.tup upd_same (.cons (.str _) (.cons (.str _) (.cons (.str _) (.cons (hx3.mono (same_upd nq2)) (.cons (.int _) .nil))))))
theorem dec_str {x y : Str} : decide (V.str x = V.str y) = decide (x = y) := by
  by_cases h : x = y
  · rw [h, decide_eq_true rfl, decide_eq_true rfl]
  · rw [decide_eq_false h]
    exact decide_eq_false fun e => by
      injection e with e
      exact h e
theorem ok_plain_step {f fS fC fA : Addr} {fd dS dC dA : FuncData} (N : En P w K mg base CL CP CT fNeed fNum fDoor dNeed dNum dDoor) (F : Fun K "plain_step" "Program.plain_step" s_Program_plain_step f fd) (M_source : Mf K CP "source" "Program.source" s_Program_source fS dS ["self", "word"]) (M_cell : Mf K CP "cell" "Program.cell" s_Program_cell fC dC ["self", "word"]) (M_ask_step : Mf K CP "ask_step" "Program.ask_step" s_Program_ask_step fA dA ["self", "port", "door", "word"]) :
    FnOk P w K mg base (L2.CX P w) 7 f fd ["self", "words"] (spPlain CL CP CT) := by
  have G_source : FnOk P w K mg base (L2.CX P w) 5 fS dS ["self", "word"] (spSource CL CP CT) := ok_source N M_source.F
  have G_cell : FnOk P w K mg base (L2.CX P w) 5 fC dC ["self", "word"] (spCell CL CP CT) := ok_cell N M_cell.F
  have G_ask_step : FnOk P w K mg base (L2.CX P w) 6 fA dA ["self", "port", "door", "word"] (spAsk CL CP CT) := ok_ask_step N M_ask_step.F M_source
  refine F.okX sc_Program_plain_step (fun vs H Q E h => ?_) (fun cdv A0 outer s H vs Q E hr h => ?_)
  · obtain ⟨A, T, H0, n, m, xs, kvs, S, p, ws, rfl, _⟩ := h
    rfl
  · obtain ⟨A, T, H0, n, m, xs, kvs, S, p, ws, rfl, pw, tx, hp, hne, hz, hwl, hkv, hxs, k, ke⟩ := h
    have Sc := sc_Program_plain_step
    refine ⟨_, (pss_cons (ps_asg (pv 1) (pg_star (by rfl) (pg_name (i := 2) Sc.nd rfl (.inl rfl)) (pg_name (i := 3) Sc.nd rfl (.inl rfl))))
      (pss_cons (ps_if (PW.pt (pw_and (pt_cmpR op_in_seq (pv 2) (pe_tup (pa_cons pe_str (pa_cons pe_str pa_nil))) (by rfl)) (pw_and1 (pt_cmpR op_eq (pe_callB call_len_seq (by rfl) N.B.m_len PySem.boot_len (pa_cons (pv 3) pa_nil)) pe_int (nomark _)))))
        (pss_one (ps_ret (pe_tup (pa_cons (pv 2) (pa_cons (pe_meth (pv 0) N.C.cl M_cell.m G_cell (hr.mono (by decide)) M_cell.b .nil (pxp rfl rfl rfl rfl) (pa_cons (pe_ix ix_list (pv 3) pe_int (fun _ _ => rfl)) pa_nil)) (pa_cons (pe_meth (pv 0) N.C.cl M_source.m G_source (hr.mono (by decide)) M_source.b .nil (pxp rfl rfl rfl rfl) (pa_cons (pe_ix ix_list (pv 3) pe_int (fun _ _ => rfl)) pa_nil)) pa_nil))))))
        pss_nil)
      (pss_cons (ps_if (PW.pt (pw_and (pt_cmpR op_eq (pv 2) pe_str (nomark _)) (pw_and1 (pt_cmpR op_eq (pe_callB call_len_seq (by rfl) N.B.m_len PySem.boot_len (pa_cons (pv 3) pa_nil)) pe_int (nomark _)))))
        (pss_one (ps_ret (pe_tup (pa_cons (pv 2) (pa_cons (pe_meth (pv 0) N.C.cl M_cell.m G_cell (hr.mono (by decide)) M_cell.b .nil (pxp rfl rfl rfl rfl) (pa_cons (pe_ix ix_list (pv 3) pe_int (fun _ _ => rfl)) pa_nil)) pa_nil)))))
        pss_nil)
      (pss_cons (ps_if (PW.pt (pw_and (pt_cmpR op_eq (pv 2) pe_str (nomark _)) (pw_and1 (pt_cmpR op_eq (pe_callB call_len_seq (by rfl) N.B.m_len PySem.boot_len (pa_cons (pv 3) pa_nil)) pe_int (nomark _)))))
        (pss_one (ps_ret (pe_meth (pv 0) N.C.cl M_ask_step.m G_ask_step (hr.mono (by decide)) M_ask_step.b .nil (pxp rfl rfl rfl rfl) (pa_cons (pe_ix ix_list (pv 3) pe_int (fun _ _ => rfl)) (pa_cons (pe_ix ix_list (pv 3) pe_int (fun _ _ => rfl)) (pa_cons (pe_ix ix_list (pv 3) pe_int (fun _ _ => rfl)) pa_nil))))))
        pss_nil)
      (pss_cons (ps_if (PW.pt (pw_and (pt_cmpR op_eq (pv 2) pe_str (nomark _)) (pw_and1 (pt_cmpR op_eq (pe_callB call_len_seq (by rfl) N.B.m_len PySem.boot_len (pa_cons (pv 3) pa_nil)) pe_int (nomark _)))))
        (pss_one (ps_ret (pe_tup (pa_cons (pv 2) (pa_cons (pe_meth (pv 0) N.C.cl M_source.m G_source (hr.mono (by decide)) M_source.b .nil (pxp rfl rfl rfl rfl) (pa_cons (pe_ix ix_list (pv 3) pe_int (fun _ _ => rfl)) pa_nil)) pa_nil)))))
        pss_nil)
      (pss_cons (ps_expr (pe_meth (pe_fld (pv 0) rfl) N.L.cl N.Mn.m N.Gn (hr.mono (by decide)) N.Mn.b .nil (pxp rfl rfl rfl rfl) (pa_cons (pe_cmpR (op_eqD (by have := hr.units; exact this)) (pv 1) (pe_lst (pa_cons pe_str pa_nil)) (nomark _)) pa_nil)))
      (pss_one (ps_ret (pe_tup (pa_cons pe_str pa_nil)))))))))), ?_⟩
    obtain ⟨x, r, rfl⟩ : ∃ x r, ws = x :: r := by
      cases ws with
      | nil => exact absurd rfl hne
      | cons x r => exact ⟨x, r, rfl⟩
    refine ⟨_, rfl, p, .str x, r.map V.str, rfl, SqL.of hp, by rw [List.length_map]; rw [List.length_cons] at hwl; omega, fun q nq => ?_⟩
    have s1 : Same H (upd H q (.lst (r.map V.str))) := same_upd nq
    have hq : (upd H q (.lst (r.map V.str))) q = some (.lst (r.map V.str)) := upd_same
    generalize (upd H q (.lst (r.map V.str))) = H1 at s1 hq
    have hL : (r.map V.str).length = r.length := List.length_map ..
    have sq : ∀ {H' : Hp}, Same H1 H' → SqL K H' q (r.map V.str) := fun e => SqL.of (e _ _ hq)
    have hr0 : ∀ z ∈ r, z.length ≤ 14000 := fun z h => (hz z (List.mem_cons_of_mem _ h)).2
    have err : ∀ {H' : Hp}, Same H H' → plainOk T (x :: r) = false → ErrK CT (.int n) H' E := fun e h => ErrK.mono (ke h) (pw.s0.trans e)
    -- set, add
    refine run_in2 (val_var rfl) fun H2 s2 => ⟨_, rfl, ?_⟩
    have s12 := s1.trans s2
    have p2 := pw.mono s12
    have vlen : ∀ {H' : Hp} (e : Same H1 H') (j : Nat), Ans (tTest (tOp rEq (tCB (rLenSq K) (tCons (tVar 3) tNil)) (tC (.int (j : Int))))) [some (.ref A.g), some (.ref p), some (.str x), some (.ref q)] H' (decide (r.length = j)) := fun e j Q2 q2 => by
      refine (ans_eq (val_lenL (val_var rfl) (sq e)) val_c rfl rfl) _ ?_
      rw [dec_len, hL]
      exact q2
    have vix : ∀ {H' : Hp} (e : Same H1 H') (j : Nat) (z : Str), r[j]? = some z → Val (tOp (rIxL K) (tVar 3) (tC (.int (j : Int)))) [some (.ref A.g), some (.ref p), some (.str x), some (.ref q)] H' (.str z) := fun e j z hj =>
      val_ixL (val_var rfl) val_c (sq e) (atI_nat (by rw [List.getElem?_map, hj]; rfl))
    have vis : ∀ {H' : Hp} (y : Str), Ans (tTest (tOp rEq (tVar 2) (tC (.str y)))) [some (.ref A.g), some (.ref p), some (.str x), some (.ref q)] H' (decide (x = y)) := fun y Q2 q2 => by
      refine (ans_eq2 (val_var rfl) val_c rfl) _ ?_
      rw [dec_str]
      exact q2
    have ePp : plainP T (x :: r) n xs.length S.as = (if (decide (x ∈ (["set", "add"] : List Str)) && decide (r.length = 2)) = true then (PyData.tuple [.str x, .int (ixS (r.getD 0 "") T.cells : Nat), srcD T (r.getD 1 "")], S.as)
      else if (decide (x = ("draw" : Str)) && decide (r.length = 1)) = true then (.tuple [.str x, .int (ixS (r.getD 0 "") T.cells : Nat)], S.as)
      else if (decide (x = ("ask" : Str)) && decide (r.length = 3)) = true then (.tuple [.str "ask", .str (r.getD 0 ""), .str (r.getD 1 ""), srcD T (r.getD 2 ""), .int n], putA S.as n (.tuple [.int ((xs.length : Int) + 1), .str (r.getD 0 ""), .str (r.getD 1 "")]))
      else if (decide (x = ("answer" : Str)) && decide (r.length = 1)) = true then (.tuple [.str x, srcD T (r.getD 0 "")], S.as)
      else (.tuple [.str "fail"], S.as)) := rfl
    have ePl : plainOk T (x :: r) = (if (decide (x ∈ (["set", "add"] : List Str)) && decide (r.length = 2)) = true then decide (r.getD 0 "" ∈ T.cells) && srcOk T (r.getD 1 "")
      else if (decide (x = ("draw" : Str)) && decide (r.length = 1)) = true then decide (r.getD 0 "" ∈ T.cells)
      else if (decide (x = ("ask" : Str)) && decide (r.length = 3)) = true then askOk T (r.getD 0 "") (r.getD 1 "") (r.getD 2 "")
      else if (decide (x = ("answer" : Str)) && decide (r.length = 1)) = true then srcOk T (r.getD 0 "")
      else decide ((x :: r) = (["fail"] : List Str))) := rfl
    have st1 : ∀ Q2 : Bool → Hp → Prop, Q2 (decide (x ∈ (["set", "add"] : List Str)) && decide (r.length = 2)) H2 → (if decide (x ∈ (["set", "add"] : List Str)) = true then tTest (tOp rEq (tCB (rLenSq K) (tCons (tVar 3) tNil)) (tC (.int 2))) [some (.ref A.g), some (.ref p), some (.str x), some (.ref q)] H2 Q2 else Q2 false H2) := by
      intro Q2
      cases decide (x ∈ (["set", "add"] : List Str)) with
      | true => exact fun q2 => iteT (vlen s2 2 _ (by rw [Bool.true_and] at q2; exact q2))
      | false => exact fun q2 => iteF q2
    refine st1 _ ?_
    cases c1 : (decide (x ∈ (["set", "add"] : List Str)) && decide (r.length = 2)) with
    | true =>
      rw [c1, if_pos rfl] at ePl ePp
      rw [ePp] at k
      obtain ⟨a, b, rfl⟩ : ∃ a b, r = [a, b] := by
        rw [Bool.and_eq_true] at c1
        match r, of_decide_eq_true c1.2 with
        | [a, b], _ => exact ⟨a, b, rfl⟩
      have ePl' : plainOk T [x, a, b] = (decide (a ∈ T.cells) && srcOk T b) := ePl
      refine iteT ?_
      dsimp only [tRet, tTup]
      refine (val_var rfl) _ ?_
      refine meth_run (val_var rfl) p2.pg (pf_no (by decide +kernel)) ?_
      refine (vix s2 0 a rfl) _ ?_
      refine ⟨A, T, H0, n, m, xs, kvs, S, a, rfl, p2, tx, fun hc => ?_, fun hc => err s12 (by rw [ePl', decide_eq_false hc]; rfl)⟩
      refine meth_run (val_var rfl) p2.pg (pf_no (by decide +kernel)) ?_
      refine (vix s2 1 b rfl) _ ?_
      refine ⟨A, T, H0, n, m, xs, kvs, S, b, rfl, p2, tx, hr0 _ (by simp), fun hs H3 y s3 hy => ?_, fun hs => err s12 (by rw [ePl', hs, Bool.and_false])⟩
      refine ⟨by show 3 ≤ sizeLine; decide, fun o no => ?_⟩
      exact k (by rw [ePl', decide_eq_true hc, hs]; rfl) _ _ _ ((p2.mono s3).mono (same_upd no)) (Nat.le_succ _) (tr3 upd_same (.str _) (.int _) (hy.mono (same_upd no)))
    | false =>
      rw [c1, if_neg Bool.false_ne_true] at ePl ePp
      refine iteF ?_
      dsimp only [tNext, tSeq, tIfS]
      -- draw
      refine (ans_and3 (vis "draw") fun _ => vlen s2 1) _ ?_
      cases c2 : (decide (x = ("draw" : Str)) && decide (r.length = 1)) with
      | true =>
        rw [c2, if_pos rfl] at ePl ePp
        rw [ePp] at k
        obtain ⟨a, rfl⟩ : ∃ a, r = [a] := by
          rw [Bool.and_eq_true] at c2
          match r, of_decide_eq_true c2.2 with
          | [a], _ => exact ⟨a, rfl⟩
        have ePl' : plainOk T [x, a] = decide (a ∈ T.cells) := ePl
        refine iteT ?_
        dsimp only [tRet, tTup]
        refine (val_var rfl) _ ?_
        refine meth_run (val_var rfl) p2.pg (pf_no (by decide +kernel)) ?_
        refine (vix s2 0 a rfl) _ ?_
        refine ⟨A, T, H0, n, m, xs, kvs, S, a, rfl, p2, tx, fun hc => ?_, fun hc => err s12 (by rw [ePl', decide_eq_false hc])⟩
        refine ⟨by show 2 ≤ sizeLine; decide, fun o no => ?_⟩
        exact k (by rw [ePl', decide_eq_true hc]) _ _ _ (p2.mono (same_upd no)) (Nat.le_succ _) (tr2 upd_same (.str _) (.int _))
      | false =>
        rw [c2, if_neg Bool.false_ne_true] at ePl ePp
        refine iteF ?_
        -- ask
        refine (ans_and3 (vis "ask") fun _ => vlen s2 3) _ ?_
        cases c3 : (decide (x = ("ask" : Str)) && decide (r.length = 3)) with
        | true =>
          rw [c3, if_pos rfl] at ePl ePp
          rw [ePp] at k
          obtain ⟨a, b, d, rfl⟩ : ∃ a b d, r = [a, b, d] := by
            rw [Bool.and_eq_true] at c3
            match r, of_decide_eq_true c3.2 with
            | [a, b, d], _ => exact ⟨a, b, d, rfl⟩
          have ePl' : plainOk T [x, a, b, d] = askOk T a b d := ePl
          refine iteT ?_
          refine meth_run (val_var rfl) p2.pg (pf_no (by decide +kernel)) ?_
          refine (vix s2 0 a rfl) _ ?_
          refine (vix s2 1 b rfl) _ ?_
          refine (vix s2 2 d rfl) _ ?_
          exact ⟨A, T, H0, n, m, xs, kvs, S, a, b, d, rfl, p2, tx, hr0 _ (by simp), hr0 _ (by simp), hkv, hxs, fun hs => k (ePl'.trans hs), fun hs => ke (ePl'.trans hs)⟩
        | false =>
          rw [c3, if_neg Bool.false_ne_true] at ePl ePp
          refine iteF ?_
          -- answer
          refine (ans_and3 (vis "answer") fun _ => vlen s2 1) _ ?_
          cases c4 : (decide (x = ("answer" : Str)) && decide (r.length = 1)) with
          | true =>
            rw [c4, if_pos rfl] at ePl ePp
            rw [ePp] at k
            obtain ⟨a, rfl⟩ : ∃ a, r = [a] := by
              rw [Bool.and_eq_true] at c4
              match r, of_decide_eq_true c4.2 with
              | [a], _ => exact ⟨a, rfl⟩
            have ePl' : plainOk T [x, a] = srcOk T a := ePl
            refine iteT ?_
            dsimp only [tRet, tTup]
            refine (val_var rfl) _ ?_
            refine meth_run (val_var rfl) p2.pg (pf_no (by decide +kernel)) ?_
            refine (vix s2 0 a rfl) _ ?_
            refine ⟨A, T, H0, n, m, xs, kvs, S, a, rfl, p2, tx, hr0 _ (by simp), fun hs H3 y s3 hy => ?_, fun hs => err s12 (ePl'.trans hs)⟩
            refine ⟨by show 2 ≤ sizeLine; decide, fun o no => ?_⟩
            exact k (ePl'.trans hs) _ _ _ ((p2.mono s3).mono (same_upd no)) (Nat.le_succ _) (tr2 upd_same (.str _) (hy.mono (same_upd no)))
          | false =>
            rw [c4, if_neg Bool.false_ne_true] at ePl ePp
            refine iteF ?_
            try dsimp only [tNext, tSeq, tDrop]
            -- fail
            refine meth_run (val_fld (val_var rfl) p2.pg N.C.cl N.C.lines pf_lines) p2.li.o (lf_no (by decide +kernel) (by decide +kernel)) ?_
            refine (val_var rfl) _ ?_
            refine ⟨by show 1 ≤ sizeLine; decide, fun o no => ?_⟩
            have s3 := same_upd (o := .lst [V.str "fail"]) no
            have p3 := p2.mono s3
            refine ⟨.list ((x :: r).map PyData.str), .list (([("fail" : Str)] : List Str).map PyData.str), .lst (SqL.of (s3 _ _ (s12 _ _ hp))) (dpAll_strs _), .lst (SqL.of upd_same) (dpAll_strs ["fail"]), shaped_strs fun y hy => (hz y hy).1, by decide +kernel, ?_⟩
            have e : PyData.eqv (.list ((x :: r).map PyData.str)) (.list ((["fail"] : List Str).map PyData.str)) = decide ((x :: r) = (["fail"] : List Str)) := by
              rw [PyData.eqv]
              exact eqv_strs _ _
            rw [e]
            refine ⟨A.l, A.dl, A.r, T.rows, n, _, _, rfl, p3.li, rfl, fun e2 => ?_, fun e2 => err (s12.trans s3) (ePl.trans e2)⟩
            refine ⟨by show 1 ≤ sizeLine; decide, fun o2 no2 => ?_⟩
            rw [ePp] at k
            exact k (ePl.trans e2) _ _ _ (p3.mono (same_upd no2)) (Nat.le_succ _) (tr1 upd_same (.str _))
end
end K5
namespace K5
open PySem PySem.Spec PyProof.Rows L2
/-! ### xs[i] += (v,) -/
theorem no_tup_iadd : typeLookup (.type "tuple") (dunderI "add") = pure none := by
  rw [typeLookup_type, builtinLookup_eq_fast]
  kernel_rfl
def rCatN (K : PySem.W.Frag) : R2 := fun x y H Q => ∃ (a b : Addr) (xs ys : List V), x = .ref a ∧ y = .ref b ∧ SqT K H a xs ∧ SqT K H b ys ∧ xs ≠ [] ∧ ys ≠ [] ∧ xs.length + ys.length ≤ sizeLine ∧ ∀ p, H p = none → Q (.ref p) (upd H p (.tup (xs ++ ys)))
theorem vals_ne {xs : List V} {us : List Value} (r : Vals xs us) (h : xs ≠ []) : us.toArray.isEmpty = false := by
  cases r with
  | nil => exact absurd rfl h
  | cons _ _ => simp
theorem ip_catN {X : Cx} : PIp X .Add (rCatN X.K) := by
  intro pins s σ H x y v u Q I rx ry h
  obtain ⟨a, b, xs, ys, ex, ey, ha, hb, nx, ny, hz, q⟩ := h
  subst ex
  subst ey
  cases rx
  cases ry
  obtain ⟨us, r1, t1, _⟩ := I.tuple ha
  obtain ⟨vs, r2, t2, _⟩ := I.tuple hb
  have l1 := r1.length
  have l2 := r2.length
  have hf := I.hok.fresh (Nat.le_refl s.heap.objs.size)
  have new : Inv X pins σ (upd H s.heap.objs.size (.tup (xs ++ ys))) { s with heap := s.heap.push { cls := .type "tuple", data := .seq (us.toArray ++ vs.toArray) } } := by
    refine I.laid (t' := s.toks) (fun c o e => Heap.get?_push_of_some _ e) (Nat.le_refl _) ?_
    refine ⟨by rw [List.length_append]; exact hz, us ++ vs, r1.append r2, ?_⟩
    have e : (us ++ vs).toArray = us.toArray ++ vs.toArray := by simp
    rw [e]
    exact IsTup.new _ _
  obtain ⟨⟨c1, d1, x1, sl1⟩, g1, k1, n1, w1⟩ := id t1
  obtain ⟨⟨c2, d2, x2, sl2⟩, g2, k2, n2, w2⟩ := id t2
  simp only at k1 w1 k2 w2
  subst k1 w1 k2 w2
  refine wpAny_inplaceOp_concat ⟨_, g1, rfl⟩ ⟨_, g2, rfl⟩ no_tup_iadd noFill_tuple_add seq_tuple_add (call_meets PySem.F.slot_tuple_add ⟨_, g1, rfl⟩ PySem.F.entry_tuple_add (PySem.F.args_tuple_add_2 _ _)
    (tuple_addW2 a b us.toArray vs.toArray n1 n2 d1 d2 sl1 sl2 (by rw [vals_ne r1 nx]; exact Bool.false_ne_true) (by rw [vals_ne r2 ny]; exact Bool.false_ne_true) (by rw [List.size_toArray, List.size_toArray, ← l1, ← l2]; exact hz)) ⟨g1, g2, ?_⟩)
  exact ⟨.ref s.heap.objs.size, _, new, rfl, q _ hf⟩
def rGetN (K : PySem.W.Frag) : R2 := fun o i H Q => ∃ (p : Addr) (xs : List V) (j : Nat) (v : V), o = .ref p ∧ i = .int j ∧ SqL K H p xs ∧ xs[j]? = some v ∧ Q v H
theorem get_list {X : Cx} : PGet X (rGetN X.K) := by
  intro pins s σ H o i ov iv Q I ro ri h
  obtain ⟨p, xs, j, v, eo, ei, hS, hj, q⟩ := h
  subst eo
  subst ei
  cases ro
  obtain ⟨t, et⟩ := ri
  subst et
  obtain ⟨us, r, pl, hz⟩ := I.list hS
  obtain ⟨u, hu, ru⟩ := r.get hj
  have hl : j < xs.length := (List.getElem?_eq_some_iff.mp hj).1
  have hs : sizeLine = 16777216 := by decide
  exact wpAny_getItem_list pl.isList (by omega) (by omega) (by rw [Int.toNat_natCast, List.getElem?_toArray]; exact hu) ⟨v, H, I, ru, q⟩
/-- xs[j] += (v,): the item is a tuple of one item at least -/
theorem aug_run {K : PySem.W.Frag} {to ti te : TE} {D : Ends} {σ : L2.St} {H : Hp} {p a : Addr} {xs ys : List V} {j : Nat} {v y : V} (ho : Val to σ H (.ref p)) (hi : Val ti σ H (.int j)) (he : Val te σ H v)
    (hp : H p = some (.lst xs)) (hj : xs[j]? = some (.ref a)) (ha : H a = some (.tup (y :: ys))) (hy : ys.length ≤ 1000)
    (h : ∀ (H' : Hp) (b : Addr), Same H H' → H' b = some (.tup (y :: ys ++ [v])) → D.nx σ (upd H' p (.lst (xs.set j (.ref b))))) :
    tAugS to ti (tTup (tCons te tNil)) (rGetN K) (rCatN K) rSetL D σ H := by
  refine ho _ (hi _ ⟨p, xs, j, .ref a, rfl, rfl, SqL.of hp, hj, ?_⟩)
  refine he _ ⟨by show 1 ≤ sizeLine; decide, fun q nq => ?_⟩
  have s1 := same_upd (o := .tup [v]) nq
  refine ⟨a, q, y :: ys, [v], rfl, rfl, SqT.of (s1 _ _ ha), SqT.of upd_same, (fun e => nomatch e), (fun e => nomatch e), by simp only [List.length_cons, List.length_nil]; exact Nat.le_trans (show ys.length + 1 + (0 + 1) ≤ 10000000 by omega) (by decide), fun b nb => ?_⟩
  have s2 := same_upd (o := .tup (y :: ys ++ [v])) nb
  have hl : j < xs.length := (List.getElem?_eq_some_iff.mp hj).1
  refine ⟨p, xs, j, j, rfl, rfl, s2 _ _ (s1 _ _ hp), ?_, h _ b (s1.trans s2) upd_same⟩
  unfold ixN
  rw [if_pos (by omega), if_pos (by omega), Int.toNat_natCast]
/-! ### the reader's state, changed -/
section
variable {CL CP : Addr} {A : Ad} {T : Tx} {H0 H H' : Hp} {n m : Nat} {xs ys : List V} {kvs : List (Key × V)} {S : SD} {es : List PyData}
theorem FT.but {o : HO} {b a : Addr} {zs : List V} (h : FT H a zs) (hb : ∀ ob zs, H b ≠ some (.frz ob (.tup zs))) : FT (upd H b o) a zs := by
  obtain ⟨ob, h1, h2⟩ := h
  exact ⟨ob, by rw [upd_ne (fun e => hb _ _ (e ▸ h1))]; exact h1, h2⟩
theorem at_but {o u : HO} {a b : Addr} (h : H a = some u) (hb : H b ≠ some u) : (upd H b o) a = some u := by
  have e : a ≠ b := fun z => hb (by rw [← z]; exact h)
  rw [upd_ne e]
  exact h
/-- the list of steps is another one -/
theorem Wd.steps (p : Wd CL CP A T H0 H n m xs kvs S) (hy : Trs H ys es) : Wd CL CP A T H0 (upd H A.st (.lst ys)) n m ys kvs ⟨es, S.as⟩ where
  s0 := fun b o h => by rw [upd_ne (ne_of_none h p.st0)]; exact p.s0 b o h
  l0 := p.l0
  g0 := p.g0
  st0 := p.st0
  ak0 := p.ak0
  lg := p.lg
  li := ⟨at_but p.li.o (by rw [p.st]; exact fun e => nomatch e), by rw [upd_ne p.rst]; exact p.li.r, p.li.le⟩
  pg := at_but p.pg (by rw [p.st]; exact fun e => nomatch e)
  ct := p.ct.but fun _ _ => by rw [p.st]; exact fun e => nomatch e
  pt := at_but p.pt (by rw [p.st]; exact fun e => nomatch e)
  st := upd_same
  sx := hy.but fun _ => by rw [p.st]; exact fun e => nomatch e
  ak := at_but p.ak (by rw [p.st]; exact fun e => nomatch e)
  ax := p.ax.but fun _ => by rw [p.st]; exact fun e => nomatch e
  rst := p.rst
/-- one statement more is counted -/
theorem Wd.count (p : Wd CL CP A T H0 H n m xs kvs S) (k : Nat) : Wd CL CP A T H0 (upd H A.g (.ins CP A.dg (pf A T k))) n k xs kvs S where
  s0 := fun b o h => by rw [upd_ne (ne_of_none h p.g0)]; exact p.s0 b o h
  l0 := p.l0
  g0 := p.g0
  st0 := p.st0
  ak0 := p.ak0
  lg := p.lg
  li := ⟨by rw [upd_ne p.lg]; exact p.li.o, at_but p.li.r (by rw [p.pg]; exact fun e => nomatch e), p.li.le⟩
  pg := upd_same
  ct := p.ct.but fun _ _ => by rw [p.pg]; exact fun e => nomatch e
  pt := at_but p.pt (by rw [p.pg]; exact fun e => nomatch e)
  st := at_but p.st (by rw [p.pg]; exact fun e => nomatch e)
  sx := p.sx.but fun _ => by rw [p.pg]; exact fun e => nomatch e
  ak := at_but p.ak (by rw [p.pg]; exact fun e => nomatch e)
  ax := p.ax.but fun _ => by rw [p.pg]; exact fun e => nomatch e
  rst := p.rst
/-- the next line -/
theorem Wd.step (p : Wd CL CP A T H0 H n m xs kvs S) {k : Nat} (s : SameBut A.l H H') (l : LinesAt CL H' A.l A.dl A.r T.rows k) : Wd CL CP A T H0 H' k m xs kvs S where
  s0 := fun b o h => s b o (ne_of_none h p.l0) (p.s0 b o h)
  l0 := p.l0
  g0 := p.g0
  st0 := p.st0
  ak0 := p.ak0
  lg := p.lg
  li := l
  pg := s _ _ p.lg.symm p.pg
  ct := by
    obtain ⟨ob, h1, h2⟩ := p.ct
    exact ⟨ob, s _ _ (ne_of h1 p.li.o (fun e => nomatch e)) h1, h2⟩
  pt := s _ _ (ne_of p.pt p.li.o (fun e => nomatch e)) p.pt
  st := s _ _ (ne_of p.st p.li.o (fun e => nomatch e)) p.st
  sx := p.sx.keep fun a zs h1 => s _ _ (ne_of h1 p.li.o (fun e => nomatch e)) h1
  ak := s _ _ (ne_of p.ak p.li.o (fun e => nomatch e)) p.ak
  ax := p.ax.keep fun a zs h1 => s _ _ (ne_of h1 p.li.o (fun e => nomatch e)) h1
  rst := p.rst
end
end K5
namespace K5
open PySem PySem.Spec PyProof.Rows L2
/-! ### the mirror of blocks: the next line, how many statements were read, the further steps, the asks; or the bad line -/
abbrev Ak := List (Nat × PyData)
abbrev Res := Except Nat (Nat × Nat × List PyData × Ak)
def Res.K (r : Res) (q : Nat → Nat → List PyData → Ak → Prop) (e : Nat → Prop) : Prop := match r with
  | .ok (a, b, c, d) => q a b c d
  | .error n => e n
abbrev Sub := Bool → Nat → Nat → Nat → Ak → Res
def headOk (T : Tx) (dp : Nat) (ws : List Str) : Bool := decide (dp < 3) && condOk T (ws.drop 1)
def unlD (T : Tx) (ws : List Str) (k : Nat) : PyData := .tuple [.str "unless", condD T (ws.drop 1), .int (k : Nat)]
def jmpD (k : Nat) : PyData := .tuple [.str "jump", .int (k : Nat)]
def whileR (T : Tx) (sub : Sub) (dp : Nat) (ws : List Str) (n m len : Nat) (as : Ak) : Res :=
  if headOk T dp ws = true then match sub true (n + 1) m (len + 1) as with
    | .ok (n1, m1, more, as1) => .ok (n1, m1, unlD T ws (len + 1 + more.length + 1) :: (more ++ [jmpD len]), as1)
    | .error e => .error e
  else .error n
def elseR (T : Tx) (sub : Sub) (dp : Nat) (ws : List Str) (len n m : Nat) (more : List PyData) (as : Ak) : Res :=
  if decide (wordsAt T.rows n dp = (["else"] : List Str)) = true then match sub false (n + 1) m (len + 1 + more.length + 1) as with
    | .ok (n2, m2, more2, as2) => .ok (n2, m2, unlD T ws (len + 1 + more.length + 1) :: (more ++ jmpD (len + 1 + more.length + 1 + more2.length) :: more2), as2)
    | .error e => .error e
  else .ok (n, m, unlD T ws (len + 1 + more.length) :: more, as)
def ifR (T : Tx) (sub : Sub) (dp : Nat) (ws : List Str) (n m len : Nat) (as : Ak) : Res :=
  if headOk T dp ws = true then match sub false (n + 1) m (len + 1) as with
    | .ok (n1, m1, more, as1) => elseR T sub dp ws len n1 m1 more as1
    | .error e => .error e
  else .error n
def stmtR (T : Tx) (sub : Sub) (dp : Nat) (ws : List Str) (n m len : Nat) (as : Ak) : Res :=
  if decide (ws.getD 0 "" = ("if" : Str)) = true then ifR T sub dp ws n m len as
  else if decide (ws.getD 0 "" = ("while" : Str)) = true then whileR T sub dp ws n m len as
  else if plainOk T ws = true then .ok (n + 1, m, [(plainP T ws n len as).1], (plainP T ws n len as).2) else .error n
def blockR (T : Tx) (st : List Str → Nat → Nat → Nat → Ak → Res) (dp : Nat) (af : Bool) : Nat → Nat → Nat → Nat → Ak → Res
  | 0, n, m, len, as => if wordsAt T.rows n dp = [] then .ok (n, m, [], as) else .error n
  | f + 1, n, m, len, as =>
    if wordsAt T.rows n dp = [] then (if f = 7 then .error n else .ok (n, m, [], as))
    else if m < 24 then
      if (decide (f ≠ 7) || (!af || decide ((wordsAt T.rows n dp).getD 0 "" = ("ask" : Str)))) = true then
        match st (wordsAt T.rows n dp) n (m + 1) len as with
        | .ok (n1, m1, more, as1) => match blockR T st dp af f n1 m1 (len + more.length) as1 with
          | .ok (n2, m2, more2, as2) => .ok (n2, m2, more ++ more2, as2)
          | .error e => .error e
        | .error e => .error e
      else .error n
    else .error n
def blk (T : Tx) : Nat → Sub
  | 0 => fun af n m len as => blockR T (stmtR T (fun _ _ _ _ _ => .error 0) 3) 3 af 8 n m len as
  | j + 1 => fun af n m len as => blockR T (stmtR T (blk T j) (2 - j)) (2 - j) af 8 n m len as
def subR (T : Tx) : Option Nat → Sub
  | none => fun _ _ _ _ _ => .error 0
  | some j => blk T j
/-- the depth of what stands around it -/
def dpO : Option Nat → Nat
  | none => 3
  | some j => 2 - j
/-! ### promises -/
/-- what a block or a statement leaves -/
def BQ (CL CP : Addr) (A : Ad) (T : Tx) (H0 : Hp) (S : SD) (sl : Nat) (Q : VK) (n m : Nat) (more : List PyData) (as : Ak) : Prop :=
  ∀ (H' : Hp) (xs' : List V) (kvs' : List (Key × V)), Wd CL CP A T H0 H' n m xs' kvs' ⟨S.ds ++ more, as⟩ → xs'.length + sl ≤ 2 * m + 100 → kvs'.length ≤ m + 100 → m ≤ 24 → Q .non H'
def spHead (CL CP CT : Addr) : Sp := fun vs H Q E => ∃ (A : Ad) (T : Tx) (H0 : Hp) (n m : Nat) (xs : List V) (kvs : List (Key × V)) (S : SD) (p : Addr) (ws : List Str) (dp : Nat), vs = [.ref A.g, .ref p, .int dp] ∧ Wd CL CP A T H0 H n m xs kvs S ∧ TxOk T ∧
  H p = some (.lst (ws.map V.str)) ∧ (∀ z ∈ ws, z.length ≤ 14000) ∧ n < T.rows.length ∧ xs.length ≤ 1000 ∧
  (headOk T dp ws = true → ∀ (H' : Hp) (x : V), Wd CL CP A T H0 H' (n + 1) m (xs ++ [x]) kvs ⟨S.ds ++ [.tuple [.str "unless", condD T (ws.drop 1)]], S.as⟩ → Q (.int xs.length) H') ∧ (headOk T dp ws = false → ErrK CT (.int n) H0 E)
/-- read_block at depth 3 - j -/
def spBlock (CL CP CT : Addr) (j : Nat) : Sp := fun vs H Q E => ∃ (A : Ad) (T : Tx) (H0 : Hp) (n m : Nat) (xs : List V) (kvs : List (Key × V)) (S : SD) (af : Bool) (sl : Nat), vs = [.ref A.g, .int ((3 - j : Nat) : Int), .bl af] ∧ Wd CL CP A T H0 H n m xs kvs S ∧ TxOk T ∧
  xs.length + sl ≤ 2 * m + 100 ∧ kvs.length ≤ m + 100 ∧ m ≤ 24 ∧ (blk T j af n m xs.length S.as).K (BQ CL CP A T H0 S sl Q) fun e => ErrK CT (.int e) H0 E
def spBlockO (CL CP CT : Addr) : Option Nat → Sp
  | none => fun _ _ _ _ => False
  | some j => spBlock CL CP CT j
/-- read_if, read_while, read_statement, whose blocks are those of o -/
def spStmt (CL CP CT : Addr) (R : Tx → List Str → Nat → Nat → Nat → Ak → Res) (o : Option Nat) : Sp := fun vs H Q E => ∃ (A : Ad) (T : Tx) (H0 : Hp) (n m : Nat) (xs : List V) (kvs : List (Key × V)) (S : SD) (p : Addr) (ws : List Str) (sl : Nat), vs = [.ref A.g, .ref p, .int ((dpO o : Nat) : Int)] ∧ Wd CL CP A T H0 H n m xs kvs S ∧ TxOk T ∧
  H p = some (.lst (ws.map V.str)) ∧ (∀ z ∈ ws, PyData.strOk z = true ∧ z.length ≤ 14000) ∧ ws ≠ [] ∧ ws.length ≤ 14001 ∧ n < T.rows.length ∧ xs.length + 2 + sl ≤ 2 * m + 100 ∧ kvs.length + 1 ≤ m + 100 ∧ m ≤ 24 ∧
  (R T ws n m xs.length S.as).K (BQ CL CP A T H0 S sl Q) fun e => ErrK CT (.int e) H0 E
abbrev s_Program_read_head : Stmt := inClass (topS 36) 6
theorem sc_Program_read_head : FnScope ["self", "words", "depth"] ["self", "words", "depth"] (defScope s_Program_read_head) := ⟨rfl, rfl, rfl, by decide +kernel, rfl, by decide +kernel, by decide +kernel⟩
abbrev s_Program_read_while : Stmt := inClass (topS 36) 5
theorem sc_Program_read_while : FnScope ["self", "words", "depth", "place"] ["self", "words", "depth"] (defScope s_Program_read_while) := ⟨rfl, rfl, rfl, by decide +kernel, rfl, by decide +kernel, by decide +kernel⟩
abbrev s_Program_read_if : Stmt := inClass (topS 36) 4
theorem sc_Program_read_if : FnScope ["self", "words", "depth", "place", "leave"] ["self", "words", "depth"] (defScope s_Program_read_if) := ⟨rfl, rfl, rfl, by decide +kernel, rfl, by decide +kernel, by decide +kernel⟩
abbrev s_Program_read_statement : Stmt := inClass (topS 36) 3
theorem sc_Program_read_statement : FnScope ["self", "words", "depth"] ["self", "words", "depth"] (defScope s_Program_read_statement) := ⟨rfl, rfl, rfl, by decide +kernel, rfl, by decide +kernel, by decide +kernel⟩
abbrev s_Program_read_block : Stmt := inClass (topS 36) 2
theorem sc_Program_read_block : FnScope ["self", "depth", "asks_first", "many", "words"] ["self", "depth", "asks_first"] (defScope s_Program_read_block) := ⟨rfl, rfl, rfl, by decide +kernel, rfl, by decide +kernel, by decide +kernel⟩
abbrev s_Program_read_door : Stmt := inClass (topS 36) 1
theorem sc_Program_read_door : FnScope ["self", "start"] ["self"] (defScope s_Program_read_door) := ⟨rfl, rfl, rfl, by decide +kernel, rfl, by decide +kernel, by decide +kernel⟩
/-- further names of the top -/
structure En2 (P : Program) (w : World) (K : PySem.W.Frag) (mg : Str → Option Value) (base : Heap) (CL CP CT : Addr) (fWords fStep fCond fPlain : Addr) (dWords dStep dCond dPlain : FuncData) : Prop where
  Mw : Mf K CL "words" "Lines.words" s_Lines_words fWords dWords ["self", "depth"]
  Gw : FnOk P w K mg base CX0 1 fWords dWords ["self", "depth"] (spWords CL)
  Ms : Mf K CL "step" "Lines.step" s_Lines_step fStep dStep ["self"]
  Gs : FnOk P w K mg base CX0 1 fStep dStep ["self"] (spStep CL)
  Mc : Mf K CP "condition" "Program.condition" s_Program_condition fCond dCond ["self", "words"]
  Gc : FnOk P w K mg base (L2.CX P w) 6 fCond dCond ["self", "words"] (spCond CL CP CT)
  Mp : Mf K CP "plain_step" "Program.plain_step" s_Program_plain_step fPlain dPlain ["self", "words"]
  Gp : FnOk P w K mg base (L2.CX P w) 7 fPlain dPlain ["self", "words"] (spPlain CL CP CT)
  cD : ∃ t, mg "DEEPEST" = some (.int 3 t)
  cB : ∃ t, mg "MOST_IN_BLOCK" = some (.int 8 t)
  cS : ∃ t, mg "MOST_STATEMENTS" = some (.int 24 t)
theorem cut1 (xs : List V) : cutV xs (some 1) none = xs.drop 1 := by
  unfold cutV
  rw [show HT.sIx xs.length 0 (some 1) = min 1 xs.length from HT.sIx_nat xs.length 0 1, HT.sIx_none]
  cases xs with
  | nil => rfl
  | cons x r =>
    rw [show min 1 (x :: r).length = 1 by
      rw [List.length_cons]
      omega]
    show (List.take ((x :: r).length - 1) r) = r
    rw [List.length_cons, Nat.add_sub_cancel]
    exact List.take_length
theorem meth0_run {C a dx : Addr} {m : Str} {fs : List (Str × V)} {sp : Sp} {E : XK} {ta : TE} {σ : L2.St} {H : Hp} {Q : VK} (ho : Val ta σ H (.ref a)) (ha : H a = some (.ins C dx fs)) (hm : fs.lookup m = none) (h : sp [.ref a] H Q E) :
    tMeth C m sp [] E ta tNil σ H Q := ho _ ⟨a, dx, fs, rfl, ha, hm, h⟩
section
variable {P : Program} {w : World} {K : PySem.W.Frag} {mg : Str → Option Value} {base : Heap} {CL CP CT fNeed fNum fDoor : Addr} {dNeed dNum dDoor : FuncData} {fWords fStep fCond fPlain : Addr} {dWords dStep dCond dPlain : FuncData}
theorem ok_read_head {f : Addr} {fd : FuncData} (N : En P w K mg base CL CP CT fNeed fNum fDoor dNeed dNum dDoor) (M : En2 P w K mg base CL CP CT fWords fStep fCond fPlain dWords dStep dCond dPlain) (F : Fun K "read_head" "Program.read_head" s_Program_read_head f fd) :
    FnOk P w K mg base (L2.CX P w) 7 f fd ["self", "words", "depth"] (spHead CL CP CT) := by
  obtain ⟨tD, gD⟩ := M.cD
  refine F.okX sc_Program_read_head (fun vs H Q E h => ?_) (fun cdv A0 outer s H vs Q E hr h => ?_)
  · obtain ⟨A, T, H0, n, m, xs, kvs, S, p, ws, dp, rfl, _⟩ := h
    rfl
  · obtain ⟨A, T, H0, n, m, xs, kvs, S, p, ws, dp, rfl, pw, tx, hp, hz, hn, hxs, k, ke⟩ := h
    have Sc := sc_Program_read_head
    refine ⟨_, (pss_cons (ps_expr (pe_meth (pe_fld (pv 0) rfl) N.L.cl N.Mn.m N.Gn (hr.mono (by decide)) N.Mn.b .nil (pxp rfl rfl rfl rfl) (pa_cons (pe_cmpR op_lt (pv 2) (pe_glob (v := .int 3) (by rfl) gD ⟨_, rfl⟩) (nomark _)) pa_nil)))
      (pss_cons (ps_expr (pe_bm PySem.F.plainAttrs_list PySem.F.slot_list_append PySem.F.type_list_append mt_append (pe_fld (pv 0) rfl) (pa_cons (pe_tup (pa_cons pe_str (pa_cons (pe_meth (pv 0) N.C.cl M.Mc.m M.Gc (hr.mono (by decide)) M.Mc.b .nil (pxp rfl rfl rfl rfl) (pa_cons (pe_slice sl_list (pv 1) (po_some pe_int) po_none) pa_nil)) pa_nil))) pa_nil)))
      (pss_cons (ps_expr (pe_meth0 (pe_fld (pv 0) rfl) N.L.cl M.Ms.m M.Gs (hr.mono (by decide)) M.Ms.b .nil pass0))
      (pss_one (ps_ret (pe_op op_sub (pe_callB call_len_seq (by rfl) N.B.m_len PySem.boot_len (pa_cons (pe_fld (pv 0) rfl) pa_nil)) pe_int)))))), ?_⟩
    refine meth_run (val_fld (val_var rfl) pw.pg N.C.cl N.C.lines pf_lines) pw.li.o (lf_no (by decide +kernel) (by decide +kernel)) ?_
    refine (val_i0b (val_var rfl) val_c) _ ?_
    refine ⟨A.l, A.dl, A.r, T.rows, n, _, _, rfl, pw.li, rfl, fun e => ?_, fun e => ErrK.mono (ke ?_) pw.s0⟩
    · have hd : decide (dp < 3) = true := by
        refine decide_eq_true ?_
        have := of_decide_eq_true e
        omega
      have eh : headOk T dp ws = condOk T (ws.drop 1) := by
        unfold headOk
        rw [hd]
        rfl
      dsimp only [tSeq, tDrop]
      refine bm_run (val_fld (val_var rfl) pw.pg N.C.cl N.C.steps pf_steps) (.inl ⟨rfl, _, SqL.of pw.st⟩) ?_
      refine meth_run (val_var rfl) pw.pg (pf_no (by decide +kernel)) ?_
      refine ⟨_, rfl, 1, rfl, p, _, rfl, SqL.of hp, fun q nq => ?_⟩
      rw [cut1, ← List.map_drop]
      have s1 := same_upd (o := .lst ((ws.drop 1).map V.str)) nq
      have hq : (upd H q (.lst ((ws.drop 1).map V.str))) q = some (.lst ((ws.drop 1).map V.str)) := upd_same
      have p1 := pw.mono s1
      refine ⟨A, T, H0, n, m, xs, kvs, S, q, ws.drop 1, rfl, p1, tx, hq, fun z h => hz z (List.mem_of_mem_drop h), fun ec H2 y s2 hy => ?_, fun ec => ErrK.mono (ke (eh.trans ec)) p1.s0⟩
      have p2 := p1.mono s2
      refine ⟨by show 2 ≤ sizeLine; decide, fun o no => ?_⟩
      have s3 := same_upd (o := .tup [.str "unless", y]) no
      have p3 := p2.mono s3
      have hx : Tr (upd H2 o (.tup [.str "unless", y])) (.ref o) (.tuple [.str "unless", condD T (ws.drop 1)]) := tr2 upd_same (.str _) (hy.mono s3)
      generalize (upd H2 o (.tup [.str "unless", y])) = H3 at p3 hx
      refine ⟨A.st, xs, .ref o, rfl, rfl, p3.st, small1000 hxs, ?_⟩
      have p4 := p3.steps (p3.sx.app (.cons hx .nil))
      refine meth0_run (val_fld (val_var rfl) p4.pg N.C.cl N.C.lines pf_lines) p4.li.o (lf_no (by decide +kernel) (by decide +kernel)) ?_
      refine ⟨A.l, A.dl, A.r, T.rows, n, rfl, p4.li, hn, fun H5 sb li5 => ?_⟩
      dsimp only [tRet]
      have p5 := p4.step sb li5
      refine (val_i0 (val_lenL (val_fld (val_var rfl) p5.pg N.C.cl N.C.steps pf_steps) (SqL.of p5.st)) val_c) _ ?_
      have el : (((xs ++ [V.ref o]).length : Int) - 1) = (xs.length : Int) := by
        rw [List.length_append]
        show ((xs.length + 1 : Nat) : Int) - 1 = _
        omega
      rw [el]
      exact k (eh.trans ec) _ _ p5
    · unfold headOk
      have : decide (dp < 3) = false := by
        refine decide_eq_false ?_
        have := of_decide_eq_false e
        omega
      rw [this]
      rfl
end
end K5
namespace K5
open PySem PySem.Spec PyProof.Rows L2
theorem Res.K.mono {r : Res} {q q' : Nat → Nat → List PyData → Ak → Prop} {e e' : Nat → Prop} (h : r.K q e) (hq : ∀ a b c d, q a b c d → q' a b c d) (he : ∀ n, e n → e' n) : r.K q' e' := by
  match r, h with
  | .ok (a, b, c, d), h => exact hq a b c d h
  | .error n, h => exact he n h
section
variable {CL CP : Addr} {A : Ad} {T : Tx} {H0 H1 H H' : Hp} {n m : Nat} {xs ys : List V} {kvs : List (Key × V)} {S : SD}
theorem Wd.lens (p : Wd CL CP A T H0 H n m xs kvs S) : xs.length = S.ds.length := p.sx.len
theorem wordsAt_lt {rows : List Str} {n dp : Nat} (h : wordsAt rows n dp ≠ []) : n < rows.length := by
  by_cases c : n < rows.length
  · exact c
  · exact absurd (by unfold wordsAt; rw [List.getElem?_eq_none (by omega)]) h
/-- a step more -/
theorem Wd.push (p : Wd CL CP A T H0 H n m xs kvs S) {x : V} {d : PyData} (h : Tr H x d) : Wd CL CP A T H0 (upd H A.st (.lst (xs ++ [x]))) n m (xs ++ [x]) kvs ⟨S.ds ++ [d], S.as⟩ :=
  p.steps (p.sx.app (.cons h .nil))
theorem Wd.aug {K : PySem.W.Frag} (p : Wd CL CP A T H0 H n m xs kvs S) (C : ClP K CP) {ti te : TE} {D : Ends} {σ : L2.St} {i : Int} {j : Nat} {u : PyData} {us : List PyData} (h0 : σ[0]? = some (some (.ref A.g))) (hi : Val ti σ H (.int j)) (he : Val te σ H (.int i))
    (hj : S.ds[j]? = some (.tuple (u :: us))) (hy : us.length ≤ 10)
    (h : ∀ (H' : Hp) (ys : List V), ys.length = xs.length → Wd CL CP A T H0 H' n m ys kvs ⟨S.ds.set j (.tuple (u :: us ++ [.int i])), S.as⟩ → SameBut A.st H H' → D.nx σ H') :
    tAugS (tFld K (tVar 0) "steps") ti (tTup (tCons te tNil)) (rGetN K) (rCatN K) rSetL D σ H := by
  obtain ⟨v, hv, tv⟩ := p.sx.get hj
  cases tv with
  | @tup a zs _ ha tz =>
    cases tz with
    | @cons y ys _ _ ty tys =>
      refine aug_run (val_fld (val_var h0) p.pg C.cl C.steps pf_steps) hi he p.st hv ha (by have := tys.len; omega) fun H1 b s1 hb => ?_
      refine h _ (xs.set j (.ref b)) (List.length_set) ((p.mono s1).steps ((p.sx.mono s1).set ?_)) ((SameBut.of_same s1).trans (SameBut.upd A.st H1 _))
      refine .tup hb ?_
      exact ((Trs.cons ty tys).mono s1).app (.cons (.int _) .nil)
end
section
variable {P : Program} {w : World} {K : PySem.W.Frag} {mg : Str → Option Value} {base : Heap} {CL CP CT fNeed fNum fDoor : Addr} {dNeed dNum dDoor : FuncData} {fWords fStep fCond fPlain : Addr} {dWords dStep dCond dPlain : FuncData}
theorem ok_read_while {f fH fB : Addr} {fd dH dB : FuncData} {kb : Nat} {o : Option Nat} (hk : 7 ≤ kb) (ho : ∀ j, o = some j → j ≤ 2) (N : En P w K mg base CL CP CT fNeed fNum fDoor dNeed dNum dDoor) (M : En2 P w K mg base CL CP CT fWords fStep fCond fPlain dWords dStep dCond dPlain) (F : Fun K "read_while" "Program.read_while" s_Program_read_while f fd)
    (Mh : Mf K CP "read_head" "Program.read_head" s_Program_read_head fH dH ["self", "words", "depth"]) (Mb : Mf K CP "read_block" "Program.read_block" s_Program_read_block fB dB ["self", "depth", "asks_first"]) (Gb : FnOk P w K mg base (L2.CX P w) kb fB dB ["self", "depth", "asks_first"] (spBlockO CL CP CT o)) :
    FnOk P w K mg base (L2.CX P w) (kb + 1) f fd ["self", "words", "depth"] (spStmt CL CP CT (fun T => whileR T (subR T o) (dpO o)) o) := by
  have Gh : FnOk P w K mg base (L2.CX P w) 7 fH dH ["self", "words", "depth"] (spHead CL CP CT) := ok_read_head N M Mh.F
  refine F.okX sc_Program_read_while (fun vs H Q E h => ?_) (fun cdv A0 outer s H vs Q E hr h => ?_)
  · obtain ⟨A, T, H0, n, m, xs, kvs, S, p, ws, sl, rfl, _⟩ := h
    rfl
  · obtain ⟨A, T, H0, n, m, xs, kvs, S, p, ws, sl, rfl, pw, tx, hp, hz, hne, hwl, hn, hxs, hkv, hm, k⟩ := h
    have Sc := sc_Program_read_while
    refine ⟨_, (pss_cons (ps_set (i := 3) Sc.nd rfl (.inl rfl) (pe_meth (pv 0) N.C.cl Mh.m Gh (hr.mono hk) Mh.b .nil (pxp rfl rfl rfl rfl) (pa_cons (pv 1) (pa_cons (pv 2) pa_nil))))
      (pss_cons (ps_expr (pe_meth (pv 0) N.C.cl Mb.m Gb (hr.mono (Nat.le_refl _)) Mb.b .nil (pxp rfl rfl rfl rfl) (pa_cons (pe_op op_add (pv 2) pe_int) (pa_cons pe_bl pa_nil))))
      (pss_cons (ps_expr (pe_bm PySem.F.plainAttrs_list PySem.F.slot_list_append PySem.F.type_list_append mt_append (pe_fld (pv 0) rfl) (pa_cons (pe_tup (pa_cons pe_str (pa_cons (pv 3) pa_nil))) pa_nil)))
      (pss_one (ps_augS (pe_fld (pv 0) rfl) (pv 3) get_list (pe_tup (pa_cons (pe_callB call_len_seq (by rfl) N.B.m_len PySem.boot_len (pa_cons (pe_fld (pv 0) rfl) pa_nil)) pa_nil)) ip_catN set_list))))), ?_⟩
    dsimp only at k
    dsimp only [tNext, tSeq, tAsg, tDrop]
    refine meth_run (val_var rfl) pw.pg (pf_no (by decide +kernel)) ?_
    refine (val_var rfl) _ ((val_var rfl) _ ?_)
    refine ⟨A, T, H0, n, m, xs, kvs, S, p, ws, dpO o, rfl, pw, tx, hp, fun z h => (hz z h).2, hn, by omega, fun eh H1 x p1 => ?_, fun eh => ?_⟩
    · unfold whileR at k
      rw [if_pos eh] at k
      cases o with
      | none =>
        unfold headOk at eh
        exact absurd eh (by simp [dpO])
      | some j =>
        have hj := ho j rfl
        refine meth_run (val_var rfl) p1.pg (pf_no (by decide +kernel)) ?_
        refine (val_i0 (val_var rfl) val_c) _ (val_c _ ?_)
        have eL : (xs ++ [x]).length = xs.length + 1 := by rw [List.length_append]; rfl
        refine ⟨A, T, H0, n + 1, m, xs ++ [x], kvs, _, true, sl + 1, ?_, p1, tx, ?_, by omega, hm, ?_⟩
        · have e : (((dpO (some j) : Nat) : Int) + 1) = ((3 - j : Nat) : Int) := by
            show ((2 - j : Nat) : Int) + 1 = _
            omega
          rw [e]
          rfl
        · rw [eL]
          omega
        · rw [eL]
          have k1 : (blk T j true (n + 1) m (xs.length + 1) S.as).K (fun n1 m1 more as1 => BQ CL CP A T H0 S sl Q n1 m1 (unlD T ws (xs.length + 1 + more.length + 1) :: (more ++ [jmpD xs.length])) as1) fun e => ErrK CT (.int e) H0 E := by
            revert k
            show (match blk T j true (n + 1) m (xs.length + 1) S.as with | .ok (n1, m1, more, as1) => .ok (n1, m1, unlD T ws (xs.length + 1 + more.length + 1) :: (more ++ [jmpD xs.length]), as1) | .error e => .error e : Res).K _ _ → _
            match blk T j true (n + 1) m (xs.length + 1) S.as with
            | .ok (n1, m1, more, as1) => exact fun k => k
            | .error e => exact fun k => k
          refine Res.K.mono k1 (fun n2 m2 more as2 q H2 xs2 kvs2 p2 hl2 hk2 hm2 => ?_) fun e h => h
          have eS := pw.lens
          have l2 : xs2.length = xs.length + 1 + more.length := by
            rw [p2.lens]
            simp only [List.length_append, List.length_cons, List.length_nil]
            omega
          refine bm_run (val_fld (val_var rfl) p2.pg N.C.cl N.C.steps pf_steps) (.inl ⟨rfl, _, SqL.of p2.st⟩) ?_
          refine (val_var rfl) _ ?_
          refine ⟨by show 2 ≤ sizeLine; decide, fun o no => ?_⟩
          have s3 := same_upd (o := .tup [.str "jump", .int (xs.length : Nat)]) no
          have p3 := p2.mono s3
          have ho3 : Tr (upd H2 o (.tup [.str "jump", .int (xs.length : Nat)])) (.ref o) (jmpD xs.length) := tr2 upd_same (.str _) (.int _)
          generalize (upd H2 o (.tup [.str "jump", .int (xs.length : Nat)])) = H3 at p3 ho3
          refine ⟨A.st, _, .ref o, rfl, rfl, p3.st, small1000 (by omega), ?_⟩
          have p4 := p3.push ho3
          dsimp only at p4
          have ed : S.ds ++ [PyData.tuple [.str "unless", condD T (ws.drop 1)]] ++ more ++ [jmpD xs.length] = S.ds ++ (PyData.tuple [.str "unless", condD T (ws.drop 1)] :: (more ++ [jmpD xs.length])) := by simp
          rw [ed] at p4
          refine p4.aug (u := .str "unless") (us := [condD T (ws.drop 1)]) N.C rfl (val_var rfl) (val_lenL (val_fld (val_var rfl) p4.pg N.C.cl N.C.steps pf_steps) (SqL.of p4.st)) (j := xs.length) ?_ (Nat.le_of_ble_eq_true rfl) fun H5 ys ly p5 _ => ?_
          · rw [eS, List.getElem?_append_right (Nat.le_refl _), Nat.sub_self]
            rfl
          · have l4 : (xs2 ++ [V.ref o]).length = xs.length + 1 + more.length + 1 := by
              rw [List.length_append, l2]
              rfl
            rw [l4] at p5 ly
            refine q H5 ys kvs2 ?_ (by omega) hk2 hm2
            have e5 : (S.ds ++ (PyData.tuple [.str "unless", condD T (ws.drop 1)] :: (more ++ [jmpD xs.length]))).set xs.length (.tuple (.str "unless" :: [condD T (ws.drop 1)] ++ [.int ((xs.length + 1 + more.length + 1 : Nat) : Int)])) = S.ds ++ (unlD T ws (xs.length + 1 + more.length + 1) :: (more ++ [jmpD xs.length])) := by
              rw [eS, List.set_append_right _ _ (Nat.le_refl _), Nat.sub_self]
              rfl
            rw [← e5]
            exact p5
    · unfold whileR at k
      rw [eh, if_neg Bool.false_ne_true] at k
      exact k
end
end K5
namespace K5
open PySem PySem.Spec PyProof.Rows L2
theorem dpO_le (o : Option Nat) : dpO o ≤ 3 := by
  cases o with
  | none => exact Nat.le_refl _
  | some j => show 2 - j ≤ 3; omega
section
variable {P : Program} {w : World} {K : PySem.W.Frag} {mg : Str → Option Value} {base : Heap} {CL CP CT fNeed fNum fDoor : Addr} {dNeed dNum dDoor : FuncData} {fWords fStep fCond fPlain : Addr} {dWords dStep dCond dPlain : FuncData}
theorem ok_read_if {f fH fB : Addr} {fd dH dB : FuncData} {kb : Nat} {o : Option Nat} (hk : 7 ≤ kb) (ho : ∀ j, o = some j → j ≤ 2) (N : En P w K mg base CL CP CT fNeed fNum fDoor dNeed dNum dDoor) (M : En2 P w K mg base CL CP CT fWords fStep fCond fPlain dWords dStep dCond dPlain) (F : Fun K "read_if" "Program.read_if" s_Program_read_if f fd)
    (Mh : Mf K CP "read_head" "Program.read_head" s_Program_read_head fH dH ["self", "words", "depth"]) (Mb : Mf K CP "read_block" "Program.read_block" s_Program_read_block fB dB ["self", "depth", "asks_first"]) (Gb : FnOk P w K mg base (L2.CX P w) kb fB dB ["self", "depth", "asks_first"] (spBlockO CL CP CT o)) :
    FnOk P w K mg base (L2.CX P w) (kb + 1) f fd ["self", "words", "depth"] (spStmt CL CP CT (fun T => ifR T (subR T o) (dpO o)) o) := by
  have Gh : FnOk P w K mg base (L2.CX P w) 7 fH dH ["self", "words", "depth"] (spHead CL CP CT) := ok_read_head N M Mh.F
  refine F.okX sc_Program_read_if (fun vs H Q E h => ?_) (fun cdv A0 outer s H vs Q E hr h => ?_)
  · obtain ⟨A, T, H0, n, m, xs, kvs, S, p, ws, sl, rfl, _⟩ := h
    rfl
  · obtain ⟨A, T, H0, n, m, xs, kvs, S, p, ws, sl, rfl, pw, tx, hp, hz, hne, hwl, hn, hxs, hkv, hm, k⟩ := h
    have Sc := sc_Program_read_if
    refine ⟨_, (pss_cons (ps_set (i := 3) Sc.nd rfl (.inl rfl) (pe_meth (pv 0) N.C.cl Mh.m Gh (hr.mono hk) Mh.b .nil (pxp rfl rfl rfl rfl) (pa_cons (pv 1) (pa_cons (pv 2) pa_nil))))
      (pss_cons (ps_expr (pe_meth (pv 0) N.C.cl Mb.m Gb (hr.mono (Nat.le_refl _)) Mb.b .nil (pxp rfl rfl rfl rfl) (pa_cons (pe_op op_add (pv 2) pe_int) (pa_cons pe_bl pa_nil))))
      (pss_cons (ps_if (pt_cmpR (op_neD (by have := hr.units; exact this)) (pe_meth (pe_fld (pv 0) rfl) N.L.cl M.Mw.m M.Gw (hr.mono (Nat.le_trans (by decide) hk)) M.Mw.b .nil pass0 (pa_cons (pv 2) pa_nil)) (pe_lst (pa_cons pe_str pa_nil)) (nomark _))
        (pss_cons (ps_augS (pe_fld (pv 0) rfl) (pv 3) get_list (pe_tup (pa_cons (pe_callB call_len_seq (by rfl) N.B.m_len PySem.boot_len (pa_cons (pe_fld (pv 0) rfl) pa_nil)) pa_nil)) ip_catN set_list)
        (pss_one ps_retN))
        pss_nil)
      (pss_cons (ps_expr (pe_meth0 (pe_fld (pv 0) rfl) N.L.cl M.Ms.m M.Gs (hr.mono (Nat.le_trans (by decide) hk)) M.Ms.b .nil pass0))
      (pss_cons (ps_set (i := 4) Sc.nd rfl (.inl rfl) (pe_callB call_len_seq (by rfl) N.B.m_len PySem.boot_len (pa_cons (pe_fld (pv 0) rfl) pa_nil)))
      (pss_cons (ps_expr (pe_bm PySem.F.plainAttrs_list PySem.F.slot_list_append PySem.F.type_list_append mt_append (pe_fld (pv 0) rfl) (pa_cons (pe_tup (pa_cons pe_str pa_nil)) pa_nil)))
      (pss_cons (ps_augS (pe_fld (pv 0) rfl) (pv 3) get_list (pe_tup (pa_cons (pe_callB call_len_seq (by rfl) N.B.m_len PySem.boot_len (pa_cons (pe_fld (pv 0) rfl) pa_nil)) pa_nil)) ip_catN set_list)
      (pss_cons (ps_expr (pe_meth (pv 0) N.C.cl Mb.m Gb (hr.mono (Nat.le_refl _)) Mb.b .nil (pxp rfl rfl rfl rfl) (pa_cons (pe_op op_add (pv 2) pe_int) (pa_cons pe_bl pa_nil))))
      (pss_one (ps_augS (pe_fld (pv 0) rfl) (pv 4) get_list (pe_tup (pa_cons (pe_callB call_len_seq (by rfl) N.B.m_len PySem.boot_len (pa_cons (pe_fld (pv 0) rfl) pa_nil)) pa_nil)) ip_catN set_list)))))))))), ?_⟩
    dsimp only at k
    dsimp only [tNext, tSeq, tAsg, tDrop, tIfS]
    refine meth_run (val_var rfl) pw.pg (pf_no (by decide +kernel)) ?_
    refine (val_var rfl) _ ((val_var rfl) _ ?_)
    refine ⟨A, T, H0, n, m, xs, kvs, S, p, ws, dpO o, rfl, pw, tx, hp, fun z h => (hz z h).2, hn, by omega, fun eh H1 x p1 => ?_, fun eh => ?_⟩
    · unfold ifR at k
      rw [if_pos eh] at k
      cases o with
      | none =>
        unfold headOk at eh
        exact absurd eh (by simp [dpO])
      | some j =>
        have hj := ho j rfl
        have e1 : (((dpO (some j) : Nat) : Int) + 1) = ((3 - j : Nat) : Int) := by
          show ((2 - j : Nat) : Int) + 1 = _
          omega
        refine meth_run (val_var rfl) p1.pg (pf_no (by decide +kernel)) ?_
        refine (val_i0 (val_var rfl) val_c) _ (val_c _ ?_)
        have eL : (xs ++ [x]).length = xs.length + 1 := by rw [List.length_append]; rfl
        have eS := pw.lens
        refine ⟨A, T, H0, n + 1, m, xs ++ [x], kvs, _, false, sl + 1, by rw [e1]; rfl, p1, tx, by rw [eL]; omega, by omega, hm, ?_⟩
        rw [eL]
        have k1 : (blk T j false (n + 1) m (xs.length + 1) S.as).K (fun n1 m1 more as1 => (elseR T (blk T j) (dpO (some j)) ws xs.length n1 m1 more as1).K (BQ CL CP A T H0 S sl Q) fun e => ErrK CT (.int e) H0 E) fun e => ErrK CT (.int e) H0 E := by
          revert k
          show (match blk T j false (n + 1) m (xs.length + 1) S.as with | .ok (n1, m1, more, as1) => elseR T (blk T j) (dpO (some j)) ws xs.length n1 m1 more as1 | .error e => .error e : Res).K _ _ → _
          match blk T j false (n + 1) m (xs.length + 1) S.as with
          | .ok (n1, m1, more, as1) => exact fun k => k
          | .error e => exact fun k => k
        refine Res.K.mono k1 (fun n2 m2 more as2 q H2 xs2 kvs2 p2 hl2 hk2 hm2 => ?_) fun e h => h
        have l2 : xs2.length = xs.length + 1 + more.length := by
          rw [p2.lens]
          simp only [List.length_append, List.length_cons, List.length_nil]
          omega
        have ed0 : S.ds ++ [PyData.tuple [.str "unless", condD T (ws.drop 1)]] ++ more = S.ds ++ (PyData.tuple [.str "unless", condD T (ws.drop 1)] :: more) := by simp
        dsimp only at p2
        rw [ed0] at p2
        have hat : ∀ r : List PyData, (S.ds ++ (PyData.tuple [.str "unless", condD T (ws.drop 1)] :: r))[xs.length]? = some (.tuple [.str "unless", condD T (ws.drop 1)]) := fun r => by
          rw [eS, List.getElem?_append_right (Nat.le_refl _), Nat.sub_self]
          rfl
        have hset : ∀ (r : List PyData) (k : Nat), (S.ds ++ (PyData.tuple [.str "unless", condD T (ws.drop 1)] :: r)).set xs.length (.tuple (.str "unless" :: [condD T (ws.drop 1)] ++ [.int (k : Int)])) = S.ds ++ (unlD T ws k :: r) := fun r k => by
          rw [eS, List.set_append_right _ _ (Nat.le_refl _), Nat.sub_self]
          rfl
        refine meth_run (val_fld (val_var rfl) p2.pg N.C.cl N.C.lines pf_lines) p2.li.o (lf_no (by decide +kernel) (by decide +kernel)) ?_
        refine (val_var rfl) _ ?_
        refine ⟨A.l, A.dl, A.r, T.rows, n2, dpO (some j), rfl, p2.li, tx.sz, dpO_le _, fun H3 pp s3 np hpp => ?_⟩
        refine ⟨by show 1 ≤ sizeLine; decide, fun qq nq => ?_⟩
        have s4 := same_upd (o := .lst [V.str "else"]) nq
        refine ⟨.list ((wordsAt T.rows n2 (dpO (some j))).map PyData.str), .list (([("else" : Str)] : List Str).map PyData.str), .lst (SqL.of (s4 _ _ hpp)) (dpAll_strs _), .lst (SqL.of upd_same) (dpAll_strs ["else"]), shaped_strs fun y hy => (words_ok tx.sz y hy).1, by decide +kernel, ?_⟩
        have e : PyData.eqv (.list ((wordsAt T.rows n2 (dpO (some j))).map PyData.str)) (.list (([("else" : Str)] : List Str).map PyData.str)) = decide (wordsAt T.rows n2 (dpO (some j)) = (["else"] : List Str)) := by
          rw [PyData.eqv]
          exact eqv_strs _ _
        rw [e]
        have p4 := p2.mono (s3.trans s4)
        generalize (upd H3 qq (.lst [V.str "else"])) = H4 at p4
        refine ⟨_, rfl, ?_⟩
        unfold elseR at q
        cases ce : decide (wordsAt T.rows n2 (dpO (some j)) = (["else"] : List Str)) with
        | false =>
          rw [ce, if_neg Bool.false_ne_true] at q
          refine iteT ?_
          refine p4.aug (u := .str "unless") (us := [condD T (ws.drop 1)]) N.C rfl (val_var rfl) (val_lenL (val_fld (val_var rfl) p4.pg N.C.cl N.C.steps pf_steps) (SqL.of p4.st)) (hat _) (Nat.le_of_ble_eq_true rfl) fun H5 ys ly p5 _ => ?_
          dsimp only at p5
          rw [hset, l2] at p5
          exact q H5 ys kvs2 p5 (by omega) hk2 hm2
        | true =>
          rw [ce, if_pos rfl] at q
          refine iteF ?_
          have hn2 : n2 < T.rows.length := wordsAt_lt (dp := dpO (some j)) (by rw [of_decide_eq_true ce]; exact fun z => nomatch z)
          dsimp only [tNext, tSeq, tDrop]
          refine meth0_run (val_fld (val_var rfl) p4.pg N.C.cl N.C.lines pf_lines) p4.li.o (lf_no (by decide +kernel) (by decide +kernel)) ?_
          refine ⟨A.l, A.dl, A.r, T.rows, n2, rfl, p4.li, hn2, fun H5 sb li5 => ?_⟩
          have p5 := p4.step sb li5
          refine (val_lenL (val_fld (val_var rfl) p5.pg N.C.cl N.C.steps pf_steps) (SqL.of p5.st)) _ ?_
          dsimp only [gName]
          refine bm_run (val_fld (val_var rfl) p5.pg N.C.cl N.C.steps pf_steps) (.inl ⟨rfl, _, SqL.of p5.st⟩) ?_
          refine ⟨by show 1 ≤ sizeLine; decide, fun o no => ?_⟩
          have s6 := same_upd (o := .tup [.str "jump"]) no
          have p6 := p5.mono s6
          have ho6 : Tr (upd H5 o (.tup [.str "jump"])) (.ref o) (.tuple [.str "jump"]) := tr1 upd_same (.str _)
          generalize (upd H5 o (.tup [.str "jump"])) = H6 at p6 ho6
          refine ⟨A.st, _, .ref o, rfl, rfl, p6.st, small1000 (by omega), ?_⟩
          have p7 := p6.push ho6
          dsimp only at p7
          have ed7 : S.ds ++ (PyData.tuple [.str "unless", condD T (ws.drop 1)] :: more) ++ [PyData.tuple [.str "jump"]] = S.ds ++ (PyData.tuple [.str "unless", condD T (ws.drop 1)] :: (more ++ [PyData.tuple [.str "jump"]])) := by simp
          rw [ed7] at p7
          refine p7.aug (u := .str "unless") (us := [condD T (ws.drop 1)]) N.C rfl (val_var rfl) (val_lenL (val_fld (val_var rfl) p7.pg N.C.cl N.C.steps pf_steps) (SqL.of p7.st)) (hat _) (Nat.le_of_ble_eq_true rfl) fun H8 ys8 ly8 p8 sb8 => ?_
          have l7 : (xs2 ++ [V.ref o]).length = xs.length + 1 + more.length + 1 := by
            rw [List.length_append, l2]
            rfl
          dsimp only at p8
          rw [hset, l7] at p8
          rw [l7] at ly8
          refine meth_run (val_var rfl) p8.pg (pf_no (by decide +kernel)) ?_
          refine (val_i0 (val_var rfl) val_c) _ (val_c _ ?_)
          refine ⟨A, T, H0, n2 + 1, m2, ys8, kvs2, _, false, sl, by rw [e1]; rfl, p8, tx, by omega, hk2, hm2, ?_⟩
          rw [ly8]
          have k2 : (blk T j false (n2 + 1) m2 (xs.length + 1 + more.length + 1) as2).K (fun n3 m3 more2 as3 => BQ CL CP A T H0 S sl Q n3 m3 (unlD T ws (xs.length + 1 + more.length + 1) :: (more ++ jmpD (xs.length + 1 + more.length + 1 + more2.length) :: more2)) as3) fun e => ErrK CT (.int e) H0 E := by
            revert q
            match blk T j false (n2 + 1) m2 (xs.length + 1 + more.length + 1) as2 with
            | .ok (n1, m1, more, as1) => exact fun k => k
            | .error e => exact fun k => k
          refine Res.K.mono k2 (fun n9 m9 more9 as9 q9 H9 xs9 kvs9 p9 hl9 hk9 hm9 => ?_) fun e h => h
          have l9 : xs9.length = xs.length + 1 + more.length + 1 + more9.length := by
            rw [p9.lens]
            simp only [List.length_append, List.length_cons, List.length_nil]
            omega
          have ed9 : S.ds ++ (unlD T ws (xs.length + 1 + more.length + 1) :: (more ++ [PyData.tuple [.str "jump"]])) ++ more9 = (S.ds ++ (unlD T ws (xs.length + 1 + more.length + 1) :: more)) ++ (PyData.tuple [.str "jump"] :: more9) := by simp
          dsimp only at p9
          rw [ed9] at p9
          have el9 : (S.ds ++ (unlD T ws (xs.length + 1 + more.length + 1) :: more)).length = xs2.length := by
            rw [l2]
            simp only [List.length_append, List.length_cons]
            omega
          refine p9.aug (j := xs2.length) (u := .str "jump") (us := []) N.C rfl (val_var rfl) (val_lenL (val_fld (val_var rfl) p9.pg N.C.cl N.C.steps pf_steps) (SqL.of p9.st)) ?_ (Nat.zero_le _) fun HA ysA lyA pA _ => ?_
          · dsimp only
            rw [← el9, List.getElem?_append_right (Nat.le_refl _), Nat.sub_self]
            rfl
          · dsimp only at pA
            rw [← el9, List.set_append_right _ _ (Nat.le_refl _), Nat.sub_self, l9] at pA
            refine q9 HA ysA kvs9 ?_ (by omega) hk9 hm9
            have eA : (S.ds ++ (unlD T ws (xs.length + 1 + more.length + 1) :: more)) ++ (PyData.tuple [.str "jump"] :: more9).set 0 (.tuple (.str "jump" :: [] ++ [.int ((xs.length + 1 + more.length + 1 + more9.length : Nat) : Int)])) = S.ds ++ (unlD T ws (xs.length + 1 + more.length + 1) :: (more ++ jmpD (xs.length + 1 + more.length + 1 + more9.length) :: more9)) := by
              rw [List.append_assoc]
              rfl
            rw [← eA]
            exact pA
    · unfold ifR at k
      rw [eh, if_neg Bool.false_ne_true] at k
      exact k
end
end K5
namespace K5
open PySem PySem.Spec PyProof.Rows L2
section
variable {P : Program} {w : World} {K : PySem.W.Frag} {mg : Str → Option Value} {base : Heap} {CL CP CT fNeed fNum fDoor : Addr} {dNeed dNum dDoor : FuncData} {fWords fStep fCond fPlain : Addr} {dWords dStep dCond dPlain : FuncData}
theorem ok_read_statement {f fH fB fI fW : Addr} {fd dH dB dI dW : FuncData} {kb : Nat} {o : Option Nat} (hk : 7 ≤ kb) (ho : ∀ j, o = some j → j ≤ 2) (N : En P w K mg base CL CP CT fNeed fNum fDoor dNeed dNum dDoor) (M : En2 P w K mg base CL CP CT fWords fStep fCond fPlain dWords dStep dCond dPlain) (F : Fun K "read_statement" "Program.read_statement" s_Program_read_statement f fd)
    (Mi : Mf K CP "read_if" "Program.read_if" s_Program_read_if fI dI ["self", "words", "depth"]) (Mw : Mf K CP "read_while" "Program.read_while" s_Program_read_while fW dW ["self", "words", "depth"])
    (Mh : Mf K CP "read_head" "Program.read_head" s_Program_read_head fH dH ["self", "words", "depth"]) (Mb : Mf K CP "read_block" "Program.read_block" s_Program_read_block fB dB ["self", "depth", "asks_first"]) (Gb : FnOk P w K mg base (L2.CX P w) kb fB dB ["self", "depth", "asks_first"] (spBlockO CL CP CT o)) :
    FnOk P w K mg base (L2.CX P w) (kb + 2) f fd ["self", "words", "depth"] (spStmt CL CP CT (fun T => stmtR T (subR T o) (dpO o)) o) := by
  have Gi : FnOk P w K mg base (L2.CX P w) (kb + 1) fI dI ["self", "words", "depth"] (spStmt CL CP CT (fun T => ifR T (subR T o) (dpO o)) o) := ok_read_if hk ho N M Mi.F Mh Mb Gb
  have Gw : FnOk P w K mg base (L2.CX P w) (kb + 1) fW dW ["self", "words", "depth"] (spStmt CL CP CT (fun T => whileR T (subR T o) (dpO o)) o) := ok_read_while hk ho N M Mw.F Mh Mb Gb
  refine F.okX sc_Program_read_statement (fun vs H Q E h => ?_) (fun cdv A0 outer s H vs Q E hr h => ?_)
  · obtain ⟨A, T, H0, n, m, xs, kvs, S, p, ws, sl, rfl, _⟩ := h
    rfl
  · obtain ⟨A, T, H0, n, m, xs, kvs, S, p, ws, sl, rfl, pw, tx, hp, hz, hne, hwl, hn, hxs, hkv, hm, k⟩ := h
    have Sc := sc_Program_read_statement
    refine ⟨_, (pss_one (ps_if (pt_cmpR op_eq (pe_ix ix_list (pv 1) pe_int (fun _ _ => rfl)) pe_str (nomark _))
        (pss_one (ps_expr (pe_meth (pv 0) N.C.cl Mi.m Gi (hr.mono (Nat.le_refl _)) Mi.b .nil (pxp rfl rfl rfl rfl) (pa_cons (pv 1) (pa_cons (pv 2) pa_nil)))))
        (pss_one (ps_if (pt_cmpR op_eq (pe_ix ix_list (pv 1) pe_int (fun _ _ => rfl)) pe_str (nomark _))
          (pss_one (ps_expr (pe_meth (pv 0) N.C.cl Mw.m Gw (hr.mono (Nat.le_refl _)) Mw.b .nil (pxp rfl rfl rfl rfl) (pa_cons (pv 1) (pa_cons (pv 2) pa_nil)))))
          (pss_cons (ps_expr (pe_bm PySem.F.plainAttrs_list PySem.F.slot_list_append PySem.F.type_list_append mt_append (pe_fld (pv 0) rfl) (pa_cons (pe_meth (pv 0) N.C.cl M.Mp.m M.Gp (hr.mono (by omega)) M.Mp.b .nil (pxp rfl rfl rfl rfl) (pa_cons (pv 1) pa_nil)) pa_nil)))
          (pss_one (ps_expr (pe_meth0 (pe_fld (pv 0) rfl) N.L.cl M.Ms.m M.Gs (hr.mono (by omega)) M.Ms.b .nil pass0)))))))), ?_⟩
    dsimp only at k
    obtain ⟨x, r, rfl⟩ : ∃ x r, ws = x :: r := by
      cases ws with
      | nil => exact absurd rfl hne
      | cons x r => exact ⟨x, r, rfl⟩
    have vis : ∀ (y : Str), Ans (tTest (tOp rEq (tOp (rIxL K) (tVar 1) (tC (.int 0))) (tC (.str y)))) [some (.ref A.g), some (.ref p), some (.int ((dpO o : Nat) : Int))] H (decide (x = y)) := fun y Q2 q2 => by
      refine (ans_eq2 (val_ixL (val_var rfl) val_c (SqL.of hp) (atI_nat (j := 0) rfl)) val_c rfl) _ ?_
      rw [dec_str]
      exact q2
    unfold stmtR at k
    have ex : (x :: r).getD 0 "" = x := rfl
    rw [ex] at k
    dsimp only [tNext, tSeq, tAsg, tDrop, tIfS]
    refine (vis "if") _ ?_
    cases c1 : decide (x = ("if" : Str)) with
    | true =>
      rw [c1, if_pos rfl] at k
      refine iteT ?_
      refine meth_run (val_var rfl) pw.pg (pf_no (by decide +kernel)) ?_
      refine (val_var rfl) _ ((val_var rfl) _ ?_)
      exact ⟨A, T, H0, n, m, xs, kvs, S, p, x :: r, sl, rfl, pw, tx, hp, hz, hne, hwl, hn, hxs, hkv, hm, k⟩
    | false =>
      rw [c1, if_neg Bool.false_ne_true] at k
      refine iteF ?_
      refine (vis "while") _ ?_
      cases c2 : decide (x = ("while" : Str)) with
      | true =>
        rw [c2, if_pos rfl] at k
        refine iteT ?_
        refine meth_run (val_var rfl) pw.pg (pf_no (by decide +kernel)) ?_
        refine (val_var rfl) _ ((val_var rfl) _ ?_)
        exact ⟨A, T, H0, n, m, xs, kvs, S, p, x :: r, sl, rfl, pw, tx, hp, hz, hne, hwl, hn, hxs, hkv, hm, k⟩
      | false =>
        rw [c2, if_neg Bool.false_ne_true] at k
        refine iteF ?_
        refine bm_run (val_fld (val_var rfl) pw.pg N.C.cl N.C.steps pf_steps) (.inl ⟨rfl, _, SqL.of pw.st⟩) ?_
        refine meth_run (val_var rfl) pw.pg (pf_no (by decide +kernel)) ?_
        refine (val_var rfl) _ ?_
        refine ⟨A, T, H0, n, m, xs, kvs, S, p, x :: r, rfl, pw, tx, hp, hne, hz, hwl, by omega, by omega, fun e H1 y kvs1 p1 hkv1 hy => ?_, fun e => ?_⟩
        · rw [if_pos e] at k
          refine ⟨A.st, xs, y, rfl, rfl, p1.st, small1000 (by omega), ?_⟩
          have p2 := p1.push hy
          refine meth0_run (val_fld (val_var rfl) p2.pg N.C.cl N.C.lines pf_lines) p2.li.o (lf_no (by decide +kernel) (by decide +kernel)) ?_
          refine ⟨A.l, A.dl, A.r, T.rows, n, rfl, p2.li, hn, fun H3 sb li3 => ?_⟩
          have p3 := p2.step sb li3
          refine k H3 _ kvs1 p3 ?_ (by omega) hm
          rw [List.length_append]
          show xs.length + 1 + sl ≤ _
          omega
        · rw [e, if_neg Bool.false_ne_true] at k
          exact k
end
end K5
namespace K5
open PySem PySem.Spec PyProof.Rows L2
def oOf : Nat → Option Nat
  | 0 => none
  | j + 1 => some j
theorem dp_oOf (j : Nat) : dpO (oOf j) = 3 - j := by
  cases j with
  | zero => rfl
  | succ j =>
    show 2 - j = _
    omega
theorem blk_of (T : Tx) (j : Nat) (af : Bool) (n m len : Nat) (as : Ak) : blk T j af n m len as = blockR T (stmtR T (subR T (oOf j)) (dpO (oOf j))) (dpO (oOf j)) af 8 n m len as := by
  cases j <;> rfl
theorem val_orV {ta tb : TE} {σ : L2.St} {H : Hp} {a b : Bool} (ha : Val ta σ H (.bl a)) (hb : a = false → Val tb σ H (.bl b)) : Val (tOrV ta tb) σ H (.bl (a || b)) := fun Q q => ha _ ⟨a, rfl, by
  cases a with
  | true => exact iteT q
  | false => exact iteF (hb rfl _ q)⟩
theorem val_andTB {K : PySem.W.Frag} {ta tb : TE} {σ : L2.St} {H : Hp} {a b : Bool} (ha : Val ta σ H (.bl a)) (hb : Val tb σ H (.bl b)) : Val (tAndT K ta tb) σ H (.bl (a && b)) := fun Q q => ha _ ⟨a, rfl, by
  cases a with
  | true => exact iteT (hb _ q)
  | false => exact iteF q⟩
section
variable {P : Program} {w : World} {K : PySem.W.Frag} {mg : Str → Option Value} {base : Heap} {CL CP CT fNeed fNum fDoor : Addr} {dNeed dNum dDoor : FuncData} {fWords fStep fCond fPlain : Addr} {dWords dStep dCond dPlain : FuncData}
/-- before each turn of a block, f turns left at most -/
structure BW (CL CP CT : Addr) (A : Ad) (T : Tx) (H0 : Hp) (j : Nat) (af : Bool) (sl : Nat) (Q : VK) (E : XK) (f : Nat) (σ : L2.St) (H : Hp) (n m : Nat) (xs1 : List V) (kvs1 : List (Key × V)) (S : SD) (p : Addr) : Prop where
  f8 : f ≤ 8
  st : σ = [some (.ref A.g), some (.int ((3 - j : Nat) : Int)), some (.bl af), some (.int ((8 - f : Nat) : Int)), some (.ref p)]
  pw : Wd CL CP A T H0 H n m xs1 kvs1 S
  hp : H p = some (.lst ((wordsAt T.rows n (3 - j)).map V.str))
  le : xs1.length + sl ≤ 2 * m + 100
  lk : kvs1.length ≤ m + 100
  hm : m ≤ 24
  k : (blockR T (stmtR T (subR T (oOf j)) (dpO (oOf j))) (dpO (oOf j)) af f n m xs1.length S.as).K (BQ CL CP A T H0 S sl Q) fun e => ErrK CT (.int e) H0 E
theorem ok_read_block {f fS : Addr} {fd dS : FuncData} {kb j : Nat} (hk : 7 ≤ kb) (N : En P w K mg base CL CP CT fNeed fNum fDoor dNeed dNum dDoor) (M : En2 P w K mg base CL CP CT fWords fStep fCond fPlain dWords dStep dCond dPlain) (F : Fun K "read_block" "Program.read_block" s_Program_read_block f fd)
    (Ms : Mf K CP "read_statement" "Program.read_statement" s_Program_read_statement fS dS ["self", "words", "depth"]) (Gs : FnOk P w K mg base (L2.CX P w) (kb + 2) fS dS ["self", "words", "depth"] (spStmt CL CP CT (fun T => stmtR T (subR T (oOf j)) (dpO (oOf j))) (oOf j))) :
    FnOk P w K mg base (L2.CX P w) (kb + 3) f fd ["self", "depth", "asks_first"] (spBlock CL CP CT j) := by
  obtain ⟨tB, gB⟩ := M.cB
  obtain ⟨tS, gS⟩ := M.cS
  refine F.okX sc_Program_read_block (fun vs H Q E h => ?_) (fun cdv A0 outer s H vs Q E hr h => ?_)
  · obtain ⟨A, T, H0, n, m, xs, kvs, S, af, sl, rfl, _⟩ := h
    rfl
  · obtain ⟨A, T, H0, n, m, xs, kvs, S, af, sl, rfl, pw, tx, hl, hkv, hm, k⟩ := h
    have Sc := sc_Program_read_block
    refine ⟨_, (pss_cons (ps_set (i := 3) Sc.nd rfl (.inl rfl) pe_int)
      (pss_cons (ps_set (i := 4) Sc.nd rfl (.inl rfl) (pe_meth (pe_fld (pv 0) rfl) N.L.cl M.Mw.m M.Gw (hr.mono (by omega)) M.Mw.b .nil pass0 (pa_cons (pv 1) pa_nil)))
      (pss_one (ps_while (passes_of rfl) (PW.pt (pw_or (pt_truth (pv 4) (by intro _; rfl)) (pw_or1 (pt_cmpR op_eq (pv 3) pe_int (nomark _)))))
        (pss_cons (ps_expr (pe_meth (pe_fld (pv 0) rfl) N.L.cl N.Mn.m N.Gn (hr.mono (by omega)) N.Mn.b .nil (pxp rfl rfl rfl rfl) (pa_cons (pe_andT (pv 4) (pe_andT (pe_cmpR op_lt (pv 3) (pe_glob (v := .int 8) (by rfl) gB ⟨_, rfl⟩) (nomark _)) (pe_one (pe_cmpR op_lt (pe_fld (pv 0) rfl) (pe_glob (v := .int 24) (by rfl) gS ⟨_, rfl⟩) (nomark _))))) pa_nil)))
        (pss_cons (ps_expr (pe_meth (pe_fld (pv 0) rfl) N.L.cl N.Mn.m N.Gn (hr.mono (by omega)) N.Mn.b .nil (pxp rfl rfl rfl rfl) (pa_cons (pe_or (pe_cmpR op_gt (pv 3) pe_int (nomark _)) (pe_or (pe_not (pv 2)) (pe_one (pe_cmpR op_eq (pe_ix ix_list (pv 4) pe_int (fun _ _ => rfl)) pe_str (nomark _))))) pa_nil)))
        (pss_cons (ps_aug (i := 3) Sc.nd rfl (.inl rfl) pe_int ip_add)
        (pss_cons (ps_fldaug (pv 0) pe_int in_add)
        (pss_cons (ps_expr (pe_meth (pv 0) N.C.cl Ms.m Gs (hr.mono (Nat.le_refl _)) Ms.b .nil (pxp rfl rfl rfl rfl) (pa_cons (pv 4) (pa_cons (pv 1) pa_nil))))
        (pss_one (ps_set (i := 4) Sc.nd rfl (.inl rfl) (pe_meth (pe_fld (pv 0) rfl) N.L.cl M.Mw.m M.Gw (hr.mono (by omega)) M.Mw.b .nil pass0 (pa_cons (pv 1) pa_nil))))))))))))), ?_⟩
    dsimp only [tNext, tSeq, tAsg]
    refine meth_run (val_fld (val_var rfl) pw.pg N.C.cl N.C.lines pf_lines) pw.li.o (lf_no (by decide +kernel) (by decide +kernel)) ?_
    refine (val_var rfl) _ ?_
    refine ⟨A.l, A.dl, A.r, T.rows, n, 3 - j, rfl, pw.li, tx.sz, by omega, fun H1 p s1 np hp => ?_⟩
    dsimp only [gName]
    refine ⟨fun f σ H => ∃ n m xs1 kvs1 S p, BW CL CP CT A T H0 j af sl Q E f σ H n m xs1 kvs1 S p, ⟨8, n, m, xs, kvs, S, p, Nat.le_refl _, rfl, pw.mono s1, hp, hl, hkv, hm, ?_⟩, fun f σ H h => ?_⟩
    · rw [← blk_of]
      exact k
    · clear pw hl hkv hm k
      obtain ⟨n, m, xs1, kvs1, S, p, W⟩ := h
      obtain ⟨f8, rfl, pw, hp, hl, hkv, hm, k⟩ := W
      have k' := k
      rw [dp_oOf] at k'
      have tw : ∀ {H' : Hp}, Same H H' → TruV K (.ref p) H' (!((wordsAt T.rows n (3 - j)).map V.str).isEmpty) := fun e => .inl ⟨_, SqL.of (e _ _ hp), rfl⟩
      cases hw : wordsAt T.rows n (3 - j) with
      | nil =>
        have tf : ∀ {H' : Hp}, Same H H' → TruV K (.ref p) H' false := fun e => by
          have := tw e
          rw [hw] at this
          exact this
        refine ⟨_, rfl, false, tf (Same.refl _), iteF ?_⟩
        refine (ans_eq2 (val_var rfl) val_c rfl) _ ?_
        by_cases c8 : f = 8
        · subst c8
          refine iteT ⟨fun _ _ => False, fun _ _ h => h.elim, ?_⟩
          dsimp only [tDrop]
          refine meth_run (val_fld (val_var rfl) pw.pg N.C.cl N.C.lines pf_lines) pw.li.o (lf_no (by decide +kernel) (by decide +kernel)) ?_
          refine ⟨_, rfl, false, tf (Same.refl _), iteF ?_⟩
          refine ⟨A.l, A.dl, A.r, T.rows, n, _, false, rfl, pw.li, tf (Same.refl _), fun e => absurd e Bool.false_ne_true, fun _ => ErrK.mono ?_ pw.s0⟩
          unfold blockR at k'
          rw [if_pos hw] at k'
          exact k'
        · have ed : decide (V.int ((8 - f : Nat) : Int) = V.int 0) = false := decide_eq_false fun e => by
            injection e with e
            omega
          rw [ed]
          refine iteF ?_
          cases f with
          | zero =>
            unfold blockR at k'
            rw [if_pos hw] at k'
            exact k' H xs1 kvs1 (by rw [List.append_nil]; exact pw) hl hkv hm
          | succ f =>
            unfold blockR at k'
            rw [if_pos hw, if_neg (by omega)] at k'
            exact k' H xs1 kvs1 (by rw [List.append_nil]; exact pw) hl hkv hm
      | cons z r =>
        have hwn : wordsAt T.rows n (3 - j) ≠ [] := by rw [hw]; exact fun e => nomatch e
        have hn : n < T.rows.length := wordsAt_lt hwn
        have tt : ∀ {H' : Hp}, Same H H' → TruV K (.ref p) H' true := fun e => by
          have := tw e
          rw [hw] at this
          exact this
        refine ⟨_, rfl, true, tt (Same.refl _), iteT ?_⟩
        refine iteT ⟨fun σ' H' => ∃ n m xs1 kvs1 S p, BW CL CP CT A T H0 j af sl Q E (f - 1) σ' H' n m xs1 kvs1 S p ∧ 0 < f, fun σ' H' h => ?_, ?_⟩
        · obtain ⟨n, m, xs1, kvs1, S, p, h, hf⟩ := h
          exact ⟨f - 1, by omega, n, m, xs1, kvs1, S, p, h⟩
        dsimp only [tDrop, tSeq]
        refine meth_run (val_fld (val_var rfl) pw.pg N.C.cl N.C.lines pf_lines) pw.li.o (lf_no (by decide +kernel) (by decide +kernel)) ?_
        refine ⟨_, rfl, true, tt (Same.refl _), iteT ?_⟩
        refine (val_andTB (val_i0b (val_var rfl) val_c) (val_i0b (val_fld (val_var rfl) pw.pg N.C.cl N.C.many pf_many) val_c)) _ ?_
        refine ⟨A.l, A.dl, A.r, T.rows, n, _, _, rfl, pw.li, rfl, fun e1 => ?_, fun e1 => ErrK.mono ?_ pw.s0⟩
        · rw [Bool.and_eq_true] at e1
          have hf : 8 - f < 8 := by
            have := of_decide_eq_true e1.1
            omega
          have hm24 : m < 24 := by
            have := of_decide_eq_true e1.2
            omega
          obtain ⟨f, rfl⟩ : ∃ g, f = g + 1 := ⟨f - 1, by omega⟩
          unfold blockR at k'
          rw [if_neg hwn, if_pos hm24] at k'
          refine meth_run (val_fld (val_var rfl) pw.pg N.C.cl N.C.lines pf_lines) pw.li.o (lf_no (by decide +kernel) (by decide +kernel)) ?_
          have vz : Val (tOp rEq (tOp (rIxL K) (tVar 4) (tC (.int 0))) (tC (.str "ask"))) [some (.ref A.g), some (.int ((3 - j : Nat) : Int)), some (.bl af), some (.int ((8 - (f + 1) : Nat) : Int)), some (.ref p)] H (.bl (decide (V.str z = V.str "ask"))) :=
            val_op (val_ixL (val_var rfl) val_c (SqL.of hp) (atI_nat (j := 0) (by rw [hw]; rfl))) val_c fun Q q => ⟨rfl, q⟩
          refine (val_orV (val_i0b (val_var rfl) val_c) fun _ => val_orV (val_notV (val_var rfl)) fun _ => vz) _ ?_
          have a1 : decide ((0 : Int) < ((8 - (f + 1) : Nat) : Int)) = decide (f ≠ 7) := decide_eq_decide.mpr ⟨fun e => by omega, fun e => by omega⟩
          have hcond : (decide ((0 : Int) < ((8 - (f + 1) : Nat) : Int)) || (!af || decide (V.str z = V.str "ask"))) = (decide (f ≠ 7) || (!af || decide ((wordsAt T.rows n (3 - j)).getD 0 "" = ("ask" : Str)))) := by
            rw [a1, dec_str, hw]
            rfl
          rw [hcond]
          refine ⟨A.l, A.dl, A.r, T.rows, n, _, _, rfl, pw.li, rfl, fun e2 => ?_, fun e2 => ErrK.mono ?_ pw.s0⟩
          · rw [if_pos e2] at k'
            have k1 : (stmtR T (subR T (oOf j)) (3 - j) (wordsAt T.rows n (3 - j)) n (m + 1) xs1.length S.as).K (fun n1 m1 more as1 => (blockR T (stmtR T (subR T (oOf j)) (3 - j)) (3 - j) af f n1 m1 (xs1.length + more.length) as1).K (BQ CL CP A T H0 ⟨S.ds ++ more, as1⟩ sl Q) fun e => ErrK CT (.int e) H0 E) fun e => ErrK CT (.int e) H0 E := by
              revert k'
              match stmtR T (subR T (oOf j)) (3 - j) (wordsAt T.rows n (3 - j)) n (m + 1) xs1.length S.as with
              | .ok (n1, m1, more, as1) =>
                dsimp only
                show (match blockR T (stmtR T (subR T (oOf j)) (3 - j)) (3 - j) af f n1 m1 (xs1.length + more.length) as1 with | .ok (n2, m2, more2, as2) => .ok (n2, m2, more ++ more2, as2) | .error e => .error e : Res).K _ _ → (blockR T (stmtR T (subR T (oOf j)) (3 - j)) (3 - j) af f n1 m1 (xs1.length + more.length) as1).K _ _
                match blockR T (stmtR T (subR T (oOf j)) (3 - j)) (3 - j) af f n1 m1 (xs1.length + more.length) as1 with
                | .ok (n2, m2, more2, as2) =>
                  intro k H' xs' kvs' p' h1 h2 h3
                  refine k H' xs' kvs' ?_ h1 h2 h3
                  rw [← List.append_assoc]
                  exact p'
                | .error e => exact fun k => k
              | .error e => exact fun k => k
            refine ⟨_, rfl, _, 1, rfl, rfl, ?_⟩
            refine ⟨_, rfl, A.g, CP, A.dg, _, _, rfl, pw.pg, N.C.cl, N.C.many, pf_many, m, 1, rfl, rfl, A.dg, _, pw.pg, by show 7 < 1000; decide, ?_⟩
            have eH : upd H A.g (.ins CP A.dg (putF "many" (.int ((m : Int) + 1)) (pf A T m))) = upd H A.g (.ins CP A.dg (pf A T (m + 1))) := by
              rw [show ((m : Int) + 1) = ((m + 1 : Nat) : Int) from rfl, pf_put]
            rw [eH]
            have p2 := pw.count (m + 1)
            have hp2 := at_but (b := A.g) (o := .ins CP A.dg (pf A T (m + 1))) hp (by rw [pw.pg]; exact fun e => nomatch e)
            refine meth_run (val_var rfl) p2.pg (pf_no (by decide +kernel)) ?_
            refine (val_var rfl) _ ((val_var rfl) _ ?_)
            refine ⟨A, T, H0, n, m + 1, xs1, kvs1, S, p, wordsAt T.rows n (3 - j), sl, by rw [dp_oOf]; rfl, p2, tx, hp2, words_ok tx.sz, hwn, words_many tx.sz, hn, by omega, by omega, by omega, ?_⟩
            show (stmtR T (subR T (oOf j)) (dpO (oOf j)) _ n (m + 1) _ _).K _ _
            rw [dp_oOf]
            refine Res.K.mono k1 (fun n1 m1 more as1 q H3 xs3 kvs3 p3 hl3 hk3 hm3 => ?_) fun e h => h
            refine meth_run (val_fld (val_var rfl) p3.pg N.C.cl N.C.lines pf_lines) p3.li.o (lf_no (by decide +kernel) (by decide +kernel)) ?_
            refine (val_var rfl) _ ?_
            refine ⟨A.l, A.dl, A.r, T.rows, n1, 3 - j, rfl, p3.li, tx.sz, by omega, fun H4 p4 s4 np4 hp4 => ?_⟩
            dsimp only [gName]
            refine ⟨n1, m1, xs3, kvs3, _, p4, ⟨by omega, ?_, p3.mono s4, hp4, hl3, hk3, hm3, ?_⟩, Nat.succ_pos _⟩
            · have e : (((8 - (f + 1) : Nat) : Int) + 1) = ((8 - (f + 1 - 1) : Nat) : Int) := by omega
              show [some (V.ref A.g), some (.int ((3 - j : Nat) : Int)), some (.bl af), some (.int (((8 - (f + 1) : Nat) : Int) + 1)), some (.ref p4)] = _
              rw [e]
            · have l3 : xs3.length = xs1.length + more.length := by
                rw [p3.lens, pw.lens]
                exact List.length_append
              rw [dp_oOf, l3]
              exact q
          · rw [e2, if_neg Bool.false_ne_true] at k'
            exact k'
        · cases f with
          | zero =>
            unfold blockR at k'
            rw [if_neg hwn] at k'
            exact k'
          | succ f =>
            have hm24 : ¬ m < 24 := fun c => by
              have a1 : decide (((8 - (f + 1) : Nat) : Int) < 8) = true := decide_eq_true (by omega)
              have a2 : decide ((m : Int) < 24) = true := decide_eq_true (by omega)
              rw [a1, a2] at e1
              exact nomatch e1
            unfold blockR at k'
            rw [if_neg hwn, if_neg hm24] at k'
            exact k'
end
end K5
namespace K5
open PySem PySem.Spec PyProof.Rows L2
section
variable {P : Program} {w : World} {K : PySem.W.Frag} {mg : Str → Option Value} {base : Heap} {CL CP CT fNeed fNum fDoor : Addr} {dNeed dNum dDoor : FuncData} {fWords fStep fCond fPlain : Addr} {dWords dStep dCond dPlain : FuncData}
/-- the readers that call one another -/
structure En3 (K : PySem.W.Frag) (CP : Addr) (fH fI fW fS fB : Addr) (dH dI dW dS dB : FuncData) : Prop where
  h : Mf K CP "read_head" "Program.read_head" s_Program_read_head fH dH ["self", "words", "depth"]
  i : Mf K CP "read_if" "Program.read_if" s_Program_read_if fI dI ["self", "words", "depth"]
  w : Mf K CP "read_while" "Program.read_while" s_Program_read_while fW dW ["self", "words", "depth"]
  s : Mf K CP "read_statement" "Program.read_statement" s_Program_read_statement fS dS ["self", "words", "depth"]
  b : Mf K CP "read_block" "Program.read_block" s_Program_read_block fB dB ["self", "depth", "asks_first"]
theorem ok_block {fH fI fW fS fB : Addr} {dH dI dW dS dB : FuncData} (N : En P w K mg base CL CP CT fNeed fNum fDoor dNeed dNum dDoor) (M : En2 P w K mg base CL CP CT fWords fStep fCond fPlain dWords dStep dCond dPlain) (R : En3 K CP fH fI fW fS fB dH dI dW dS dB) :
    ∀ j : Nat, j ≤ 3 → FnOk P w K mg base (L2.CX P w) (13 + 3 * j) fB dB ["self", "depth", "asks_first"] (spBlock CL CP CT j)
  | 0, _ => by
    have G0 : FnOk P w K mg base (L2.CX P w) 10 fB dB ["self", "depth", "asks_first"] (spBlockO CL CP CT none) := R.b.F.okX sc_Program_read_block (fun vs H Q E h => h.elim) (fun cdv A0 outer s H vs Q E hr h => h.elim)
    exact ok_read_block (kb := 10) (j := 0) (by decide) N M R.b.F R.s (ok_read_statement (o := none) (by decide) (fun j e => nomatch e) N M R.s.F R.i R.w R.h R.b G0)
  | j + 1, h => by
    have G0 : FnOk P w K mg base (L2.CX P w) (13 + 3 * j) fB dB ["self", "depth", "asks_first"] (spBlockO CL CP CT (some j)) := ok_block N M R j (by omega)
    exact ok_read_block (kb := 13 + 3 * j) (j := j + 1) (by omega) N M R.b.F R.s (ok_read_statement (o := some j) (by omega) (fun i e => by cases e; omega) N M R.s.F R.i R.w R.h R.b G0)
/-- behind the last statement 0 is answered -/
def endD : PyData := .tuple [.str "answer", .tuple [.str "worth", .int 0]]
/-- what reading a door leaves -/
def DQ (CL CP : Addr) (A : Ad) (T : Tx) (H0 : Hp) (S : SD) (sl : Nat) (Q : VK) (n m : Nat) (more : List PyData) (as : Ak) : Prop :=
  ∀ (H' : Hp) (xs' : List V) (kvs' : List (Key × V)), Wd CL CP A T H0 H' n m xs' kvs' ⟨S.ds ++ (more ++ [endD]), as⟩ → xs'.length + sl ≤ 2 * m + 100 → kvs'.length ≤ m + 100 → m ≤ 24 → Q (.int (S.ds.length : Nat)) H'
def spReadDoor (CL CP CT : Addr) : Sp := fun vs H Q E => ∃ (A : Ad) (T : Tx) (H0 : Hp) (n m : Nat) (xs : List V) (kvs : List (Key × V)) (S : SD) (sl : Nat), vs = [.ref A.g] ∧ Wd CL CP A T H0 H n m xs kvs S ∧ TxOk T ∧
  xs.length + 1 + sl ≤ 2 * m + 100 ∧ kvs.length ≤ m + 100 ∧ m ≤ 24 ∧ (blk T 2 false n m S.ds.length S.as).K (DQ CL CP A T H0 S sl Q) fun e => ErrK CT (.int e) H0 E
theorem ok_read_door {f fB : Addr} {fd dB : FuncData} (N : En P w K mg base CL CP CT fNeed fNum fDoor dNeed dNum dDoor) (F : Fun K "read_door" "Program.read_door" s_Program_read_door f fd) (Mb : Mf K CP "read_block" "Program.read_block" s_Program_read_block fB dB ["self", "depth", "asks_first"]) (Gb : FnOk P w K mg base (L2.CX P w) 19 fB dB ["self", "depth", "asks_first"] (spBlock CL CP CT 2)) :
    FnOk P w K mg base (L2.CX P w) 20 f fd ["self"] (spReadDoor CL CP CT) := by
  refine F.okX sc_Program_read_door (fun vs H Q E h => ?_) (fun cdv A0 outer s H vs Q E hr h => ?_)
  · obtain ⟨A, T, H0, n, m, xs, kvs, S, sl, rfl, _⟩ := h
    rfl
  · obtain ⟨A, T, H0, n, m, xs, kvs, S, sl, rfl, pw, tx, hl, hkv, hm, k⟩ := h
    have Sc := sc_Program_read_door
    refine ⟨_, (pss_cons (ps_set (i := 1) Sc.nd rfl (.inl rfl) (pe_callB call_len_seq (by rfl) N.B.m_len PySem.boot_len (pa_cons (pe_fld (pv 0) rfl) pa_nil)))
      (pss_cons (ps_expr (pe_meth (pv 0) N.C.cl Mb.m Gb (hr.mono (by decide)) Mb.b .nil (pxp rfl rfl rfl rfl) (pa_cons pe_int (pa_cons pe_bl pa_nil))))
      (pss_cons (ps_expr (pe_bm PySem.F.plainAttrs_list PySem.F.slot_list_append PySem.F.type_list_append mt_append (pe_fld (pv 0) rfl) (pa_cons (pe_tup (pa_cons pe_str (pa_cons (pe_tup (pa_cons pe_str (pa_cons pe_int pa_nil))) pa_nil))) pa_nil)))
      (pss_one (ps_ret (pv 1)))))), ?_⟩
    dsimp only [tNext, tSeq, tAsg, tDrop, tRet]
    refine (val_lenL (val_fld (val_var rfl) pw.pg N.C.cl N.C.steps pf_steps) (SqL.of pw.st)) _ ?_
    dsimp only [gName]
    refine meth_run (val_var rfl) pw.pg (pf_no (by decide +kernel)) ?_
    have eS := pw.lens
    refine ⟨A, T, H0, n, m, xs, kvs, S, false, sl + 1, rfl, pw, tx, by omega, hkv, hm, ?_⟩
    rw [eS]
    refine Res.K.mono k (fun n1 m1 more as1 q H1 xs1 kvs1 p1 hl1 hk1 hm1 => ?_) fun e h => h
    refine bm_run (val_fld (val_var rfl) p1.pg N.C.cl N.C.steps pf_steps) (.inl ⟨rfl, _, SqL.of p1.st⟩) ?_
    refine ⟨by show 2 ≤ sizeLine; decide, fun o no => ?_⟩
    have p2 := p1.mono (same_upd (o := .tup [.str "worth", .int 0]) no)
    have ho2 : Tr (upd H1 o (.tup [.str "worth", .int 0])) (.ref o) (.tuple [.str "worth", .int 0]) := tr2 upd_same (.str _) (.int _)
    generalize (upd H1 o (.tup [.str "worth", .int 0])) = H2 at p2 ho2
    refine ⟨by show 2 ≤ sizeLine; decide, fun o3 no3 => ?_⟩
    have s3 := same_upd (o := .tup [.str "answer", .ref o]) no3
    have p3 := p2.mono s3
    have ho3 : Tr (upd H2 o3 (.tup [.str "answer", .ref o])) (.ref o3) endD := tr2 upd_same (.str _) (ho2.mono s3)
    generalize (upd H2 o3 (.tup [.str "answer", .ref o])) = H3 at p3 ho3
    refine ⟨A.st, xs1, .ref o3, rfl, rfl, p3.st, small1000 (by omega), ?_⟩
    have p4 := p3.push ho3
    refine ⟨_, rfl, ?_⟩
    have q4 := q (upd H3 A.st (.lst (xs1 ++ [.ref o3]))) (xs1 ++ [.ref o3]) kvs1 (by rw [← List.append_assoc]; exact p4) (by rw [List.length_append]; show xs1.length + 1 + sl ≤ _; omega) hk1 hm1

    exact q4
abbrev s_Program___init__ : Stmt := inClass (topS 36) 0
theorem sc_Program___init__ : FnScope ["self", "lines", "worths", "cells", "ports"] ["self", "lines", "worths", "cells", "ports"] (defScope s_Program___init__) := ⟨rfl, rfl, rfl, by decide +kernel, rfl, by decide +kernel, by decide +kernel⟩
def spProgram (CP : Addr) : Sp := fun vs H Q _ => ∃ (l g dg ct pt : Addr) (wn : Int), vs = [.ref g, .ref l, .int wn, .ref ct, .ref pt] ∧ H g = some (.ins CP dg []) ∧
  ∀ (H' : Hp) (st ak : Addr), SameBut g H H' → H st = none → H ak = none → H' g = some (.ins CP dg [("lines", .ref l), ("worths", .int wn), ("cells", .ref ct), ("ports", .ref pt), ("steps", .ref st), ("asks", .ref ak), ("many", .int 0)]) → H' st = some (.lst []) → H' ak = some (.dK []) → Q .non H'
theorem put_app {f : Str} {v : V} {ns : List Str} : ∀ {fs : List (Str × V)}, fs.map (·.1) = ns → (∀ x ∈ ns, ¬ x = f) → putF f v fs = fs ++ [(f, v)]
  | [], _, _ => rfl
  | (g, x) :: r, e, h => by
    subst e
    rw [put_tl (h g (List.mem_cons_self ..)), put_app (fs := r) rfl fun y hy => h y (List.mem_cons_of_mem _ hy)]
    rfl
theorem fld_new {D : Ends} {σ : L2.St} {H : Hp} {f : Str} {v : V} {to tv : TE} {g C dg : Addr} {fs : List (Str × V)} (ns : List Str) (hv : Val tv σ H v) (ho : Val to σ H (.ref g)) (hg : H g = some (.ins C dg fs)) (cl : Cls K C) (na : NoAttr K C f) (hns : fs.map (·.1) = ns) (hf : ∀ x ∈ ns, ¬ x = f) (hl : ns.length ≤ 100)
    (k : ∀ H', SameBut g H H' → H' g = some (.ins C dg (fs ++ [(f, v)])) → D.nx σ H') : sFld K to tv f D σ H := by
  have e := put_app (v := v) hns hf
  have l : fs.length ≤ 100 := by
    have : fs.length = ns.length := by rw [← hns, List.length_map]
    omega
  refine hv _ (ho _ ⟨g, C, dg, fs, rfl, hg, cl, na, by omega, ?_⟩)
  rw [e]
  exact k _ (SameBut.upd g H _) upd_same
theorem ok_Program_init {f : Addr} {fd : FuncData} (C : ClP K CP) (F : Fun K "__init__" "Program.__init__" s_Program___init__ f fd) : FnOk P w K mg base CX0 1 f fd ["self", "lines", "worths", "cells", "ports"] (spProgram CP) := by
  refine F.ok sc_Program___init__ (fun vs H Q E h => ?_) (fun cdv A0 outer s H vs Q E hr h => ?_)
  · obtain ⟨l, g, dg, ct, pt, wn, rfl, _⟩ := h
    rfl
  · obtain ⟨l, g, dg, ct, pt, wn, rfl, hg, k⟩ := h
    have Sc := sc_Program___init__
    refine ⟨_, (pss_cons (ps_fld (pv 0) (pv 1) rfl)
      (pss_cons (ps_fld (pv 0) (pv 2) rfl)
      (pss_cons (ps_fld (pv 0) (pv 3) rfl)
      (pss_cons (ps_fld (pv 0) (pv 4) rfl)
      (pss_cons (ps_fld (pv 0) (pe_lst pa_nil) rfl)
      (pss_cons (ps_fld (pv 0) pe_dnewK rfl)
      (pss_one (ps_fld (pv 0) pe_int rfl)))))))), ?_⟩
    dsimp only [tSeq]
    refine fld_new [] (val_var rfl) (val_var rfl) hg C.cl C.lines rfl (by decide +kernel) (by decide) fun H1 s1 g1 => ?_
    refine fld_new ["lines"] (val_var rfl) (val_var rfl) g1 C.cl C.worths rfl (by decide +kernel) (by decide) fun H2 s2 g2 => ?_
    refine fld_new ["lines", "worths"] (val_var rfl) (val_var rfl) g2 C.cl C.cells rfl (by decide +kernel) (by decide) fun H3 s3 g3 => ?_
    refine fld_new ["lines", "worths", "cells"] (val_var rfl) (val_var rfl) g3 C.cl C.ports rfl (by decide +kernel) (by decide) fun H4 s4 g4 => ?_
    refine ⟨by show 0 ≤ sizeLine; decide, fun st nst => ?_⟩
    have s5 := same_upd (o := .lst []) nst
    have st5 : (upd H4 st (.lst [])) st = some (.lst []) := upd_same
    have g5 := s5 _ _ g4
    have nsg : st ≠ g := fun e => by rw [e, g4] at nst; exact nomatch nst
    have s04 := ((s1.trans s2).trans s3).trans s4
    have s05 := s04.trans (SameBut.of_same s5)
    have n0 : H st = none := by
      cases e : H st with
      | none => rfl
      | some o => exact absurd ((s04 _ _ nsg e).symm.trans nst) (fun z => nomatch z)
    generalize (upd H4 st (.lst [])) = H5 at s5 st5 g5 s05
    refine fld_new ["lines", "worths", "cells", "ports"] val_c (val_var rfl) g5 C.cl C.steps rfl (by decide +kernel) (by decide) fun H6 s6 g6 => ?_
    have st6 := s6 _ _ nsg st5
    refine fun ak nak => ?_
    have s7 := same_upd (o := .dK []) nak
    have ak7 : (upd H6 ak (.dK [])) ak = some (.dK []) := upd_same
    have g7 := s7 _ _ g6
    have nag : ak ≠ g := fun e => by rw [e, g6] at nak; exact nomatch nak
    have st7 := s7 _ _ st6
    have s06 := s05.trans s6
    have s07 := s06.trans (SameBut.of_same s7)
    have na0 : H ak = none := by
      cases e : H ak with
      | none => rfl
      | some o => exact absurd ((s06 _ _ nag e).symm.trans nak) (fun z => nomatch z)
    generalize (upd H6 ak (.dK [])) = H7 at s7 ak7 g7 st7 s07
    refine fld_new ["lines", "worths", "cells", "ports", "steps"] val_c (val_var rfl) g7 C.cl C.asks rfl (by decide +kernel) (by decide) fun H8 s8 g8 => ?_
    refine fld_new ["lines", "worths", "cells", "ports", "steps", "asks"] val_c (val_var rfl) g8 C.cl C.many rfl (by decide +kernel) (by decide) fun H9 s9 g9 => ?_
    exact k H9 st ak ((s07.trans s8).trans s9) n0 na0 g9 (s9 _ _ nsg (s8 _ _ nsg st7)) (s9 _ _ nag (s8 _ _ nag ak7))
end
end K5
namespace K5
open PySem PySem.Spec PyProof.Rows L2
/-! ### tuple(d.items()) -/
theorem paired_imp {α β : Type} {F G : α → β → Prop} (h : ∀ x y, F x y → G x y) : ∀ {xs : List α} {ys : List β}, Paired F xs ys → Paired G xs ys
  | _, _, .nil => .nil
  | _, _, .cons r t => .cons (h _ _ r) (paired_imp h t)
section
variable {prog : PySem.Program} {w : World} {A : Around} {E : Value → Shared → Prop} {s : Shared} {r d : Addr} {ep : Nat}
theorem made_tuple_items {kvs : List (Key × Value)} {Z : Value → Shared → Prop} (calm : A.handled = none) (view : s.heap.IsItemsView r d) (at' : s.heap.DictAt (mixKind prog w) d kvs ep) (few : kvs.length ≤ sizeLine)
    (then' : ∀ (h1 : Heap) (tk : Nat) (ts : List Addr), (∀ c u, s.heap.get? c = some u → h1.get? c = some u) → ts.length = kvs.length → PySem.W.KdxG (mixKind prog w) kvs s.heap.objs.size h1 ts →
      Z (.ref h1.objs.size) { s with heap := h1.push { cls := .type "tuple", data := .seq (ts.map Value.ref).toArray }, toks := tk }) :
    codeAny (model prog w) A (.call (.builtin "tuple.__new__") ⟨[.type "tuple", .ref r], []⟩) (wants Z E) s := by
  refine codeAny_of_tree ?_
  show wpAny _ A.in1 (do
    checkBuiltinCall "tuple.__new__" ⟨[.type "tuple", .ref r], []⟩
    again (.builtin "tuple.__new__" ⟨[.type "tuple", .ref r], []⟩)) _ _ s
  have pid := F.plain_tuple_new
  refine wpAny_bind (wpAny_of_eq (F.newCall_tuple_1 _) (wpAny_pure ⟨plainId_quiet pid _, codeAny_builtin F.entry_tuple_new ?_⟩))
  rw [Around.under_plainId pid _]
  have fj := sub_tuple_self
  have fk := init_tuple_lookup
  have fv := madeHere_tuple
  have f4 : s.TypeIs (.ref r) "dict_items" := by
    obtain ⟨ov, h1, h2, _⟩ := view
    exact ⟨ov, h1, h2⟩
  have f5 : A.in1.handled = none := calm
  wp_walk using wpAny_typeOf f4, PySem.W.kdx_collect (A := A.in1) (knd := mixKind prog w) f5 view at' few
  intro h1 tk ts keep hl hG
  show wpAny _ _ (Builtin.Tuple.tupleExact (ts.map Value.ref).toArray >>= fun x => ret x) _ _ _
  rw [Builtin.Tuple.tupleExact]
  refine wpAny_bind (wpAny_newObj_type ?_ (by show (ts.map Value.ref).toArray.size ≤ sizeLine; rw [List.size_toArray, List.length_map, hl]; exact few))
  exact wpAny_pure (then' h1 tk ts keep hl hG)
theorem called_tuple_items {kvs : List (Key × Value)} {Z : Value → Shared → Prop} (calm : A.handled = none) (view : s.heap.IsItemsView r d) (at' : s.heap.DictAt (mixKind prog w) d kvs ep) (few : kvs.length ≤ sizeLine)
    (then' : ∀ (h1 : Heap) (tk : Nat) (ts : List Addr), (∀ c u, s.heap.get? c = some u → h1.get? c = some u) → ts.length = kvs.length → PySem.W.KdxG (mixKind prog w) kvs s.heap.objs.size h1 ts →
      Z (.ref h1.objs.size) { s with heap := h1.push { cls := .type "tuple", data := .seq (ts.map Value.ref).toArray }, toks := tk }) :
    wpAny (model prog w) A (call (.type "tuple") [.ref r]) Z E s := by
  refine callType_codes (Q₁ := fun y s1 => s1.TypeIs y "tuple" ∧ Z y s1) F.called_tuple (F.typeCall_tuple_1 _) F.entry_object_init
    (made_tuple_items (A := A.in1) calm view at' few fun h1 tk ts k1 k2 k3 => ⟨⟨_, Heap.get?_push_size _ rfl, rfl⟩, then' h1 tk ts k1 k2 k3⟩) fun y s1 z => ?_
  exact ⟨z.1, F.args_object_init_2 y _, object_init_meets F.called_tuple.init.lookup F.called_tuple.made (by decide) prog w A.in1 _ s1 ⟨z.1, rfl, z.2⟩⟩
end
/-- tuple(d.items()) -/
def tTupItems (te : TE) : TE := fun σ H Q => te σ H fun x H1 => ∃ (d : Addr) (kvs : List (Key × V)), x = .ref d ∧ H1 d = some (.dK kvs) ∧
  ∀ (H' : Hp) (p : Addr) (ts : List Addr), Same H1 H' → H1 p = none → H' p = some (.tup (ts.map V.ref)) → Paired (fun (t : Addr) (q : Key × V) => H' t = some (.tup [kV q.1, q.2])) ts kvs → Q (.ref p) H'
section
variable {X : Cx} {e : Expr} {te : TE} {p ap0 cp0 pos : Pos}
theorem pairs_laid {pins : List (Addr × Obj)} {σ : L2.St} {H : Hp} {s : Shared} {h1 : Heap} {tk : Nat} {kvs : List (Key × V)} {vs : List (Key × Value)} {ts : List Addr} (I : Inv X pins σ H s) (kv : KV kvs vs)
    (keep : ∀ c u, s.heap.get? c = some u → h1.get? c = some u) (hl : ts.length = vs.length) (hG : PySem.W.KdxG (mixKind X.prog X.w) vs s.heap.objs.size h1 ts) :
    ∃ H' : Hp, Same H H' ∧ Paired (fun (t : Addr) (q : Key × V) => H' t = some (.tup [kV q.1, q.2])) ts kvs ∧ Inv X pins σ H' { s with heap := h1, toks := tk } := by
  have lenEq : kvs.length = vs.length := Paired.length kv
  have nd : ts.Nodup := List.Pairwise.imp (fun {a b} (z : a < b) => Nat.ne_of_lt z) hG.rise
  have fresh : ∀ t ∈ ts, H t = none := fun t z => I.hok.fresh (Nat.le_of_lt (hG.above t z))
  have atP := LiI.putT_at ts kvs H (by omega) nd
  have off : ∀ c, c ∉ ts → LiI.putT H ts kvs c = H c := fun c z => LiI.putT_off ts kvs H z
  have low : ∀ c u, s.heap.get? c = some u → c ∉ ts := fun c u e z => absurd (Heap.lt_size e) (Nat.not_lt.mpr (Nat.le_of_lt (hG.above c z)))
  have kp : ∀ c u, H c = some u → (LiI.putT H ts kvs) c = some u := fun c u e => by
    rw [off c fun z => by rw [fresh c z] at e; cases e]
    exact e
  refine ⟨LiI.putT H ts kvs, kp, atP, ?_⟩
  refine I.call' (ch := []) rfl ⟨fun c o q _ _ _ => keep c o q, fun c o q _ _ _ => ⟨o.slots, keep c o q⟩, fun c o q n _ => ?_, fun c o q _ => ⟨o, keep c o q⟩, fun c xs q => kp c _ q, fun c o u q => kp c _ q, fun c ps q => ⟨#[], by rw [kp c _ q]; simp⟩⟩ (fun c u q => ?_) I.bare fun c z => by simp at z
  · rw [off c (low c o q)]
    exact n
  · by_cases hc : c ∈ ts
    · obtain ⟨j, pk, e1, e2, e3⟩ := LiI.paired_ix atP hc
      rw [e3] at q
      cases q
      obtain ⟨key, k, x, fj, fk, fv⟩ := hG.pairs j c e1
      obtain ⟨qv, g1, g2, gv⟩ := LiI.paired_get kv e2
      rw [fj] at g1
      cases g1
      have rKey : RelV (kV pk.1) key := by
        rw [g2]
        exact relV_key (show keyIs k key = true from fk)
      exact ⟨by show 2 ≤ sizeLine; decide, [key, x], .cons rKey (.cons gv .nil), ⟨_, fv, rfl, _, rfl⟩⟩
    · rw [off c hc] at q
      exact (I.hok c u q).stay (fun d v _ y => keep d v y) (fun d y => kp d _ y) fun d xs y => kp d _ y
theorem pe_tupItems (hc : X.calm = true) (he : PE X e te) (hg : Gl X "tuple") (hm : X.mg "tuple" = none) (base1 : attributeBase e "items" X.env (eval e X.env) = eval e X.env := by rfl) (line1 : (ap0.endLine == cp0.line) = true := by rfl)
    (star1 : starEach [.Call (.Attribute e "items" ap0) [] [] cp0] X.env = (false, eval (.Call (.Attribute e "items" ap0) [] [] cp0) X.env) :: starEach [] X.env := by rfl) :
    PE X (.Call (.Name "tuple" p) [.Call (.Attribute e "items" ap0) [] [] cp0] [] pos) (tTupItems te) := by
  refine ⟨fun pins s σ H Q I hh0 => ?_⟩
  refine wpAny_Call_Name_kw (ld_blt I hg hm boot_tuple ?_)
  refine PyProof.Rows.callWith_type1 ?_ star1 rfl
  rw [star1]
  show wpAny _ _ (spliced ((false, eval (.Call (.Attribute e "items" ap0) [] [] cp0) X.env) :: backTo pos (starEach [] X.env))) _ _ s
  refine Calls.spliced_cons ?_
  refine wpAny_Call_method (T := "dict") (id := "dict.items") base1 rfl line1 F.plainAttrs_dict F.slot_dict_items F.type_dict_items (thn (he.run pins s σ H _ I hh0) fun u s1 ⟨x, H1, IA, rx, d, kvs, ex, hd, q⟩ => ?_)
  subst ex
  obtain rfl : u = Value.ref d := rx
  obtain ⟨hz, lo0, vs, kv, dOf1⟩ := IA.hok d _ hd
  obtain ⟨ep, dAt1⟩ := dOf1.dictAt
  have lenEq : kvs.length = vs.length := Paired.length kv
  have IB : Inv X pins σ H1 { s1 with heap := s1.heap.push { cls := .type "dict_items", data := .fields #[.ref d] } } := IA.kept (t' := s1.toks) fun c ob q => Heap.get?_push_of_some _ q
  refine ⟨dOf1.typeIs, dOf1.mapOf.noDict, ?_⟩
  show wpAny _ _ (callWith cp0 (.builtin "dict.items") [.ref d] [] []) _ X.xe s1
  refine method_meetsIn F.slot_dict_items F.entry_dict_items rfl (PySem.evalArgs_none ⟨rfl, dOf1.typeIs, F.args_dict_items_1 _, _, meets_dict_items (mixKind X.prog X.w) d lo0, ⟨vs, dOf1⟩, ?_⟩)
  refine Calls.spliced_nil ?_
  refine called_tuple_items (kvs := vs) (ep := ep) (IA.ok.hd hc) ⟨_, Heap.get?_push_size _ rfl, rfl, rfl⟩ (dAt1.push _) (by omega) fun h1 tk ts keep hl hG => ?_
  obtain ⟨H', k1, k2, J⟩ := pairs_laid (tk := tk) IB kv keep hl hG
  have J2 : Inv X pins σ (upd H' h1.objs.size (.tup (ts.map V.ref))) { s1 with heap := h1.push { cls := .type "tuple", data := .seq (ts.map Value.ref).toArray }, toks := tk } :=
    J.laid (t' := tk) (fun c o e => Heap.get?_push_of_some _ e) (Nat.le_refl _) (show ObjOk X.prog X.w _ _ _ (.tup (ts.map V.ref)) from ⟨by rw [List.length_map]; omega, ts.map Value.ref, LiI.vals_refs ts, IsTup.new _ _⟩)
  have nf : H' h1.objs.size = none := J.hok.fresh (Nat.le_refl _)
  have s3 := same_upd (o := .tup (ts.map V.ref)) nf
  refine ⟨.ref h1.objs.size, _, J2, rfl, q _ _ ts (fun c u e => s3 _ _ (k1 c u e)) ?_ upd_same ?_⟩
  · cases e : H1 h1.objs.size with
    | none => rfl
    | some o => exact absurd ((k1 _ _ e).symm.trans nf) (fun z => nomatch z)
  · exact paired_imp (fun t q e => s3 _ _ e) k2
end
end K5
namespace K5
open PySem PySem.Spec PyProof.Rows L2
/-! ### the heads of a text -/
def RK {β : Type} (r : Except Nat (Nat × β)) (q : Nat → β → Prop) (e : Nat → Prop) : Prop := match r with
  | .ok (a, b) => q a b
  | .error n => e n
theorem RK.mono {β : Type} {r : Except Nat (Nat × β)} {q q' : Nat → β → Prop} {e e' : Nat → Prop} (h : RK r q e) (hq : ∀ a b, q a b → q' a b) (he : ∀ n, e n → e' n) : RK r q' e' := by
  match r, h with
  | .ok (a, b), h => exact hq a b h
  | .error n, h => exact he n h
def portsR (rows : List Str) : Nat → Nat → List Str → Except Nat (Nat × List Str)
  | 0, n, _ => .error n
  | f + 1, n, ps =>
    if decide ((wordsAt rows n 0).take 1 = (["port"] : List Str)) = true then
      if (decide ((wordsAt rows n 0).length = 2) && decide (ps.length < 2)) = true then
        if (isName ((wordsAt rows n 0).getD 1 "") && !decide ((wordsAt rows n 0).getD 1 "" ∈ ps)) = true then portsR rows f (n + 1) (ps ++ [(wordsAt rows n 0).getD 1 ""])
        else .error n
      else .error n
    else .ok (n, ps)
/-- what the readers of heads ask -/
structure En4 (P : Program) (w : World) (K : PySem.W.Frag) (mg : Str → Option Value) (base : Heap) (CL CT : Addr) (fBegins fWords fStep fNeed fName fDoor fNum : Addr) (dBegins dWords dStep dNeed dName dDoor dNum : FuncData) : Prop where
  B : Bt mg
  L : ClL K CL
  Mb : Mf K CL "begins" "Lines.begins" s_Lines_begins fBegins dBegins ["self", "word"]
  Gb : FnOk P w K mg base CX0 2 fBegins dBegins ["self", "word"] (spBegins CL)
  Mw : Mf K CL "words" "Lines.words" s_Lines_words fWords dWords ["self", "depth"]
  Gw : FnOk P w K mg base CX0 1 fWords dWords ["self", "depth"] (spWords CL)
  Ms : Mf K CL "step" "Lines.step" s_Lines_step fStep dStep ["self"]
  Gs : FnOk P w K mg base CX0 1 fStep dStep ["self"] (spStep CL)
  Mn : Mf K CL "need" "Lines.need" s_Lines_need fNeed dNeed ["self", "right"]
  Gn : FnOk P w K mg base (L2.CX P w) 4 fNeed dNeed ["self", "right"] (spNeed K CL CT)
  Da : Df K mg "is_name" s_is_name fName dName ["value"]
  Ga : FnOk P w K mg base CX0 1 fName dName ["value"] spIsName
  Dd : Df K mg "is_door" s_is_door fDoor dDoor ["value"]
  Gd : FnOk P w K mg base CX0 2 fDoor dDoor ["value"] spIsDoor
  Du : Df K mg "number" s_number fNum dNum ["word", "many"]
  Gu : FnOk P w K mg base CX0 1 fNum dNum ["word", "many"] spNumber
  cP : ∃ t, mg "MOST_PORTS" = some (.int 2 t)
  cC : ∃ t, mg "MOST_CELLS" = some (.int 3 t)
  cD : ∃ t, mg "MOST_DOORS" = some (.int 3 t)
  cB : ∃ b, mg "BARRED_CELLS" = some (.ref b) ∧ ∀ H : Hp, SqT K H b ((["it", "got", "lost", "busy"] : List Str).map V.str)
abbrev s_read_cells : Stmt := topS 43
theorem sc_read_cells : FnScope ["lines", "worths", "cells", "words"] ["lines", "worths"] (defScope s_read_cells) := ⟨rfl, rfl, rfl, by decide +kernel, rfl, by decide +kernel, by decide +kernel⟩
abbrev s_read_ports : Stmt := topS 44
theorem sc_read_ports : FnScope ["lines", "ports", "words"] ["lines"] (defScope s_read_ports) := ⟨rfl, rfl, rfl, by decide +kernel, rfl, by decide +kernel, by decide +kernel⟩
abbrev s_read_doors : Stmt := topS 45
theorem sc_read_doors : FnScope ["lines", "program", "starts", "words"] ["lines", "program"] (defScope s_read_doors) := ⟨rfl, rfl, rfl, by decide +kernel, rfl, by decide +kernel, by decide +kernel⟩
def spPorts (CL CT : Addr) : Sp := fun vs H Q E => ∃ (H0 : Hp) (l dl r : Addr) (rows : List Str) (n : Nat), vs = [.ref l] ∧ Same H0 H ∧ H0 l = none ∧ LinesAt CL H l dl r rows n ∧ Sz rows ∧
  RK (portsR rows 3 n []) (fun n' ps => ∀ (H' : Hp) (p : Addr), Same H0 H' → LinesAt CL H' l dl r rows n' → H0 p = none → H' p = some (.tup (ps.map V.str)) → ps.length ≤ 2 → Q (.ref p) H') fun e => ErrK CT (.int e) H0 E
/-- before each turn -/
structure PW1 (CL CT : Addr) (H0 : Hp) (l dl r : Addr) (rows : List Str) (Q : Nat → List Str → Prop) (E : XK) (f : Nat) (σ : L2.St) (H : Hp) (n : Nat) (ps : List Str) (pl : Addr) : Prop where
  f3 : f + ps.length = 3
  le : ps.length ≤ 2
  st : ∃ y, σ = [some (.ref l), some (.ref pl), y]
  s0 : Same H0 H
  p0 : H0 pl = none
  rp : r ≠ pl
  li : LinesAt CL H l dl r rows n
  hp : H pl = some (.lst (ps.map V.str))
  k : RK (portsR rows f n ps) Q fun e => ErrK CT (.int e) H0 E
theorem inV_notS {K : PySem.W.Frag} {ta tb : TE} {σ : L2.St} {H : Hp} {p : Addr} {z : Str} {l : List Str} (ha : Val ta σ H (.str z)) (hb : Val tb σ H (.ref p)) (hS : SqL K H p (l.map V.str) ∨ SqT K H p (l.map V.str)) : Val (tOp (rIn K true) ta tb) σ H (.bl (!decide (z ∈ l))) :=
  val_op ha hb fun Q q => ⟨p, _, rfl, hS, rfl, flat_strs l, by
    show Q (.bl (!inV (.str z) (l.map V.str))) H
    rw [inV_strs]
    exact q⟩
section
variable {P : Program} {w : World} {K : PySem.W.Frag} {mg : Str → Option Value} {base : Heap} {CL CT : Addr} {fBegins fWords fStep fNeed fName fDoor fNum : Addr} {dBegins dWords dStep dNeed dName dDoor dNum : FuncData}
theorem ok_read_ports {f : Addr} {fd : FuncData} (N : En4 P w K mg base CL CT fBegins fWords fStep fNeed fName fDoor fNum dBegins dWords dStep dNeed dName dDoor dNum) (D : Df K mg "read_ports" s_read_ports f fd ["lines"]) :
    FnOk P w K mg base (L2.CX P w) 5 f fd ["lines"] (spPorts CL CT) := by
  obtain ⟨tP, gP⟩ := N.cP
  refine D.F.okX sc_read_ports (fun vs H Q E h => ?_) (fun cdv A0 outer s H vs Q E hr h => ?_)
  · obtain ⟨H0, l, dl, r, rows, n, rfl, _⟩ := h
    rfl
  · obtain ⟨H0, l, dl, r, rows, n, rfl, s0, l0, hl, sz, k⟩ := h
    have S := sc_read_ports
    refine ⟨_, (pss_cons (ps_set (i := 1) S.nd rfl (.inl rfl) (pe_lst pa_nil))
      (pss_cons (ps_while (passes_of rfl) (pt_val (pe_meth (pv 0) N.L.cl N.Mb.m N.Gb (hr.mono (by decide)) N.Mb.b .nil pass0 (pa_cons pe_str pa_nil)))
        (pss_cons (ps_set (i := 2) S.nd rfl (.inl rfl) (pe_meth (pv 0) N.L.cl N.Mw.m N.Gw (hr.mono (by decide)) N.Mw.b .nil pass0 (pa_cons pe_int pa_nil)))
        (pss_cons (ps_expr (pe_meth (pv 0) N.L.cl N.Mn.m N.Gn (hr.mono (by decide)) N.Mn.b .nil (pxp rfl rfl rfl rfl) (pa_cons (pe_and (pe_cmpR op_eq (pe_callB call_len_seq (by rfl) N.B.m_len PySem.boot_len (pa_cons (pv 2) pa_nil)) pe_int (nomark _)) (pe_one (pe_cmpR op_lt (pe_callB call_len_seq (by rfl) N.B.m_len PySem.boot_len (pa_cons (pv 1) pa_nil)) (pe_glob (v := .int 2) (by rfl) gP ⟨_, rfl⟩) (nomark _)))) pa_nil)))
        (pss_cons (ps_expr (pe_meth (pv 0) N.L.cl N.Mn.m N.Gn (hr.mono (by decide)) N.Mn.b .nil (pxp rfl rfl rfl rfl) (pa_cons (pe_and (pe_call N.Ga (hr.mono (by decide)) (by rfl) N.Da.g N.Da.F.kp N.Da.b .nil pass0 (pa_cons (pe_ix ix_list (pv 2) pe_int (fun _ _ => rfl)) pa_nil)) (pe_one (pe_cmpR op_notIn_seq (pe_ix ix_list (pv 2) pe_int (fun _ _ => rfl)) (pv 1) (by rfl)))) pa_nil)))
        (pss_cons (ps_expr (pe_bm PySem.F.plainAttrs_list PySem.F.slot_list_append PySem.F.type_list_append mt_append (pv 1) (pa_cons (pe_ix ix_list (pv 2) pe_int (fun _ _ => rfl)) pa_nil)))
        (pss_one (ps_expr (pe_meth0 (pv 0) N.L.cl N.Ms.m N.Gs (hr.mono (by decide)) N.Ms.b .nil pass0))))))))
      (pss_one (ps_ret (pe_tupleOf (by rfl) N.B.m_tuple (pv 1)))))), ?_⟩
    dsimp only [tNext, tSeq, tAsg, tRet]
    refine ⟨by show 0 ≤ sizeLine; decide, fun pl npl => ?_⟩
    dsimp only [gName]
    have s1 := same_upd (o := .lst []) npl
    refine ⟨fun f σ H => ∃ n ps pl, PW1 CL CT H0 l dl r rows (fun n' ps => ∀ (H' : Hp) (p : Addr), Same H0 H' → LinesAt CL H' l dl r rows n' → H0 p = none → H' p = some (.tup (ps.map V.str)) → ps.length ≤ 2 → Q (.ref p) H') E f σ H n ps pl, ⟨3, n, [], pl, rfl, Nat.zero_le _, ⟨_, rfl⟩, s0.trans s1, s0.free npl, ne_of_none hl.r npl, hl.mono s1, upd_same, k⟩, fun f σ H h => ?_⟩
    obtain ⟨n, ps, pl, f3, le, ⟨y, rfl⟩, s0, p0, rp, li, hp, k⟩ := h
    refine meth_run (val_var rfl) li.o (lf_no (by decide +kernel) (by decide +kernel)) ?_
    refine ⟨l, dl, r, rows, n, "port", rfl, li, sz, by decide +kernel, fun H1 s1 => ⟨_, rfl, ?_⟩⟩
    have li := li.mono s1
    have hp := s1 _ _ hp
    have s0 := s0.trans s1
    clear s1
    cases f with
    | zero => omega
    | succ f =>
      unfold portsR at k
      cases c : decide ((wordsAt rows n 0).take 1 = (["port"] : List Str)) with
      | false =>
        rw [c, if_neg Bool.false_ne_true] at k
        refine iteF ?_
        refine ⟨_, rfl, .inl ⟨pl, _, rfl, SqL.of hp, fun q nq => ?_⟩⟩
        have s2 := same_upd (o := .tup (ps.map V.str)) nq
        exact k _ q (s0.trans s2) (li.mono s2) (s0.free nq) upd_same le
      | true =>
        rw [c, if_pos rfl] at k
        refine iteT ⟨fun σ' H' => ∃ n ps pl, PW1 CL CT H0 l dl r rows (fun n' ps => ∀ (H' : Hp) (p : Addr), Same H0 H' → LinesAt CL H' l dl r rows n' → H0 p = none → H' p = some (.tup (ps.map V.str)) → ps.length ≤ 2 → Q (.ref p) H') E f σ' H' n ps pl, fun σ' H' h => ⟨f, Nat.lt_succ_self f, h⟩, ?_⟩
        have hwn : wordsAt rows n 0 ≠ [] := fun e => by
          rw [e] at c
          exact absurd (of_decide_eq_true c) (fun z => nomatch z)
        have hn := wordsAt_lt hwn
        dsimp only [tDrop]
        refine meth_run (val_var rfl) li.o (lf_no (by decide +kernel) (by decide +kernel)) ?_
        refine ⟨l, dl, r, rows, n, 0, rfl, li, sz, by decide, fun H2 wp s2 nw hw => ?_⟩
        have li := li.mono s2
        have hp := s2 _ _ hp
        have s0 := s0.trans s2
        have wz := words_ok (n := n) (dp := 0) sz
        generalize wordsAt rows n 0 = ws at k hw wz
        dsimp only [gName]
        refine meth_run (val_var rfl) li.o (lf_no (by decide +kernel) (by decide +kernel)) ?_
        have v1 : Val (tOp rEq (tCB (rLenSq K) (tCons (tVar 2) tNil)) (tC (.int 2))) [some (.ref l), some (.ref pl), some (.ref wp)] H2 (.bl (decide (ws.length = 2))) := fun Q q => by
          refine (val_op (z := .bl (decide (V.int ((ws.map V.str).length : Nat) = V.int 2))) (val_lenL (val_var rfl) (SqL.of hw)) val_c fun Q q => ⟨rfl, q⟩) _ ?_
          rw [show (2 : Int) = ((2 : Nat) : Int) from rfl, dec_len, List.length_map]
          exact q
        have v2 : Val (tOp (rI0 fun i j => .bl (decide (i < j))) (tCB (rLenSq K) (tCons (tVar 1) tNil)) (tC (.int 2))) [some (.ref l), some (.ref pl), some (.ref wp)] H2 (.bl (decide (ps.length < 2))) := fun Q q => by
          refine (val_i0b (val_lenL (val_var rfl) (SqL.of hp)) val_c) _ ?_
          rw [show decide ((((ps.map V.str).length : Nat) : Int) < 2) = decide (ps.length < 2) from decide_eq_decide.mpr ⟨fun e => by rw [List.length_map] at e; omega, fun e => by rw [List.length_map]; omega⟩]
          exact q
        refine (val_andV v1 fun _ => v2) _ ?_
        refine ⟨l, dl, r, rows, n, _, _, rfl, li, rfl, fun e => ?_, fun e => ErrK.mono ?_ s0⟩
        · rw [if_pos e] at k
          rw [Bool.and_eq_true] at e
          obtain ⟨a, z, rfl⟩ : ∃ a z, ws = [a, z] := by
            match ws, of_decide_eq_true e.1 with
            | [a, z], _ => exact ⟨a, z, rfl⟩
          have e2 := of_decide_eq_true e.2
          have gz : ([a, z] : List Str).getD 1 "" = z := rfl
          rw [gz] at k
          have hz := (wz z (by simp)).2
          refine meth_run (val_var rfl) li.o (lf_no (by decide +kernel) (by decide +kernel)) ?_
          have vz : Val (tOp (rIxL K) (tVar 2) (tC (.int 1))) [some (.ref l), some (.ref pl), some (.ref wp)] H2 (.str z) := val_ixL (val_var rfl) val_c (SqL.of hw) (atI_nat (j := 1) rfl)
          refine (val_andV (val_call (va_cons vz va_nil) fun Q q => ⟨z, rfl, by omega, q⟩) fun _ => inV_notS vz (val_var rfl) (.inl (SqL.of hp))) _ ?_
          refine ⟨l, dl, r, rows, n, _, _, rfl, li, rfl, fun e => ?_, fun e => ErrK.mono ?_ s0⟩
          · rw [if_pos e] at k
            refine bm_run (x := .ref pl) (val_var rfl) (.inl ⟨rfl, _, SqL.of hp⟩) ?_
            refine vz _ ?_
            refine ⟨pl, _, _, rfl, rfl, hp, by rw [List.length_map]; exact small1000 (by omega), ?_⟩
            have li3 : LinesAt CL (upd H2 pl (.lst (ps.map V.str ++ [.str z]))) l dl r rows n := ⟨at_but li.o (by rw [hp]; exact fun e => nomatch e), by rw [upd_ne rp]; exact li.r, li.le⟩
            have s3 : Same H0 (upd H2 pl (.lst (ps.map V.str ++ [.str z]))) := fun c o e => by
              rw [upd_ne (ne_of_none e p0)]
              exact s0 c o e
            have hp3 : (upd H2 pl (.lst (ps.map V.str ++ [.str z]))) pl = some (.lst ((ps ++ [z]).map V.str)) := by
              rw [upd_same, List.map_append]
              rfl
            generalize (upd H2 pl (.lst (ps.map V.str ++ [.str z]))) = H3 at li3 s3 hp3
            refine meth0_run (val_var rfl) li3.o (lf_no (by decide +kernel) (by decide +kernel)) ?_
            refine ⟨l, dl, r, rows, n, rfl, li3, hn, fun H4 sb li4 => ?_⟩
            refine ⟨n + 1, ps ++ [z], pl, ?_, ?_, ⟨_, rfl⟩, fun c o e => sb c o (ne_of_none e l0) (s3 c o e), p0, rp, li4, sb _ _ (ne_of hp3 li3.o (fun e => nomatch e)) hp3, k⟩
            · rw [List.length_append]
              show f + (ps.length + 1) = 3
              omega
            · rw [List.length_append]
              show ps.length + 1 ≤ 2
              omega
          · rw [e, if_neg Bool.false_ne_true] at k
            exact k
        · rw [e, if_neg Bool.false_ne_true] at k
          exact k
end
end K5
namespace K5
open PySem PySem.Spec PyProof.Rows L2
/-! ### dicts by texts -/
def rLenD : List V → Hp → VK → Prop := fun xs H Q => ∃ (d : Addr) (kvs : List (Key × V)), xs = [.ref d] ∧ H d = some (.dK kvs) ∧ Q (.int kvs.length) H
theorem call_lenD {X : Cx} : CallR X (.builtin "len") rLenD := by
  intro pins s σ H xs us Q I r h
  obtain ⟨d, kvs, rfl, hd, q⟩ := h
  obtain ⟨u, rfl, rx⟩ := r.one
  cases rx
  exact d_len I (.inl hd) fun t s' I' => ⟨.int kvs.length, H, I', ⟨t, rfl⟩, q⟩
theorem val_lenD {ta : TE} {σ : L2.St} {H : Hp} {d : Addr} {kvs : List (Key × V)} (h : Val ta σ H (.ref d)) (hd : H d = some (.dK kvs)) : Val (tCB rLenD (tCons ta tNil)) σ H (.int kvs.length) := fun Q q => h _ ⟨d, kvs, rfl, hd, q⟩
def dOf {β : Type} (g : β → V) (cs : List (Str × β)) : List (Key × V) := cs.map fun c => (.inr c.1, g c.2)
theorem dOf_none {β : Type} {g : β → V} {z : Str} : ∀ {cs : List (Str × β)}, z ∉ cs.map (·.1) → valV (dOf g cs) (.inr z) = none
  | [], _ => rfl
  | (y, i) :: r, h => by
    have h1 : ¬ (Sum.inr y : Key) = .inr z := fun e => by
      injection e with e
      exact h (by simp [e])
    exact (valV_neg (p := ((Sum.inr y : Key), g i)) (r := dOf g r) h1).trans (dOf_none (cs := r) fun e => h (List.mem_cons_of_mem _ e))
theorem dOf_some {β : Type} {g : β → V} {z : Str} : ∀ {cs : List (Str × β)}, z ∈ cs.map (·.1) → (valV (dOf g cs) (.inr z)).isSome = true
  | (y, i) :: r, h => by
    by_cases e : y = z
    · rw [show valV (dOf g ((y, i) :: r)) (.inr z) = some (g i) from valV_pos (p := ((Sum.inr y : Key), g i)) (r := dOf g r) (by rw [e])]
      rfl
    · have h1 : ¬ (Sum.inr y : Key) = .inr z := fun q => by
        injection q with q
        exact e q
      rw [show valV (dOf g ((y, i) :: r)) (.inr z) = valV (dOf g r) (.inr z) from valV_neg (p := ((Sum.inr y : Key), g i)) (r := dOf g r) h1]
      refine dOf_some ?_
      rcases List.mem_cons.mp h with q | q
      · exact absurd q.symm e
      · exact q
theorem dOf_has {β : Type} {g : β → V} {z : Str} {cs : List (Str × β)} : (valV (dOf g cs) (.inr z)).isSome = decide (z ∈ cs.map (·.1)) := by
  by_cases h : z ∈ cs.map (·.1)
  · rw [dOf_some h, decide_eq_true h]
  · rw [dOf_none h, decide_eq_false h]
    rfl
theorem dOf_put {β : Type} {g : β → V} {z : Str} {i : β} {cs : List (Str × β)} (h : z ∉ cs.map (·.1)) : putK (dOf g cs) (.inr z) (g i) = dOf g (cs ++ [(z, i)]) := by
  unfold putK
  rw [valV_any, dOf_none h]
  show dOf g cs ++ [(.inr z, g i)] = _
  unfold dOf
  rw [List.map_append]
  rfl
def cellsR (rows : List Str) (wn : Int) : Nat → Nat → List (Str × Int) → Except Nat (Nat × List (Str × Int))
  | 0, n, _ => .error n
  | f + 1, n, cs =>
    if decide ((wordsAt rows n 0).take 1 = (["cell"] : List Str)) = true then
      if (decide ((wordsAt rows n 0).length = 3) && decide (cs.length < 3)) = true then
        if (isName ((wordsAt rows n 0).getD 1 "") && (!decide ((wordsAt rows n 0).getD 1 "" ∈ (["it", "got", "lost", "busy"] : List Str)) && !decide ((wordsAt rows n 0).getD 1 "" ∈ cs.map (·.1)))) = true then
          if decide (0 ≤ numOf ((wordsAt rows n 0).getD 2 "") wn) = true then cellsR rows wn f (n + 1) (cs ++ [((wordsAt rows n 0).getD 1 "", numOf ((wordsAt rows n 0).getD 2 "") wn)])
          else .error n
        else .error n
      else .error n
    else .ok (n, cs)
def spCells (CL CT : Addr) : Sp := fun vs H Q E => ∃ (H0 : Hp) (l dl r : Addr) (rows : List Str) (n : Nat) (wn : Int), vs = [.ref l, .int wn] ∧ Same H0 H ∧ H0 l = none ∧ LinesAt CL H l dl r rows n ∧ Sz rows ∧
  RK (cellsR rows wn 4 n []) (fun n' cs => ∀ (H' : Hp) (p : Addr) (ts : List Addr), Same H0 H' → LinesAt CL H' l dl r rows n' → H0 p = none → H' p = some (.tup (ts.map V.ref)) → Paired (fun (t : Addr) (q : Str × Int) => H' t = some (.tup [.str q.1, .int q.2])) ts cs → cs.length ≤ 3 → Q (.ref p) H') fun e => ErrK CT (.int e) H0 E
structure CW (CL CT : Addr) (H0 : Hp) (l dl r : Addr) (rows : List Str) (wn : Int) (Q : Nat → List (Str × Int) → Prop) (E : XK) (f : Nat) (σ : L2.St) (H : Hp) (n : Nat) (cs : List (Str × Int)) (pl : Addr) : Prop where
  f4 : f + cs.length = 4
  le : cs.length ≤ 3
  st : ∃ y, σ = [some (.ref l), some (.int wn), some (.ref pl), y]
  s0 : Same H0 H
  p0 : H0 pl = none
  li : LinesAt CL H l dl r rows n
  hp : H pl = some (.dK (dOf V.int cs))
  k : RK (cellsR rows wn f n cs) Q fun e => ErrK CT (.int e) H0 E
theorem paired_dOf {H : Hp} : ∀ {ts : List Addr} {cs : List (Str × Int)}, Paired (fun (t : Addr) (q : Key × V) => H t = some (.tup [kV q.1, q.2])) ts (dOf V.int cs) → Paired (fun (t : Addr) (q : Str × Int) => H t = some (.tup [.str q.1, .int q.2])) ts cs
  | _, [], .nil => .nil
  | _, c :: r, .cons h t => .cons h (paired_dOf t)
section
variable {P : Program} {w : World} {K : PySem.W.Frag} {mg : Str → Option Value} {base : Heap} {CL CT : Addr} {fBegins fWords fStep fNeed fName fDoor fNum : Addr} {dBegins dWords dStep dNeed dName dDoor dNum : FuncData}
theorem ok_read_cells {f : Addr} {fd : FuncData} (N : En4 P w K mg base CL CT fBegins fWords fStep fNeed fName fDoor fNum dBegins dWords dStep dNeed dName dDoor dNum) (D : Df K mg "read_cells" s_read_cells f fd ["lines", "worths"]) :
    FnOk P w K mg base (L2.CX P w) 5 f fd ["lines", "worths"] (spCells CL CT) := by
  obtain ⟨tC', gC⟩ := N.cC
  obtain ⟨bb, gB, hB⟩ := N.cB
  refine D.F.okX sc_read_cells (fun vs H Q E h => ?_) (fun cdv A0 outer s H vs Q E hr h => ?_)
  · obtain ⟨H0, l, dl, r, rows, n, wn, rfl, _⟩ := h
    rfl
  · obtain ⟨H0, l, dl, r, rows, n, wn, rfl, s0, l0, hl, sz, k⟩ := h
    have S := sc_read_cells
    refine ⟨_, (pss_cons (ps_set (i := 2) S.nd rfl (.inl rfl) pe_dnewK)
      (pss_cons (ps_while (passes_of rfl) (pt_val (pe_meth (pv 0) N.L.cl N.Mb.m N.Gb (hr.mono (by decide)) N.Mb.b .nil pass0 (pa_cons pe_str pa_nil)))
        (pss_cons (ps_set (i := 3) S.nd rfl (.inl rfl) (pe_meth (pv 0) N.L.cl N.Mw.m N.Gw (hr.mono (by decide)) N.Mw.b .nil pass0 (pa_cons pe_int pa_nil)))
        (pss_cons (ps_expr (pe_meth (pv 0) N.L.cl N.Mn.m N.Gn (hr.mono (by decide)) N.Mn.b .nil (pxp rfl rfl rfl rfl) (pa_cons (pe_and (pe_cmpR op_eq (pe_callB call_len_seq (by rfl) N.B.m_len PySem.boot_len (pa_cons (pv 3) pa_nil)) pe_int (nomark _)) (pe_one (pe_cmpR op_lt (pe_callB call_lenD (by rfl) N.B.m_len PySem.boot_len (pa_cons (pv 2) pa_nil)) (pe_glob (v := .int 3) (by rfl) gC ⟨_, rfl⟩) (nomark _)))) pa_nil)))
        (pss_cons (ps_expr (pe_meth (pv 0) N.L.cl N.Mn.m N.Gn (hr.mono (by decide)) N.Mn.b .nil (pxp rfl rfl rfl rfl) (pa_cons (pe_and (pe_call N.Ga (hr.mono (by decide)) (by rfl) N.Da.g N.Da.F.kp N.Da.b .nil pass0 (pa_cons (pe_ix ix_list (pv 3) pe_int (fun _ _ => rfl)) pa_nil)) (pe_and (pe_cmpR op_notIn_seq (pe_ix ix_list (pv 3) pe_int (fun _ _ => rfl)) (pe_glob (v := .ref bb) (by rfl) gB rfl) (by rfl)) (pe_one (pe_cmp (pc_dnotin (hu_of hr) (pe_ix ix_list (pv 3) pe_int (fun _ _ => rfl)) (pv 2)) rfl)))) pa_nil)))
        (pss_cons (ps_dput (hu_of hr) (pv 2) (pe_ix ix_list (pv 3) pe_int (fun _ _ => rfl)) (pe_call N.Gu (hr.mono (by decide)) (by rfl) N.Du.g N.Du.F.kp N.Du.b .nil pass0 (pa_cons (pe_ix ix_list (pv 3) pe_int (fun _ _ => rfl)) (pa_cons (pv 1) pa_nil))) rfl)
        (pss_cons (ps_expr (pe_meth (pv 0) N.L.cl N.Mn.m N.Gn (hr.mono (by decide)) N.Mn.b .nil (pxp rfl rfl rfl rfl) (pa_cons (pe_cmpR op_ge (pe_dget (hu_of hr) (pv 2) (pe_ix ix_list (pv 3) pe_int (fun _ _ => rfl)) (fun _ _ => rfl)) pe_int (nomark _)) pa_nil)))
        (pss_one (ps_expr (pe_meth0 (pv 0) N.L.cl N.Ms.m N.Gs (hr.mono (by decide)) N.Ms.b .nil pass0)))))))))
      (pss_one (ps_ret (pe_tupItems rfl (pv 2) (by rfl) N.B.m_tuple))))), ?_⟩
    dsimp only [tNext, tSeq, tAsg, tRet]
    refine fun pl npl => ?_
    dsimp only [gName]
    have s1 := same_upd (o := .dK []) npl
    refine ⟨fun f σ H => ∃ n cs pl, CW CL CT H0 l dl r rows wn (fun n' cs => ∀ (H' : Hp) (p : Addr) (ts : List Addr), Same H0 H' → LinesAt CL H' l dl r rows n' → H0 p = none → H' p = some (.tup (ts.map V.ref)) → Paired (fun (t : Addr) (q : Str × Int) => H' t = some (.tup [.str q.1, .int q.2])) ts cs → cs.length ≤ 3 → Q (.ref p) H') E f σ H n cs pl, ⟨4, n, [], pl, rfl, Nat.zero_le _, ⟨_, rfl⟩, s0.trans s1, s0.free npl, hl.mono s1, upd_same, k⟩, fun f σ H h => ?_⟩
    obtain ⟨n, cs, pl, f4, le, ⟨y, rfl⟩, s0, p0, li, hp, k⟩ := h
    refine meth_run (val_var rfl) li.o (lf_no (by decide +kernel) (by decide +kernel)) ?_
    refine ⟨l, dl, r, rows, n, "cell", rfl, li, sz, by decide +kernel, fun H1 s1 => ⟨_, rfl, ?_⟩⟩
    have li := li.mono s1
    have hp := s1 _ _ hp
    have s0 := s0.trans s1
    clear s1
    cases f with
    | zero => omega
    | succ f =>
      unfold cellsR at k
      cases c : decide ((wordsAt rows n 0).take 1 = (["cell"] : List Str)) with
      | false =>
        rw [c, if_neg Bool.false_ne_true] at k
        refine iteF ?_
        refine ⟨_, rfl, pl, _, rfl, hp, fun H2 q ts s2 nq hq hts => ?_⟩
        refine k _ q ts (s0.trans s2) (li.mono s2) (s0.free nq) hq ?_ le
        exact paired_dOf hts
      | true =>
        rw [c, if_pos rfl] at k
        refine iteT ⟨fun σ' H' => ∃ n cs pl, CW CL CT H0 l dl r rows wn (fun n' cs => ∀ (H' : Hp) (p : Addr) (ts : List Addr), Same H0 H' → LinesAt CL H' l dl r rows n' → H0 p = none → H' p = some (.tup (ts.map V.ref)) → Paired (fun (t : Addr) (q : Str × Int) => H' t = some (.tup [.str q.1, .int q.2])) ts cs → cs.length ≤ 3 → Q (.ref p) H') E f σ' H' n cs pl, fun σ' H' h => ⟨f, Nat.lt_succ_self f, h⟩, ?_⟩
        have hwn : wordsAt rows n 0 ≠ [] := fun e => by
          rw [e] at c
          exact absurd (of_decide_eq_true c) (fun z => nomatch z)
        have hn := wordsAt_lt hwn
        dsimp only [tDrop]
        refine meth_run (val_var rfl) li.o (lf_no (by decide +kernel) (by decide +kernel)) ?_
        refine ⟨l, dl, r, rows, n, 0, rfl, li, sz, by decide, fun H2 wp s2 nw hw => ?_⟩
        have li := li.mono s2
        have hp := s2 _ _ hp
        have s0 := s0.trans s2
        have wz := words_ok (n := n) (dp := 0) sz
        generalize wordsAt rows n 0 = ws at k hw wz
        dsimp only [gName]
        refine meth_run (val_var rfl) li.o (lf_no (by decide +kernel) (by decide +kernel)) ?_
        have v1 : Val (tOp rEq (tCB (rLenSq K) (tCons (tVar 3) tNil)) (tC (.int 3))) [some (.ref l), some (.int wn), some (.ref pl), some (.ref wp)] H2 (.bl (decide (ws.length = 3))) := fun Q q => by
          refine (val_op (z := .bl (decide (V.int ((ws.map V.str).length : Nat) = V.int 3))) (val_lenL (val_var rfl) (SqL.of hw)) val_c fun Q q => ⟨rfl, q⟩) _ ?_
          rw [show (3 : Int) = ((3 : Nat) : Int) from rfl, dec_len, List.length_map]
          exact q
        have v2 : Val (tOp (rI0 fun i j => .bl (decide (i < j))) (tCB rLenD (tCons (tVar 2) tNil)) (tC (.int 3))) [some (.ref l), some (.int wn), some (.ref pl), some (.ref wp)] H2 (.bl (decide (cs.length < 3))) := fun Q q => by
          refine (val_i0b (val_lenD (val_var rfl) hp) val_c) _ ?_
          have eL : (dOf V.int cs).length = cs.length := List.length_map ..
          rw [eL, show decide (((cs.length : Nat) : Int) < 3) = decide (cs.length < 3) from decide_eq_decide.mpr ⟨fun e => by omega, fun e => by omega⟩]
          exact q
        refine (val_andV v1 fun _ => v2) _ ?_
        refine ⟨l, dl, r, rows, n, _, _, rfl, li, rfl, fun e => ?_, fun e => ErrK.mono ?_ s0⟩
        · rw [if_pos e] at k
          rw [Bool.and_eq_true] at e
          obtain ⟨a, z, z2, rfl⟩ : ∃ a z z2, ws = [a, z, z2] := by
            match ws, of_decide_eq_true e.1 with
            | [a, z, z2], _ => exact ⟨a, z, z2, rfl⟩
          have e2 := of_decide_eq_true e.2
          have gz : ([a, z, z2] : List Str).getD 1 "" = z := rfl
          have gz2 : ([a, z, z2] : List Str).getD 2 "" = z2 := rfl
          rw [gz, gz2] at k
          have hz := (wz z (by simp)).2
          have hz2 := (wz z2 (by simp)).2
          refine meth_run (val_var rfl) li.o (lf_no (by decide +kernel) (by decide +kernel)) ?_
          have vz : ∀ {H' : Hp}, Same H2 H' ∨ SameBut pl H2 H' → Val (tOp (rIxL K) (tVar 3) (tC (.int 1))) [some (.ref l), some (.int wn), some (.ref pl), some (.ref wp)] H' (.str z) := fun s => val_ixL (val_var rfl) val_c (SqL.of (by
            rcases s with s | s
            · exact s _ _ hw
            · exact s _ _ (ne_of hw hp (fun e => nomatch e)) hw)) (atI_nat (j := 1) rfl)
          have v3 : Val (tDNotIn (tOp (rIxL K) (tVar 3) (tC (.int 1))) (tVar 2)) [some (.ref l), some (.int wn), some (.ref pl), some (.ref wp)] H2 (.bl (!decide (z ∈ cs.map (·.1)))) := fun Q q => by
            refine vz (.inl (Same.refl _)) _ ((val_var rfl) _ ⟨pl, _, rfl, DGet.k (k := .inr z) hp, ?_⟩)
            rw [dOf_has]
            exact q
          refine (val_andV (val_call (va_cons (vz (.inl (Same.refl _))) va_nil) fun Q q => ⟨z, rfl, by omega, q⟩) fun _ => val_andV (inV_notS (vz (.inl (Same.refl _))) val_c (.inr (hB _))) fun _ => v3) _ ?_
          refine ⟨l, dl, r, rows, n, _, _, rfl, li, rfl, fun e => ?_, fun e => ErrK.mono ?_ s0⟩
          · rw [if_pos e] at k
            rw [Bool.and_eq_true, Bool.and_eq_true] at e
            have hnew : z ∉ cs.map (·.1) := fun q => by
              have := e.2.2
              rw [decide_eq_true q] at this
              exact absurd this Bool.false_ne_true
            have vz2 : Val (tOp (rIxL K) (tVar 3) (tC (.int 2))) [some (.ref l), some (.int wn), some (.ref pl), some (.ref wp)] H2 (.str z2) := val_ixL (val_var rfl) val_c (SqL.of hw) (atI_nat (j := 2) rfl)
            refine (val_call (va_cons vz2 (va_cons (val_var rfl) va_nil)) fun Q q => ⟨z2, wn, rfl, by omega, q⟩) _ ?_
            refine (val_var rfl) _ (vz (.inl (Same.refl _)) _ ?_)
            refine ⟨pl, _, rfl, DPut.k (k := .inr z) hp (by rw [show (dOf V.int cs).length = cs.length from List.length_map ..]; exact Nat.lt_of_lt_of_le (show cs.length < 4 by omega) (by decide)), ?_⟩
            rw [show putK (dOf V.int cs) (.inr z) (V.int (numOf z2 wn)) = dOf V.int (cs ++ [(z, numOf z2 wn)]) from dOf_put hnew]
            have sb3 := SameBut.upd pl H2 (.dK (dOf V.int (cs ++ [(z, numOf z2 wn)])))
            have li3 : LinesAt CL (upd H2 pl (.dK (dOf V.int (cs ++ [(z, numOf z2 wn)])))) l dl r rows n := ⟨sb3 _ _ (ne_of li.o hp (fun e => nomatch e)) li.o, sb3 _ _ (ne_of li.r hp (fun e => nomatch e)) li.r, li.le⟩
            have s3 : Same H0 (upd H2 pl (.dK (dOf V.int (cs ++ [(z, numOf z2 wn)])))) := fun c o e => sb3 c o (ne_of_none e p0) (s0 c o e)
            have hp3 : (upd H2 pl (.dK (dOf V.int (cs ++ [(z, numOf z2 wn)])))) pl = some (.dK (dOf V.int (cs ++ [(z, numOf z2 wn)]))) := upd_same
            generalize (upd H2 pl (.dK (dOf V.int (cs ++ [(z, numOf z2 wn)])))) = H3 at li3 s3 hp3 sb3
            refine meth_run (val_var rfl) li3.o (lf_no (by decide +kernel) (by decide +kernel)) ?_
            have v4 : Val (tDGet (tVar 2) (tOp (rIxL K) (tVar 3) (tC (.int 1)))) [some (.ref l), some (.int wn), some (.ref pl), some (.ref wp)] H3 (.int (numOf z2 wn)) := fun Q q => by
              refine (val_var rfl) _ (vz (.inr sb3) _ ⟨pl, _, rfl, ?_, q⟩)
              have g := DGet.k (k := .inr z) hp3
              rw [← dOf_put hnew, valV_put, if_pos rfl] at g
              exact g
            refine (val_i0b v4 val_c) _ ?_
            refine ⟨l, dl, r, rows, n, _, _, rfl, li3, rfl, fun e5 => ?_, fun e5 => ErrK.mono ?_ s3⟩
            · rw [if_pos e5] at k
              refine meth0_run (val_var rfl) li3.o (lf_no (by decide +kernel) (by decide +kernel)) ?_
              refine ⟨l, dl, r, rows, n, rfl, li3, hn, fun H4 sb li4 => ?_⟩
              refine ⟨n + 1, cs ++ [(z, numOf z2 wn)], pl, ?_, ?_, ⟨_, rfl⟩, fun c o e => sb c o (ne_of_none e l0) (s3 c o e), p0, li4, sb _ _ (ne_of hp3 li3.o (fun e => nomatch e)) hp3, k⟩
              · rw [List.length_append]
                show f + (cs.length + 1) = 4
                omega
              · rw [List.length_append]
                show cs.length + 1 ≤ 3
                omega
            · rw [e5, if_neg Bool.false_ne_true] at k
              exact k
          · rw [e, if_neg Bool.false_ne_true] at k
            exact k
        · rw [e, if_neg Bool.false_ne_true] at k
          exact k
end
end K5
namespace K5
open PySem PySem.Spec PyProof.Rows L2
/-! ### the doors -/
/-- the doors with the places where they begin, the steps, the asks -/
abbrev DR := List (Str × Int) × List PyData × Ak
def doorsR (T : Tx) : Nat → Nat → Nat → List (Str × Int) → List PyData → Ak → Except Nat (Nat × DR)
  | 0, n, _, _, _, _ => .error n
  | f + 1, n, m, cs, ds, as =>
    if (decide ((wordsAt T.rows n 0).take 1 = (["door"] : List Str)) || decide (cs.map (·.1) = [])) = true then
      if (decide ((wordsAt T.rows n 0).take 1 = (["door"] : List Str)) && (decide ((wordsAt T.rows n 0).length = 2) && decide ((cs.map (·.1)).length < 3))) = true then
        if (isDoor ((wordsAt T.rows n 0).getD 1 "") && !decide ((wordsAt T.rows n 0).getD 1 "" ∈ cs.map (·.1))) = true then
          match blk T 2 false (n + 1) m ds.length as with
          | .ok (n1, m1, more, as1) => doorsR T f n1 m1 (cs ++ [((wordsAt T.rows n 0).getD 1 "", ((ds.length : Nat) : Int))]) (ds ++ (more ++ [endD])) as1
          | .error e => .error e
        else .error n
      else .error n
    else .ok (n, cs, ds, as)
def DsQ (CL CP : Addr) (A : Ad) (T : Tx) (H0 : Hp) (Q : VK) (n : Nat) (R : DR) : Prop :=
  ∀ (H' : Hp) (m : Nat) (xs : List V) (kvs : List (Key × V)) (p : Addr), Wd CL CP A T H0 H' n m xs kvs ⟨R.2.1, R.2.2⟩ → xs.length ≤ 200 → H0 p = none → H' p = some (.dK (dOf V.int R.1)) → R.1.length ≤ 3 → p ≠ A.ak → Q (.ref p) H'
def spDoors (CL CP CT : Addr) : Sp := fun vs H Q E => ∃ (A : Ad) (T : Tx) (H0 : Hp) (n : Nat), vs = [.ref A.l, .ref A.g] ∧ Wd CL CP A T H0 H n 0 [] [] ⟨[], []⟩ ∧ TxOk T ∧
  RK (doorsR T 4 n 0 [] [] []) (DsQ CL CP A T H0 Q) fun e => ErrK CT (.int e) H0 E
structure DW (CL CP CT : Addr) (A : Ad) (T : Tx) (H0 : Hp) (Q : VK) (E : XK) (f : Nat) (σ : L2.St) (H : Hp) (n m : Nat) (xs : List V) (kvs : List (Key × V)) (S : SD) (pl : Addr) (cs : List (Str × Int)) : Prop where
  f4 : f + cs.length = 4
  le : cs.length ≤ 3
  st : ∃ y, σ = [some (.ref A.l), some (.ref A.g), some (.ref pl), y]
  pw : Wd CL CP A T H0 H n m xs kvs S
  p0 : H0 pl = none
  pa : pl ≠ A.ak
  hp : H pl = some (.dK (dOf V.int cs))
  lx : xs.length + (4 - cs.length) ≤ 2 * m + 100
  lk : kvs.length ≤ m + 100
  hm : m ≤ 24
  k : RK (doorsR T f n m cs S.ds S.as) (DsQ CL CP A T H0 Q) fun e => ErrK CT (.int e) H0 E
section
variable {CL CP : Addr} {A : Ad} {T : Tx} {H0 H : Hp} {n m : Nat} {xs : List V} {kvs : List (Key × V)} {S : SD}
theorem Wd.weak {H1 : Hp} (p : Wd CL CP A T H1 H n m xs kvs S) (e : Same H0 H1) : Wd CL CP A T H0 H n m xs kvs S := { p with s0 := e.trans p.s0, l0 := e.free p.l0, g0 := e.free p.g0, st0 := e.free p.st0, ak0 := e.free p.ak0 }
/-- what stands elsewhere is kept by all that follows -/
theorem Wd.pinO (p : Wd CL CP A T H0 H n m xs kvs S) {a : Addr} {u : HO} (h : H a = some u) (n1 : a ≠ A.l) (n2 : a ≠ A.g) (n3 : a ≠ A.st) (n4 : a ≠ A.ak) : Wd CL CP A T (upd H0 a u) H n m xs kvs S ∧ Same H0 (upd H0 a u) := by
  have s1 : Same (upd H0 a u) H := fun b o e => by
    by_cases c : b = a
    · subst c
      rw [upd_same] at e
      rw [← e]
      exact h
    · rw [upd_ne c] at e
      exact p.s0 b o e
  refine ⟨{ p with s0 := s1, l0 := by rw [upd_ne n1.symm]; exact p.l0, g0 := by rw [upd_ne n2.symm]; exact p.g0, st0 := by rw [upd_ne n3.symm]; exact p.st0, ak0 := by rw [upd_ne n4.symm]; exact p.ak0 }, fun b o e => ?_⟩
  by_cases c : b = a
  · subst c
    rw [upd_same]
    exact h.symm.trans (p.s0 b o e)
  · rw [upd_ne c]
    exact e
/-- a thing of the side is changed -/
theorem Wd.side (p : Wd CL CP A T H0 H n m xs kvs S) {a : Addr} {cs : List (Key × V)} {u : HO} (h : H a = some (.dK cs)) (h0 : H0 a = none) (n4 : a ≠ A.ak) : Wd CL CP A T H0 (upd H a u) n m xs kvs S where
  s0 := fun b o e => by rw [upd_ne (ne_of_none e h0)]; exact p.s0 b o e
  l0 := p.l0
  g0 := p.g0
  st0 := p.st0
  ak0 := p.ak0
  lg := p.lg
  li := ⟨at_but p.li.o (by rw [h]; exact fun e => nomatch e), at_but p.li.r (by rw [h]; exact fun e => nomatch e), p.li.le⟩
  pg := at_but p.pg (by rw [h]; exact fun e => nomatch e)
  ct := p.ct.but fun _ _ => by rw [h]; exact fun e => nomatch e
  pt := at_but p.pt (by rw [h]; exact fun e => nomatch e)
  st := at_but p.st (by rw [h]; exact fun e => nomatch e)
  sx := p.sx.but fun _ => by rw [h]; exact fun e => nomatch e
  ax := p.ax.but fun _ => by rw [h]; exact fun e => nomatch e
  ak := by rw [upd_ne n4.symm]; exact p.ak
  rst := p.rst
end
section
variable {P : Program} {w : World} {K : PySem.W.Frag} {mg : Str → Option Value} {base : Heap} {CL CP CT : Addr} {fBegins fWords fStep fNeed fName fDoor fNum : Addr} {dBegins dWords dStep dNeed dName dDoor dNum : FuncData}
theorem ok_read_doors {f fR : Addr} {fd dR : FuncData} (N : En4 P w K mg base CL CT fBegins fWords fStep fNeed fName fDoor fNum dBegins dWords dStep dNeed dName dDoor dNum) (C : ClP K CP) (D : Df K mg "read_doors" s_read_doors f fd ["lines", "program"])
    (Mr : Mf K CP "read_door" "Program.read_door" s_Program_read_door fR dR ["self"]) (Gr : FnOk P w K mg base (L2.CX P w) 20 fR dR ["self"] (spReadDoor CL CP CT)) :
    FnOk P w K mg base (L2.CX P w) 21 f fd ["lines", "program"] (spDoors CL CP CT) := by
  obtain ⟨tD, gD⟩ := N.cD
  refine D.F.okX sc_read_doors (fun vs H Q E h => ?_) (fun cdv A0 outer s H vs Q E hr h => ?_)
  · obtain ⟨A, T, H0, n, rfl, _⟩ := h
    rfl
  · obtain ⟨A, T, H0, n, rfl, pw, tx, k⟩ := h
    have Sc := sc_read_doors
    refine ⟨_, (pss_cons (ps_set (i := 2) Sc.nd rfl (.inl rfl) pe_dnewK)
      (pss_cons (ps_while (passes_of rfl) (PW.pt (pw_or (pt_val (pe_meth (pv 0) N.L.cl N.Mb.m N.Gb (hr.mono (by decide)) N.Mb.b .nil pass0 (pa_cons pe_str pa_nil))) (pw_or1 (pt_not (pt_truth (pv 2) (by intro _; rfl))))))
        (pss_cons (ps_set (i := 3) Sc.nd rfl (.inl rfl) (pe_meth (pv 0) N.L.cl N.Mw.m N.Gw (hr.mono (by decide)) N.Mw.b .nil pass0 (pa_cons pe_int pa_nil)))
        (pss_cons (ps_expr (pe_meth (pv 0) N.L.cl N.Mn.m N.Gn (hr.mono (by decide)) N.Mn.b .nil (pxp rfl rfl rfl rfl) (pa_cons (pe_and (pe_cmpR (op_eqD (by have := hr.units; exact this)) (pe_slice sl_list (pv 3) po_none (po_some pe_int)) (pe_lst (pa_cons pe_str pa_nil)) (nomark _)) (pe_and (pe_cmpR op_eq (pe_callB call_len_seq (by rfl) N.B.m_len PySem.boot_len (pa_cons (pv 3) pa_nil)) pe_int (nomark _)) (pe_one (pe_cmpR op_lt (pe_callB call_lenD (by rfl) N.B.m_len PySem.boot_len (pa_cons (pv 2) pa_nil)) (pe_glob (v := .int 3) (by rfl) gD ⟨_, rfl⟩) (nomark _))))) pa_nil)))
        (pss_cons (ps_expr (pe_meth (pv 0) N.L.cl N.Mn.m N.Gn (hr.mono (by decide)) N.Mn.b .nil (pxp rfl rfl rfl rfl) (pa_cons (pe_and (pe_call N.Gd (hr.mono (by decide)) (by rfl) N.Dd.g N.Dd.F.kp N.Dd.b .nil pass0 (pa_cons (pe_ix ix_list (pv 3) pe_int (fun _ _ => rfl)) pa_nil)) (pe_one (pe_cmp (pc_dnotin (hu_of hr) (pe_ix ix_list (pv 3) pe_int (fun _ _ => rfl)) (pv 2)) rfl))) pa_nil)))
        (pss_cons (ps_expr (pe_meth0 (pv 0) N.L.cl N.Ms.m N.Gs (hr.mono (by decide)) N.Ms.b .nil pass0))
        (pss_one (ps_dput (hu_of hr) (pv 2) (pe_ix ix_list (pv 3) pe_int (fun _ _ => rfl)) (pe_meth0 (pv 1) C.cl Mr.m Gr (hr.mono (by decide)) Mr.b .nil (pxp rfl rfl rfl rfl)) rfl)))))))
      (pss_one (ps_ret (pv 2))))), ?_⟩
    dsimp only [tNext, tSeq, tAsg, tRet]
    refine fun pl npl => ?_
    dsimp only [gName]
    have s1 := same_upd (o := .dK []) npl
    refine ⟨fun f σ H => ∃ n m xs kvs S pl cs, DW CL CP CT A T H0 Q E f σ H n m xs kvs S pl cs, ⟨4, n, 0, [], [], _, pl, [], rfl, Nat.zero_le _, ⟨_, rfl⟩, pw.mono s1, pw.s0.free npl, (ne_of_none pw.ak npl).symm, upd_same, by decide, by decide, by decide, k⟩, fun f σ H h => ?_⟩
    obtain ⟨n, m, xs, kvs, S, pl, cs, f4, le, ⟨y, rfl⟩, pw, p0, pa, hp, lx, lk, hm, k⟩ := h
    refine meth_run (val_var rfl) pw.li.o (lf_no (by decide +kernel) (by decide +kernel)) ?_
    refine ⟨A.l, A.dl, A.r, T.rows, n, "door", rfl, pw.li, tx.sz, by decide +kernel, fun H1 s1 => ⟨_, rfl, ?_⟩⟩
    have pw := pw.mono s1
    have hp := s1 _ _ hp
    clear s1
    cases f with
    | zero => omega
    | succ f =>
      unfold doorsR at k
      have test : ∀ Q2 : Bool → Hp → Prop, Q2 (decide ((wordsAt T.rows n 0).take 1 = (["door"] : List Str)) || decide (cs.map (·.1) = [])) H1 → (if decide ((wordsAt T.rows n 0).take 1 = (["door"] : List Str)) = true then Q2 true H1 else tNot (fun σ H Q => tVar 2 σ H fun x H' => ∃ k, TruV K x H' k ∧ Q k H') [some (.ref A.l), some (.ref A.g), some (.ref pl), y] H1 Q2) := fun Q2 q => by
        cases c : decide ((wordsAt T.rows n 0).take 1 = (["door"] : List Str)) with
        | true =>
          rw [c] at q
          exact iteT q
        | false =>
          rw [c] at q
          refine iteF ⟨_, rfl, !(dOf V.int cs).isEmpty, .inr (.inr ⟨_, hp, rfl⟩), ?_⟩
          have e : (!(!(dOf V.int cs).isEmpty)) = (false || decide (cs.map (·.1) = [])) := by
            cases cs with
            | nil => rfl
            | cons c r => rfl
          show Q2 (!(!(dOf V.int cs).isEmpty)) H1
          rw [e]
          exact q
      refine test _ ?_
      cases c : (decide ((wordsAt T.rows n 0).take 1 = (["door"] : List Str)) || decide (cs.map (·.1) = [])) with
      | false =>
        rw [c, if_neg Bool.false_ne_true] at k
        refine iteF ?_
        refine ⟨_, rfl, ?_⟩
        exact k H1 m xs kvs pl pw (by omega) p0 hp le pa
      | true =>
        rw [c, if_pos rfl] at k
        refine iteT ⟨fun σ' H' => ∃ n m xs kvs S pl cs, DW CL CP CT A T H0 Q E f σ' H' n m xs kvs S pl cs, fun σ' H' h => ⟨f, Nat.lt_succ_self f, h⟩, ?_⟩
        dsimp only [tDrop]
        refine meth_run (val_var rfl) pw.li.o (lf_no (by decide +kernel) (by decide +kernel)) ?_
        refine ⟨A.l, A.dl, A.r, T.rows, n, 0, rfl, pw.li, tx.sz, by decide, fun H2 wp s2 nw hw => ?_⟩
        have wst : wp ≠ A.st := (ne_of_none pw.st nw).symm
        have wr : wp ≠ A.r := (ne_of_none pw.li.r nw).symm
        have pw := pw.mono s2
        have hp := s2 _ _ hp
        have wz := words_ok (n := n) (dp := 0) tx.sz
        have hnl : wordsAt T.rows n 0 ≠ [] → n < T.rows.length := wordsAt_lt
        generalize wordsAt T.rows n 0 = ws at k hw wz hnl
        dsimp only [gName]
        refine meth_run (val_var rfl) pw.li.o (lf_no (by decide +kernel) (by decide +kernel)) ?_
        refine ⟨_, rfl, 1, rfl, wp, _, rfl, SqL.of hw, fun q nq => ?_⟩
        refine ⟨by show 1 ≤ sizeLine; decide, fun o no => ?_⟩
        have s3 : Same H2 (upd H2 q (.lst (cutV (ws.map V.str) none (some 1)))) := same_upd nq
        have s4 := same_upd (H := upd H2 q (.lst (cutV (ws.map V.str) none (some 1)))) (o := .lst [V.str "door"]) no
        have ec : cutV (ws.map V.str) none (some 1) = (ws.take 1).map V.str := by
          unfold cutV
          rw [show HT.sIx (ws.map V.str).length (ws.map V.str).length (some 1) = min 1 (ws.map V.str).length from HT.sIx_nat _ _ 1, HT.sIx_none, List.drop_zero, Nat.sub_zero, List.map_take]
          exact List.take_eq_take_min.symm
        have hq : SqL K (upd (upd H2 q (.lst (cutV (ws.map V.str) none (some 1)))) o (.lst [V.str "door"])) q ((ws.take 1).map V.str) := by
          rw [← ec]
          exact SqL.of (s4 _ _ upd_same)
        refine ⟨.list ((ws.take 1).map PyData.str), .list ([("door" : Str)].map PyData.str), .lst hq (dpAll_strs _), .lst (SqL.of upd_same) (dpAll_strs ["door"]), shaped_strs fun y hy => (wz y (List.mem_of_mem_take hy)).1, by decide +kernel, ?_⟩
        have e1 : PyData.eqv (.list ((ws.take 1).map PyData.str)) (.list ([("door" : Str)].map PyData.str)) = decide (ws.take 1 = [("door" : Str)]) := by
          rw [PyData.eqv]
          exact eqv_strs _ _
        rw [e1]
        have s34 := s3.trans s4
        have pw := pw.mono s34
        have hp := s34 _ _ hp
        have hw := s34 _ _ hw
        generalize (upd (upd H2 q (.lst (cutV (ws.map V.str) none (some 1)))) o (.lst [V.str "door"])) = H3 at pw hp hw
        have v1 : Val (tOp rEq (tCB (rLenSq K) (tCons (tVar 3) tNil)) (tC (.int 2))) [some (.ref A.l), some (.ref A.g), some (.ref pl), some (.ref wp)] H3 (.bl (decide (ws.length = 2))) := fun Q q => by
          refine (val_op (z := .bl (decide (V.int ((ws.map V.str).length : Nat) = V.int 2))) (val_lenL (val_var rfl) (SqL.of hw)) val_c fun Q q => ⟨rfl, q⟩) _ ?_
          rw [show (2 : Int) = ((2 : Nat) : Int) from rfl, dec_len, List.length_map]
          exact q
        have v2 : Val (tOp (rI0 fun i j => .bl (decide (i < j))) (tCB rLenD (tCons (tVar 2) tNil)) (tC (.int 3))) [some (.ref A.l), some (.ref A.g), some (.ref pl), some (.ref wp)] H3 (.bl (decide ((cs.map (·.1)).length < 3))) := fun Q q => by
          refine (val_i0b (val_lenD (val_var rfl) hp) val_c) _ ?_
          have eL : (dOf V.int cs).length = (cs.map (·.1)).length := by rw [List.length_map]; exact List.length_map ..
          rw [eL, show decide ((((cs.map (·.1)).length : Nat) : Int) < 3) = decide ((cs.map (·.1)).length < 3) from decide_eq_decide.mpr ⟨fun e => by omega, fun e => by omega⟩]
          exact q
        have v0 : ∀ (b : Bool) (Q : VK), Q (.bl (b && (decide (ws.length = 2) && decide ((cs.map (·.1)).length < 3)))) H3 → ∃ c, V.bl b = .bl c ∧ if c = true then tAndV (tOp rEq (tCB (rLenSq K) (tCons (tVar 3) tNil)) (tC (.int 2))) (tOp (rI0 fun i j => .bl (decide (i < j))) (tCB rLenD (tCons (tVar 2) tNil)) (tC (.int 3))) [some (.ref A.l), some (.ref A.g), some (.ref pl), some (.ref wp)] H3 Q else Q (.bl false) H3 := fun b Q q => ⟨b, rfl, by
          cases b with
          | true => exact iteT ((val_andV v1 fun _ => v2) _ q)
          | false => exact iteF q⟩
        refine v0 _ _ ?_
        refine ⟨A.l, A.dl, A.r, T.rows, n, _, _, rfl, pw.li, rfl, fun e => ?_, fun e => ErrK.mono ?_ pw.s0⟩
        · rw [if_pos e] at k
          rw [Bool.and_eq_true, Bool.and_eq_true] at e
          obtain ⟨a, z, rfl⟩ : ∃ a z, ws = [a, z] := by
            match ws, of_decide_eq_true e.2.1 with
            | [a, z], _ => exact ⟨a, z, rfl⟩
          have hn := hnl (fun e => nomatch e)
          have e2 := of_decide_eq_true e.2.2
          rw [List.length_map] at e2
          have gz : ([a, z] : List Str).getD 1 "" = z := rfl
          rw [gz] at k
          have hz := (wz z (by simp)).2
          refine meth_run (val_var rfl) pw.li.o (lf_no (by decide +kernel) (by decide +kernel)) ?_
          have vz : ∀ {H' : Hp}, H' wp = some (.lst (([a, z] : List Str).map V.str)) → Val (tOp (rIxL K) (tVar 3) (tC (.int 1))) [some (.ref A.l), some (.ref A.g), some (.ref pl), some (.ref wp)] H' (.str z) := fun h => val_ixL (val_var rfl) val_c (SqL.of h) (atI_nat (j := 1) rfl)
          have v3 : Val (tDNotIn (tOp (rIxL K) (tVar 3) (tC (.int 1))) (tVar 2)) [some (.ref A.l), some (.ref A.g), some (.ref pl), some (.ref wp)] H3 (.bl (!decide (z ∈ cs.map (·.1)))) := fun Q q => by
            refine vz hw _ ((val_var rfl) _ ⟨pl, _, rfl, DGet.k (k := .inr z) hp, ?_⟩)
            rw [dOf_has]
            exact q
          refine (val_andV (val_call (va_cons (vz hw) va_nil) fun Q q => ⟨z, rfl, by omega, q⟩) fun _ => v3) _ ?_
          refine ⟨A.l, A.dl, A.r, T.rows, n, _, _, rfl, pw.li, rfl, fun e => ?_, fun e => ErrK.mono ?_ pw.s0⟩
          · rw [if_pos e] at k
            rw [Bool.and_eq_true] at e
            have hnew : z ∉ cs.map (·.1) := fun q => by
              have := e.2
              rw [decide_eq_true q] at this
              exact absurd this Bool.false_ne_true
            refine meth0_run (val_var rfl) pw.li.o (lf_no (by decide +kernel) (by decide +kernel)) ?_
            refine ⟨A.l, A.dl, A.r, T.rows, n, rfl, pw.li, hn, fun H4 sb li4 => ?_⟩
            have hp4 := sb _ _ (ne_of hp pw.li.o (fun e => nomatch e)) hp
            have hw4 := sb _ _ (ne_of hw pw.li.o (fun e => nomatch e)) hw
            have p4 := pw.step sb li4
            obtain ⟨p5, s05⟩ := p4.pinO hp4 (ne_of hp4 p4.li.o (fun e => nomatch e)) (ne_of hp4 p4.pg (fun e => nomatch e)) (ne_of hp4 p4.st (fun e => nomatch e)) pa
            obtain ⟨p6, s06⟩ := p5.pinO hw4 (ne_of hw4 p4.li.o (fun e => nomatch e)) (ne_of hw4 p4.pg (fun e => nomatch e)) wst (ne_of hw4 p4.ak (fun e => nomatch e))
            have s7 := s05.trans s06
            have k1 : (blk T 2 false (n + 1) m S.ds.length S.as).K (fun n1 m1 more as1 => RK (doorsR T f n1 m1 (cs ++ [(z, ((S.ds.length : Nat) : Int))]) (S.ds ++ (more ++ [endD])) as1) (DsQ CL CP A T H0 Q) fun e => ErrK CT (.int e) H0 E) fun e => ErrK CT (.int e) H0 E := by
              revert k
              match blk T 2 false (n + 1) m S.ds.length S.as with
              | .ok (n1, m1, more, as1) => exact fun k => k
              | .error e => exact fun k => k
            refine meth0_run (val_var rfl) p4.pg (pf_no (by decide +kernel)) ?_
            refine ⟨A, T, _, n + 1, m, xs, kvs, S, 3 - cs.length, rfl, p6, tx, by omega, lk, hm, ?_⟩
            refine Res.K.mono k1 (fun n1 m1 more as1 q H8 xs8 kvs8 p8 hl8 hk8 hm8 => ?_) fun e h => h.mono s7
            have hp8 : H8 pl = some (.dK (dOf V.int cs)) := p8.s0 _ _ (s06 _ _ upd_same)
            have hw8 : H8 wp = some (.lst (([a, z] : List Str).map V.str)) := p8.s0 _ _ upd_same
            have p8 := p8.weak s7
            refine (val_var rfl) _ (vz hw8 _ ?_)
            refine ⟨pl, _, rfl, DPut.k (k := .inr z) hp8 (by rw [show (dOf V.int cs).length = cs.length from List.length_map ..]; exact Nat.lt_of_lt_of_le (show cs.length < 4 by omega) (by decide)), ?_⟩
            rw [show putK (dOf V.int cs) (.inr z) (V.int (S.ds.length : Nat)) = dOf V.int (cs ++ [(z, ((S.ds.length : Nat) : Int))]) from dOf_put hnew]
            refine ⟨n1, m1, xs8, kvs8, _, pl, cs ++ [(z, ((S.ds.length : Nat) : Int))], ?_, ?_, ⟨_, rfl⟩, p8.side hp8 p0 pa, p0, pa, upd_same, ?_, hk8, hm8, ?_⟩
            · rw [List.length_append]
              show f + (cs.length + 1) = 4
              omega
            · rw [List.length_append]
              show cs.length + 1 ≤ 3
              omega
            · rw [List.length_append]
              show xs8.length + (4 - (cs.length + 1)) ≤ _
              omega
            · exact q
          · rw [e, if_neg Bool.false_ne_true] at k
            exact k
        · rw [e, if_neg Bool.false_ne_true] at k
          exact k
end
end K5
namespace K5
open PySem PySem.Spec PyProof.Rows L2
/-! ### tuple(a for a, b in a tuple of pairs) -/
section
variable {prog : PySem.Program} {w : World} {A : Around} {E : Value → Shared → Prop} {s : Shared}
theorem go_tupiter {es : List Expr} {kk : Nat} {pos : Pos} {it yl tt : Addr} {i : Nat} {Q : Unit → Shared → Prop} (at1 : s.heap.IsTupleIter it yl i) (next : Q () s) :
    wpAny (model prog w) A (letOwnedTupleGo (.Tuple es kk pos) (.ref it) (.ref tt)) Q E s := by
  obtain ⟨ob, h1, h2, h3⟩ := at1
  unfold letOwnedTupleGo
  refine wpAny_bind (wpAny_load h1 ?_)
  rw [h2, h3]
  show wpAny _ A (if ((["enumerate", "zip", "dict_itemiterator", "dict_reverseitemiterator", "odict_iterator", "itertools.zip_longest", "itertools.pairwise"].contains "tuple_iterator") && ((#[.ref yl, .int i 0] : Array Value)[0]? == some (rawInt tt))) = true then _ else _) Q E s
  rw [if_neg (by
    rw [show (["enumerate", "zip", "dict_itemiterator", "dict_reverseitemiterator", "odict_iterator", "itertools.zip_longest", "itertools.pairwise"].contains "tuple_iterator") = false from by decide, Bool.false_and]
    exact Bool.false_ne_true)]
  exact wpAny_pure next
end
theorem walk_pairs {prog : PySem.Program} {w : World} {A : Around} (calm : A.handled = none) (it yl : Addr) (ne : yl ≠ it) (items : Array Value) (tt : Nat → Addr) (vals : Nat → Array Value)
    (at1 : ∀ j, j < items.size → items[j]? = some (.ref (tt j))) (ne2 : ∀ j, j < items.size → tt j ≠ it) :
    WalksU prog w A it (it :: yl :: (List.range items.size).map tt) [it] items.size (fun j v => v = vals j)
      (fun j h => h.IsTupleIter it yl j ∧ h.IsTuple yl items ∧ ∀ k, k < items.size → h.IsTuple (tt k) (vals k))
      (fun j a h => (j < items.size ∧ a = tt j) ∧ h.IsTupleIter it yl (j + 1) ∧ h.IsTuple yl items ∧ ∀ k, k < items.size → h.IsTuple (tt k) (vals k)) where
  sub := fun c hc => by simp at hc; simp [hc]
  frame := fun _ _ _ z keep => ⟨z.1.at fun o e => keep it (by simp) o e, z.2.1.at fun o e => keep yl (by simp) o e,
    fun k lt => (z.2.2 k lt).at fun o e => keep (tt k) (List.mem_cons_of_mem _ (List.mem_cons_of_mem _ (List.mem_map.mpr ⟨k, List.mem_range.mpr lt, rfl⟩))) o e⟩
  item := fun i s Q E lt z next => by
    refine wpAny_pyNext_tuple_item z.1 z.2.1 (x := .ref (tt i)) (at1 i lt) fun h1 i1 sb => ?_
    have all : ∀ k, k < items.size → h1.IsTuple (tt k) (vals k) := fun k l2 => (z.2.2 k l2).extBut sb.extBut (ne2 k l2)
    exact next (tt i) (vals i) h1 s.toks rfl (all i lt) ⟨⟨lt, rfl⟩, i1, z.2.1.extBut sb.extBut ne, all⟩ fun c o nc e => sb.extBut c o (fun q => nc (by simp [q])) e
  go := fun _ _ _ _ _ s Q _ z next => go_tupiter z.2.1 (next s.heap z.2 fun _ _ _ e => e)
  apart := fun j a _ z q => by
    rcases List.mem_cons.mp q with e | e
    · exact ne2 j z.1.1 (z.1.2 ▸ e)
    · cases e
  done := fun s Q E z next => wpAny_pyNext_tuple_end calm z.1 z.2.1 (by simp) fun h1 ex => next h1 s.toks fun c o nc e => ex c o (fun q => nc (by simp [q])) e
  self := fun _ _ _ _ z next => wpAny_pyIter_tupleiter z.1 next
end K5
namespace K5
open PySem PySem.Spec PyProof.Rows L2
def seqOf (h : Heap) (a : Addr) : Array Value := match h.get? a with
  | some ⟨_, _, .seq vs _, _⟩ => vs
  | _ => #[]
theorem seqOf_at {h : Heap} {a : Addr} {vs : Array Value} (x : IsTup h a vs) : seqOf h a = vs := by
  obtain ⟨o, h1, h2, n, hC⟩ := x
  unfold seqOf
  rw [h1]
  cases o
  cases hC
  rfl
section
variable {X : Cx} {pins : List (Addr × Obj)} {σ : L2.St} {H : Hp} {s : Shared}
/-- the generator g over the first things of the pairs cs -/
def ReadyP (X : Cx) (pins : List (Addr × Obj)) (σ : L2.St) (H1 : Hp) (P : Addr) (cs : List (Str × Int)) (g : Addr) (s5 : Shared) : Prop :=
  ∃ (fps wrs : List Addr) (G : Array GenState → Array GenState → Prop) (F : Nat → Value → Prop) (St : Nat → Shared → Prop),
    WalksS X.prog X.w X.A.in1.in1.in1 g fps wrs G cs.length F St ∧ St 0 s5 ∧ (∀ c ∈ fps, c < s5.heap.objs.size) ∧ g ∈ fps ∧ (∀ i sS, St i sS → sS.TypeIs (.ref g) "generator") ∧
    (∀ j v, F j v → ∃ (q : Str × Int) (t : Tok), cs[j]? = some q ∧ v = .str q.1 t) ∧
    ∀ s', Moved wrs G s5 s' → ∃ H2, GxR.Tabbed P H1 H2 ∧ Inv X pins σ H2 s'
def Pairs (H : Hp) (ts : List Addr) (cs : List (Str × Int)) : Prop := Paired (fun (t : Addr) (q : Str × Int) => H t = some (.tup [.str q.1, .int q.2])) ts cs
theorem Pairs.get {H : Hp} {ts : List Addr} {cs : List (Str × Int)} (h : Pairs H ts cs) {j : Nat} (lt : j < cs.length) : ∃ t q, ts[j]? = some t ∧ cs[j]? = some q ∧ H t = some (.tup [.str q.1, .int q.2]) := by
  have e : ts.length = cs.length := Paired.length h
  have e1 : ts[j]? = some (ts[j]'(by omega)) := List.getElem?_eq_getElem _
  obtain ⟨q, h1, h2⟩ := LiI.paired_get h e1
  exact ⟨_, q, e1, h1, h2⟩
theorem vals_ref : ∀ {ts : List Addr} {us : List Value}, Vals (ts.map V.ref) us → us = ts.map Value.ref
  | [], _, .nil => rfl
  | t :: r, _, .cons a b => by
    rw [vals_ref b, show _ = Value.ref t from a]
    rfl
theorem gen_pairs {c P : Addr} {iter : Expr} {xa xb : Str} {px pa pb pt gpos : Pos} {kt : Nat} {scope : Scope} {te : TE} {k : Nat} {Z : Value → Shared → Prop} {R : List (Str × Int) → Hp → Prop}
    (hr : Room k X.A) (TB : GxR.TabB X.base X.mg c P) (code1 : X.env.code = .ref c) (S : GxR.GenS X.env scope xa) (loc2 : scope.names.lookup xb = some .local) (ab : xa ≠ xb) (nd : (xa == ("__debug__" : Str)) = false) (it : PE X iter te)
    (fold : ∀ v, genFold iter X.env v = pure v) (I : Inv X pins σ H s) (h : te σ H fun v H1 => ∃ (yl : Addr) (ts : List Addr) (cs : List (Str × Int)), v = .ref yl ∧ H1 yl = some (.tup (ts.map V.ref)) ∧ Pairs H1 ts cs ∧ GxR.TabG H1 P ∧ R cs H1)
    (hZ : ∀ cs H1 g s5, R cs H1 → ReadyP X pins σ H1 P cs g s5 → Z (.ref g) s5) :
    wpAny (model X.prog X.w) X.A (eval (.GeneratorExp (.Name xa px) [⟨.Tuple [.Name xa pa, .Name xb pb] kt pt, iter, [], 0⟩] scope gpos) X.env) Z X.xe s := by
  refine wpAny_GeneratorExp_walksQT hr.hd S.co (closure_ok S.free) S.cell S.dot S.loc loc2 ab S.kind (by have := hr.dp; omega) ?_ fold
  refine thn (it.run pins s σ H _ I h) fun xv sA ⟨v, H1, IA, r1, q1⟩ => ?_
  obtain ⟨yl, ts, cs, rfl, hy, prs, ⟨tb0, hP, ht⟩, q1⟩ := q1
  obtain rfl : xv = Value.ref yl := r1
  obtain ⟨its, rv, pl, hz⟩ := IA.tuple (SqT.of hy)
  obtain rfl := vals_ref rv
  have lts : ts.length = cs.length := Paired.length prs
  have n1 : (ts.map Value.ref).toArray.size = cs.length := by rw [List.size_toArray, List.length_map, lts]
  have tat : ∀ j, j < cs.length → ∃ (q : Str × Int) (t u : Tok), ts[j]? = some (ts.getD j 0) ∧ cs[j]? = some q ∧ IsTup sA.heap (ts.getD j 0) #[.str q.1 t, .int q.2 u] := fun j lt => by
    obtain ⟨a, q, e1, e2, e3⟩ := prs.get lt
    obtain ⟨us, r2, p2, _⟩ := IA.tuple (SqT.of e3)
    have ed : ts.getD j 0 = a := by rw [List.getD_eq_getElem?_getD, e1]; rfl
    cases r2 with
    | cons ra rb =>
      cases rb with
      | cons rb rc =>
        cases rc
        obtain ⟨t, rfl⟩ := ra
        obtain ⟨u, rfl⟩ := rb
        exact ⟨q, t, u, by rw [ed]; exact e1, e2, by rw [ed]; exact p2⟩
  have ylt : yl < sA.heap.objs.size := IsTup.lt pl
  refine wpAny_pyIter_tuple pl ?_
  generalize ho : ({ cls := .type "tuple_iterator", data := .fields #[.ref yl, .int 0 0] } : Obj) = o
  have itr : (sA.heap.push o).IsTupleIter sA.heap.objs.size yl 0 := by
    subst ho
    exact ⟨_, Heap.get?_push_size _ rfl, rfl, rfl⟩
  have tabS : sA.heap.get? P = some { cls := .none, data := .fields tb0 } := IA.hok P _ hP
  have Plt : P < sA.heap.objs.size := Heap.lt_size tabS
  have tabS2 : (sA.heap.push o).get? P = some { cls := .none, data := .fields tb0 } := Heap.get?_push_of_some _ tabS
  have cdh : PySem.W.CodeHd (sA.heap.push o) c P := TB.code.keeps fun b u e => Heap.get?_push_of_some _ (IA.bk b u e)
  have limA : (sA.heap.push o).NoLimit := IA.nolimit.push o
  refine ⟨limA, ?_⟩
  have goOn : ∀ (code : Value) (hC : Heap) (tk : Nat) (tb1 : Array Value), Heap.ExtBut P (sA.heap.push o) hC → (sA.heap.push o).objs.size ≤ hC.objs.size → hC.get? P = some { cls := .none, data := .fields tb1 } → (∃ more, tb1 = tb0 ++ more) → TriplesOk tb1.toList →
      wpAny (model X.prog X.w) X.A (builtinsFor X.env.globals X.env.builtins) (fun bi sQ =>
        ∃ I fps wrs n₀ Pt St₀ Mid pz F, Value.ref sA.heap.objs.size = .ref I ∧ (∀ A' : Around, A'.handled = none → WalksU X.prog X.w A' I fps wrs n₀ Pt St₀ Mid) ∧ (∀ i vals, Pt i vals → ∃ va vb, vals = #[va, vb]) ∧ St₀ 0 sQ.heap ∧ (∀ b ∈ fps, b < sQ.heap.objs.size) ∧ sQ.heap.NoLimit ∧ cStatics ∉ wrs ∧
          (∀ hRef : Heap, (∀ b o, sQ.heap.get? b = some o → hRef.get? b = some o) →
            QuietGenT X.prog X.w (genEnv scope (cloFrom X.env.cells scope.names []) sQ.heap.objs.size code bi X.env) xa xb [] (.Name xa px) (List.range sQ.heap.objs.size) wrs Pt pz F hRef) ∧
          (∀ a hR tk gN, gN.bare = true → sQ.heap.objs.size < a → hR.objs.size = a + 1 → (∀ b o, sQ.heap.get? b = some o → hR.get? b = some o) →
            WalksS X.prog X.w X.A.in4 a (a :: sQ.heap.objs.size :: List.range sQ.heap.objs.size) (sQ.heap.objs.size :: wrs) (GenOnlyQ sQ.gens.size) (passing pz n₀ 0).length
              (fun j y => ∃ i, (passing pz n₀ 0)[j]? = some i ∧ F i y) (GenAt X.prog X.w X.A.in4 a sQ.gens.size sQ.heap.objs.size (List.range sQ.heap.objs.size) wrs pz n₀ F) →
            GenAt X.prog X.w X.A.in4 a sQ.gens.size sQ.heap.objs.size (List.range sQ.heap.objs.size) wrs pz n₀ F 0 { sQ with gens := sQ.gens.push gN, toks := tk, heap := hR } →
            Z (.ref a) { sQ with gens := sQ.gens.push gN, toks := tk, heap := hR })) X.xe { sA with heap := hC, toks := tk } := by
    intro code hC tk tb1 hx hsz tabC moreP triC
    obtain ⟨mm, mo, e1, e2, e3, q4, q5, e6, e7, e8⟩ := TB.bm
    have nP : cStatics ≠ P := fun e => by
      obtain ⟨_, nsx, _⟩ := IA.nolimit
      obtain ⟨o', es, ep, ho, hd, _⟩ := nsx
      rw [e, tabS] at ho
      cases ho
      cases hd
    have stl : cStatics < sA.heap.objs.size := let ⟨_, nsx, _⟩ := IA.nolimit; nsx.lt
    have szA : (sA.heap.push o).objs.size = sA.heap.objs.size + 1 := Heap.size_push ..
    have kC : ∀ b u, b ≠ P → sA.heap.get? b = some u → hC.get? b = some u := fun b u inb e => hx b u inb (Heap.get?_push_of_some _ e)
    refine wpAny_builtinsFor (m := X.mg) (by rw [IA.ok.glob]; exact ((IA.mod.glob.keeps IA.bk).push o).extBut hx TB.gP) e1 e2 (kC _ _ q4 (IA.bk _ _ q5)) e6 e7 e8 ?_
    have tupP : ∀ {a : Addr} {vs : Array Value}, IsTup sA.heap a vs → a ≠ P := fun y z => by
      obtain ⟨_, e, hc1, _, hd1⟩ := y
      rw [z, tabS] at e
      cases e
      cases hd1
    have tup3 : ∀ {a : Addr} {vs : Array Value}, IsTup sA.heap a vs → hC.IsTuple a vs := fun y => by
      have np := tupP y
      obtain ⟨u, e, rr⟩ := y
      exact ⟨u, kC _ _ np e, rr⟩
    have itr3 : hC.IsTupleIter sA.heap.objs.size yl 0 := itr.at fun u e => hx _ u (Nat.ne_of_gt Plt) e
    have tl : ∀ j, j < cs.length → ts.getD j 0 < sA.heap.objs.size := fun j lt => by
      obtain ⟨q, t, u, _, _, z⟩ := tat j lt
      exact IsTup.lt z
    have Wk : ∀ A' : Around, A'.handled = none → WalksU X.prog X.w A' sA.heap.objs.size (sA.heap.objs.size :: yl :: (List.range (ts.map Value.ref).toArray.size).map fun j => ts.getD j 0) [sA.heap.objs.size] (ts.map Value.ref).toArray.size
        (fun j v => v = if j < cs.length then seqOf sA.heap (ts.getD j 0) else #[.none, .none])
        (fun j h => h.IsTupleIter sA.heap.objs.size yl j ∧ h.IsTuple yl (ts.map Value.ref).toArray ∧ ∀ k, k < (ts.map Value.ref).toArray.size → h.IsTuple (ts.getD k 0) (if k < cs.length then seqOf sA.heap (ts.getD k 0) else #[.none, .none]))
        (fun j a h => (j < (ts.map Value.ref).toArray.size ∧ a = ts.getD j 0) ∧ h.IsTupleIter sA.heap.objs.size yl (j + 1) ∧ h.IsTuple yl (ts.map Value.ref).toArray ∧ ∀ k, k < (ts.map Value.ref).toArray.size → h.IsTuple (ts.getD k 0) (if k < cs.length then seqOf sA.heap (ts.getD k 0) else #[.none, .none])) := fun A' hA => by
      refine walk_pairs hA _ _ (Nat.ne_of_lt ylt) _ (fun j => ts.getD j 0) (fun j => if j < cs.length then seqOf sA.heap (ts.getD j 0) else #[.none, .none]) (fun j lt => ?_) fun j lt => ?_
      · obtain ⟨q, t, u, e9, _⟩ := tat j (by omega)
        rw [List.getElem?_toArray, List.getElem?_map, e9]
        rfl
      · exact Nat.ne_of_lt (tl j (by omega))
    refine ⟨sA.heap.objs.size, _, [sA.heap.objs.size], _, _, _, _, (fun _ => true), (fun i y => i < cs.length → ∃ (q : Str × Int) (t : Tok), cs[i]? = some q ∧ y = .str q.1 t), rfl, Wk, fun i vals hv => ?_, ?_, ?_, limA.extBut hx nP, ?_, ?_, ?_⟩
    · rw [hv]
      by_cases lt : i < cs.length
      · obtain ⟨q, t, u, _, _, z⟩ := tat i lt
        rw [if_pos lt, seqOf_at z]
        exact ⟨_, _, rfl⟩
      · rw [if_neg lt]
        exact ⟨_, _, rfl⟩
    · refine ⟨itr3, tup3 pl, fun k lt => ?_⟩
      have lt2 : k < cs.length := by omega
      obtain ⟨q, t, u, _, _, z⟩ := tat k lt2
      rw [if_pos lt2, seqOf_at z]
      exact tup3 z
    · intro b inb
      show b < hC.objs.size
      have z3 : sA.heap.objs.size < hC.objs.size := by omega
      rcases List.mem_cons.mp inb with z | z
      · rw [z]
        exact z3
      · rcases List.mem_cons.mp z with z | z
        · rw [z]
          exact Nat.lt_trans ylt z3
        · obtain ⟨j, ltJ, e9⟩ := List.mem_map.mp z
          have z4 := tl j (by have := List.mem_range.mp ltJ; omega)
          rw [← e9]
          exact Nat.lt_trans z4 z3
    · intro z
      rcases List.mem_cons.mp z with z | z
      · exact Nat.ne_of_lt stl z
      · cases z
    · intro hRef keepR
      refine ⟨fun A' E' i va vb s₂ m₂ hA hPv hn hm hm2 hk => ?_, fun A' E' i va vb s₂ m₂ hA hPv hp hn hm hm2 hk => ?_⟩
      · simp only [List.forIn_nil]
        exact wpAny_pure ⟨rfl, GxR.keeps_refl _⟩
      · refine wpAny_Name (wpAny_loadName_local S.kind S.loc hn hm ?_) nd
        refine ⟨fun lt => ?_, GxR.keeps_refl _⟩
        obtain ⟨q, t, u, _, e9, z⟩ := tat i lt
        rw [if_pos lt, seqOf_at z] at hPv
        refine ⟨q, t, e9, ?_⟩
        injection hPv with e10
        injection e10 with e10
    · intro g hD tkD gN bareG ltG szD kpD WD atG
      simp only [GxR.passing_true, List.length_range] at WD
      rw [n1] at WD atG
      refine hZ cs H1 g _ q1 ⟨_, _, _, _, _, WD.in4_3, atG, ?_, List.mem_cons_self, fun i sS zS => ?_, ?_, fun s' hm => ?_⟩
      · intro b inb
        show b < hD.objs.size
        have y5 : hD.objs.size = g + 1 := szD
        have y8 : hC.objs.size < g := ltG
        rw [y5]
        rcases List.mem_cons.mp inb with z | z
        · rw [z]
          exact Nat.lt_succ_self g
        · rcases List.mem_cons.mp z with z | z
          · rw [z]
            exact Nat.lt_succ_of_lt y8
          · have y7 : b < hC.objs.size := List.mem_range.mp z
            exact Nat.lt_succ_of_lt (Nat.lt_trans y7 y8)
      · obtain ⟨z, _⟩ := zS
        exact z.typeIs
      · intro j v hv
        obtain ⟨i, atI1, e9⟩ := hv
        obtain ⟨ltJ, atE⟩ := List.getElem?_eq_some_iff.mp atI1
        rw [List.getElem_range] at atE
        subst atE
        exact e9 (by rw [List.length_range] at ltJ; exact ltJ)
      · obtain ⟨more, eM⟩ := moreP
        have nowr : ∀ b u, sA.heap.get? b = some u → b ∉ hC.objs.size :: [sA.heap.objs.size] := fun b u e inb => by
          have hl := Heap.lt_size e
          have z3 : sA.heap.objs.size < hC.objs.size := by omega
          rcases List.mem_cons.mp inb with z | z
          · rw [z] at hl
            exact Nat.lt_irrefl _ (Nat.lt_trans hl z3)
          · rcases List.mem_cons.mp z with z | z
            · rw [z] at hl
              exact Nat.lt_irrefl _ hl
            · cases z
        have J := GxR.inv_tab (more := more) (h' := s'.heap) (g' := s'.gens) (d' := s'.drawn) (t' := s'.toks) IA hP (fun b u nb e => hm.heap b u (nowr b u e) (kpD b u (kC b u nb e)))
          (by rw [← eM]; exact hm.heap P _ (nowr P _ tabS) (kpD P _ tabC)) (AllBare.movedS (IA.bare.push bareG) hm)
        rw [GxR.sh_eta sA s' hm.os] at J
        exact ⟨upd H1 P (.tbl (tb0 ++ more)), ⟨⟨tb0 ++ more, upd_same, by rw [← eM]; exact triC⟩, fun b nb => upd_ne nb⟩, J⟩
  cases hf : codeAmong gpos tb0.toList with
  | none =>
    refine wpAny_genexprCodeX code1 (cdh.code tabS2 ht) (cdh.tab tabS2) hf fun c' h' tk hx hge hlt cob _ ctab _ => ?_
    obtain ⟨o1, vs, f1, tf, fl, tg, inq, tx, tt, op, _, _, _, _, _, _, _, _, _, trp, _⟩ := cob
    exact goOn _ h' tk _ hx (Nat.le_trans hge (Nat.le_of_lt hlt)) ctab.2 ⟨_, rfl⟩ trp
  | some cv =>
    refine wpAny_genexprCode_hit code1 (cdh.code tabS2 ht) hf ?_
    exact goOn cv (sA.heap.push o) sA.toks tb0 (Heap.ExtBut.refl _ _) (Nat.le_refl _) tabS2 ⟨#[], by simp⟩ ht
/-- tuple(a for a, b in te) -/
def tTupPairs (P : Addr) (te : TE) : TE := fun σ H Q => te σ H fun v H1 => ∃ (yl : Addr) (ts : List Addr) (cs : List (Str × Int)), v = .ref yl ∧ H1 yl = some (.tup (ts.map V.ref)) ∧ Pairs H1 ts cs ∧ GxR.TabG H1 P ∧
  cs.length ≤ 1000 ∧ ∀ (H2 H3 : Hp) (p : Addr), GxR.Tabbed P H1 H2 → Same H2 H3 → H2 p = none → FT H3 p (cs.map fun q => V.str q.1) → Q (.ref p) H3
end
end K5
namespace K5
open PySem PySem.Spec PyProof.Rows L2
section
variable {X : Cx}
/-- tuple(d) of a dict -/
def tTupKeys (te : TE) : TE := fun σ H Q => te σ H fun x H1 => ∃ (d : Addr) (kvs : List (Key × V)), x = .ref d ∧ H1 d = some (.dK kvs) ∧ ∀ p, H1 p = none → Q (.ref p) (upd H1 p (.tup (kvs.map fun q => kV q.1)))
section
variable {prog : PySem.Program} {w : World} {A : Around} {E : Value → Shared → Prop} {s : Shared} {d : Addr} {ep : Nat}
theorem made_tuple_keys {kvs : List (Key × Value)} {Z : Value → Shared → Prop} (calm : A.handled = none) (lo : (d == sysModules) = false) (at' : s.heap.DictAt (mixKind prog w) d kvs ep) (few : kvs.length ≤ sizeLine)
    (then' : ∀ (h1 : Heap) (tk : Nat) (acc : Array Value), (∀ c u, s.heap.get? c = some u → h1.get? c = some u) → ItemsOf (fun i v => ∃ k x, kvs[i]? = some (k, x) ∧ (mixKind prog w).is k v = true) acc kvs.length →
      Z (.ref h1.objs.size) { s with heap := h1.push { cls := .type "tuple", data := .seq acc }, toks := tk }) :
    codeAny (model prog w) A (.call (.builtin "tuple.__new__") ⟨[.type "tuple", .ref d], []⟩) (wants Z E) s := by
  refine codeAny_of_tree ?_
  show wpAny _ A.in1 (do
    checkBuiltinCall "tuple.__new__" ⟨[.type "tuple", .ref d], []⟩
    again (.builtin "tuple.__new__" ⟨[.type "tuple", .ref d], []⟩)) _ _ s
  have pid := F.plain_tuple_new
  refine wpAny_bind (wpAny_of_eq (F.newCall_tuple_1 _) (wpAny_pure ⟨plainId_quiet pid _, codeAny_builtin F.entry_tuple_new ?_⟩))
  rw [Around.under_plainId pid _]
  have f1 := sub_tuple_self
  have f2 := init_tuple_lookup
  have f3 := madeHere_tuple
  have f4 : s.TypeIs (.ref d) "dict" := at'.dictOf.typeIs
  have f5 : A.in1.handled = none := calm
  wp_walk using wpAny_typeOf f4, PySem.W.kdu_collect (A := A.in1) (PySem.W.kdl_dict (knd := mixKind prog w) (kvs := kvs) (ep := ep) lo) f5 at' few
  intro h1 tk acc keep hio
  show wpAny _ _ (Builtin.Tuple.tupleExact acc.toList.toArray >>= fun x => ret x) _ _ _
  rw [Builtin.Tuple.tupleExact]
  refine wpAny_bind (wpAny_newObj_type ?_ (by show acc.toList.toArray.size ≤ sizeLine; rw [Array.toArray_toList, hio.1]; exact few))
  refine wpAny_pure ?_
  rw [Array.toArray_toList]
  exact then' h1 tk acc keep hio
theorem called_tuple_keys {kvs : List (Key × Value)} {Z : Value → Shared → Prop} (calm : A.handled = none) (lo : (d == sysModules) = false) (at' : s.heap.DictAt (mixKind prog w) d kvs ep) (few : kvs.length ≤ sizeLine)
    (then' : ∀ (h1 : Heap) (tk : Nat) (acc : Array Value), (∀ c u, s.heap.get? c = some u → h1.get? c = some u) → ItemsOf (fun i v => ∃ k x, kvs[i]? = some (k, x) ∧ (mixKind prog w).is k v = true) acc kvs.length →
      Z (.ref h1.objs.size) { s with heap := h1.push { cls := .type "tuple", data := .seq acc }, toks := tk }) :
    wpAny (model prog w) A (call (.type "tuple") [.ref d]) Z E s := by
  refine callType_codes (Q₁ := fun y s1 => s1.TypeIs y "tuple" ∧ Z y s1) F.called_tuple (F.typeCall_tuple_1 _) F.entry_object_init
    (made_tuple_keys (A := A.in1) calm lo at' few fun h1 tk acc k1 k2 => ⟨⟨_, Heap.get?_push_size _ rfl, rfl⟩, then' h1 tk acc k1 k2⟩) fun y s1 z => ?_
  exact ⟨z.1, F.args_object_init_2 y _, object_init_meets F.called_tuple.init.lookup F.called_tuple.made (by decide) prog w A.in1 _ s1 ⟨z.1, rfl, z.2⟩⟩
end
theorem pe_tupKeys {e : Expr} {te : TE} {p pos : Pos} (hc : X.calm = true) (hg : Gl X "tuple") (hm : X.mg "tuple" = none) (he : PE X e te) (na : starEach [e] X.env = (false, eval e X.env) :: starEach [] X.env := by rfl) :
    PE X (.Call (.Name "tuple" p) [e] [] pos) (tTupKeys te) := by
  refine ⟨fun pins s σ H Q I hh0 => ?_⟩
  refine Call_ (ld_blt I hg hm boot_tuple (PyProof.Rows.callWith_type1 (one_arg he I hh0 (fun v s2 x H2 I2 r z => ?_) na) na))
  obtain ⟨d, kvs, rfl, hk, q⟩ := z
  obtain rfl : v = Value.ref d := r
  obtain ⟨zz, lo, vs, rKey, hd⟩ := (show ObjOk X.prog X.w H2 s2.heap d (.dK kvs) from I2.hok d _ hk)
  obtain ⟨ep, hat⟩ := hd.dictAt
  have lenEq : kvs.length = vs.length := Paired.length rKey
  refine called_tuple_keys (kvs := vs) (ep := ep) (I2.ok.hd hc) lo hat (by rw [← lenEq]; exact zz) fun h1 tk acc keep hio => ?_
  have I3 : Inv X pins σ H2 { s2 with heap := h1, toks := tk } := I2.kept (t' := tk) keep
  have rv : Vals (kvs.map fun q => kV q.1) acc.toList := by
    refine vals_of_at (by rw [List.length_map]; exact lenEq.trans hio.1.symm) fun j x w2 e1 e2 => ?_
    obtain ⟨k, y, e3, e4⟩ := hio.2 j w2 (by rw [← Array.getElem?_toList]; exact e2)
    have e5 : (kvs.map (·.1))[j]? = some k := by
      rw [KV.keys rKey, List.getElem?_map, e3]
      rfl
    rw [show (kvs.map fun q => kV q.1) = (kvs.map (·.1)).map kV by rw [List.map_map]; rfl, List.getElem?_map, e5] at e1
    cases e1
    exact keyIs_rel e4
  refine ⟨.ref h1.objs.size, _, I3.laid (t' := tk) (o := .tup (kvs.map fun q => kV q.1)) (fun c o e => Heap.get?_push_of_some _ e) (Nat.le_refl _) ⟨by rw [List.length_map]; exact zz, acc.toList, rv, ?_⟩, rfl, q _ (I3.hok.fresh (Nat.le_refl _))⟩
  rw [Array.toArray_toList]
  exact IsTup.new _ _
theorem pe_tupPairs {c P : Addr} {iter : Expr} {xa xb : Str} {px pa pb pt gpos p pos : Pos} {kt : Nat} {scope : Scope} {te : TE} {k : Nat}
    (hr : Room k X.A) (TB : GxR.TabB X.base X.mg c P) (code1 : X.env.code = .ref c) (S : GxR.GenS X.env scope xa) (loc2 : scope.names.lookup xb = some .local) (ab : xa ≠ xb) (nd : (xa == ("__debug__" : Str)) = false) (it : PE X iter te)
    (fold : ∀ v, genFold iter X.env v = pure v) (hg : Gl X "tuple") (hm : X.mg "tuple" = none)
    (star1 : starEach [.GeneratorExp (.Name xa px) [⟨.Tuple [.Name xa pa, .Name xb pb] kt pt, iter, [], 0⟩] scope gpos] X.env = (false, eval (.GeneratorExp (.Name xa px) [⟨.Tuple [.Name xa pa, .Name xb pb] kt pt, iter, [], 0⟩] scope gpos) X.env) :: starEach [] X.env := by rfl) :
    PE X (.Call (.Name "tuple" p) [.GeneratorExp (.Name xa px) [⟨.Tuple [.Name xa pa, .Name xb pb] kt pt, iter, [], 0⟩] scope gpos] [] pos) (tTupPairs P te) := by
  refine ⟨fun pins s σ H Q I hh0 => ?_⟩
  refine wpAny_Call_Name_kw (ld_blt I hg hm boot_tuple ?_)
  refine PyProof.Rows.callWith_type1 ?_ star1 rfl
  rw [star1]
  show wpAny _ _ (spliced ((false, eval (.GeneratorExp (.Name xa px) [⟨.Tuple [.Name xa pa, .Name xb pb] kt pt, iter, [], 0⟩] scope gpos) X.env) :: backTo pos (starEach [] X.env))) _ _ s
  refine Calls.spliced_cons (gen_pairs (R := fun cs H1 => cs.length ≤ 1000 ∧ ∀ (H2 H3 : Hp) (p : Addr), GxR.Tabbed P H1 H2 → Same H2 H3 → H2 p = none → FT H3 p (cs.map fun (q : Str × Int) => V.str q.1) → Q (.ref p) H3) hr TB code1 S loc2 ab nd it fold I hh0 fun cs H1 g s5 hR hG => ?_)
  refine Calls.spliced_nil ?_
  obtain ⟨fp, wr, G, F, St, W, hst, hfp, hgf, hT, hF, hinv⟩ := hG
  obtain ⟨few, q⟩ := hR
  have few2 : cs.length ≤ sizeLine := Nat.le_trans few (by decide)
  refine call_tuple_gen (n := cs.length) W hT hst hfp hgf (fun s' acc hm2 hio => ?_) (hsz := few2)
  obtain ⟨H2, tb, J⟩ := hinv s' hm2
  have rv : Vals (cs.map fun q => V.str q.1) acc.toList := by
    refine vals_of_at (by rw [List.length_map, Array.length_toList]; exact hio.1.symm) fun j x u e1 e2 => ?_
    obtain ⟨q0, t, e3, e4⟩ := hF j u (hio.2 j u (by rw [← Array.getElem?_toList]; exact e2))
    rw [List.getElem?_map, e3] at e1
    cases e1
    exact ⟨t, e4⟩
  have nf : H2 s'.heap.objs.size = none := J.hok.fresh (Nat.le_refl _)
  have new : Inv X pins σ (upd H2 s'.heap.objs.size (.frz { cls := .type "tuple", data := .seq acc } (.tup (cs.map fun q => V.str q.1)))) { s' with heap := s'.heap.push { cls := .type "tuple", data := .seq acc } } := by
    refine J.laid (t' := s'.toks) (fun c o e => Heap.get?_push_of_some _ e) (Nat.le_refl _) ⟨Heap.get?_push_size _ rfl, ?_⟩
    refine ⟨by rw [List.length_map]; exact few2, acc.toList, rv, ?_⟩
    rw [Array.toArray_toList]
    exact IsTup.new _ _
  exact ⟨.ref s'.heap.objs.size, _, new, rfl, q _ _ _ tb (same_upd nf) nf ⟨_, upd_same, rfl⟩⟩
end
end K5
namespace K5
open PySem PySem.Spec PyProof.Rows L2
abbrev s_Part___init__ : Stmt := inClass (topS 42) 0
theorem sc_Part___init__ : FnScope ["self", "worths", "text", "lines", "program", "name", "_"] ["self", "worths", "text"] (defScope s_Part___init__) := ⟨rfl, rfl, rfl, by decide +kernel, rfl, by decide +kernel, by decide +kernel⟩
/-- a def whose code object is at c -/
structure FunT (K : PySem.W.Frag) (x qual : Str) (st : Stmt) (f : Addr) (fd : FuncData) (c : Addr) : Prop where
  ex : ∃ (oc : Value) (od : Option Addr) (kV doc pm : Value) (an : Option Addr) (ct : Value) (osl : Array (Option Value)),
    fd = PySem.W.fnOf x qual (defArgs st) (defBody st) (defScope st) .none kV doc pm an (.ref c) ct ∧ K.lookup f = some ⟨oc, od, .func fd, osl⟩ ∧ PySem.W.codeIn K (.ref c) qual = true
  kp : PySem.W.keepIn K (.ref f) = true
theorem FunT.okC {P : Program} {w : World} {K : PySem.W.Frag} {mg : Str → Option Value} {base : Heap} {x qual : Str} {st : Stmt} {f c : Addr} {fd : FuncData} {N ps : List Str} {k : Nat} {sp : Sp} (F : FunT K x qual st f fd c) (S : FnScope N ps (defScope st)) (len : ∀ vs H Q E, sp vs H Q E → vs.length = ps.length)
    (hbody : ∀ (A : Around) (outer : List Env) (s : Shared) (H : Hp) (vs : List V) (Q : VK) (E : XK), Room k (A.deeper (envOfC qual (defScope st) s.heap.objs.size f (.ref c))) → sp vs H Q E →
      ∃ t, PSs (cxOf (L2.CX P w) P w K mg base N qual (defScope st) f (.ref c) A outer s H E) (defBody st) t ∧ t { nx := fun _ H' => Q .non H', rt := Q } (start N vs) H) : FnOk P w K mg base (L2.CX P w) (k + 1) f fd ps sp := by
  obtain ⟨oc, od, kV, doc, pm, an, ct, osl, e, l1, l2⟩ := F.ex
  subst e
  exact fn_of l1 l2 S len hbody
/-! ### a part -/
/-- what a part is: its cells, ports, doors with their places, steps, asks -/
structure PD where
  (cs : List (Str × Int)) (ps : List Str) (sts : List (Str × Int)) (ds : List PyData) (as : Ak)
def partR (wn : Int) (rows : List Str) : Except Nat PD :=
  match cellsR rows wn 4 0 [] with
  | .error n => .error n
  | .ok (n1, cs) => match portsR rows 3 n1 [] with
    | .error n => .error n
    | .ok (n2, ps) => match doorsR ⟨rows, wn, cs.map (·.1), ps⟩ 4 n2 0 [] [] [] with
      | .error n => .error n
      | .ok (n3, R) => if n3 = rows.length then .ok ⟨cs, ps, R.1, R.2.1, R.2.2⟩ else .error n3
def KeepP (a P : Addr) (H H' : Hp) : Prop := ∀ b o, b ≠ P → b ≠ a → H b = some o → H' b = some o
def ErrP (a P C : Addr) (v : V) (H : Hp) (E : XK) : Prop := ∀ (d : Addr) (H' : Hp), KeepP a P H H' → GxR.TabG H' P → H' d = some (.xd [(("value" : Str), v)]) → E (.ref C) (some d) H'
def partF (x y : V) (ct pt sd dt stp ak : Addr) : List (Str × V) := [("worths", x), ("text", y), ("cells", .ref ct), ("ports", .ref pt), ("starts", .ref sd), ("doors", .ref dt), ("steps", .ref stp), ("asks", .ref ak)]
/-- a part stands at a -/
structure PtF (Pt da : Addr) (H : Hp) (a : Addr) (x y : V) (D : PD) (ct pt sd dt stp ak : Addr) (ts : List Addr) (xs : List V) (kvs : List (Key × V)) : Prop where
  o : H a = some (.ins Pt da (partF x y ct pt sd dt stp ak))
  ct : H ct = some (.tup (ts.map V.ref))
  ts : Pairs H ts D.cs
  pt : H pt = some (.tup (D.ps.map V.str))
  sd : H sd = some (.dK (dOf V.int D.sts))
  dt : H dt = some (.tup ((D.sts.map (·.1)).map V.str))
  stp : H stp = some (.tup xs)
  sx : Trs H xs D.ds
  ak : H ak = some (.dK kvs)
  ax : AkAt H kvs D.as
def PtAt (Pt da : Addr) (H : Hp) (a : Addr) (x y : V) (D : PD) : Prop := ∃ ct pt sd dt stp ak ts xs kvs, PtF Pt da H a x y D ct pt sd dt stp ak ts xs kvs
def OkP (a P C da : Addr) (x y : V) (D : PD) (H : Hp) (Q : VK) : Prop := ∀ (H' : Hp), KeepP a P H H' → GxR.TabG H' P → PtAt C da H' a x y D → Q .non H'
def spPart (P C CT CW : Addr) : Sp := fun vs H Q E => ∃ (a da : Addr) (x y : V) (Tx Ty : String), vs = [.ref a, x, y] ∧ H a = some (.ins C da []) ∧ Kd H x Tx ∧ Kd H y Ty ∧ GxR.TabG H P ∧ a ≠ P ∧
  (worthsOk x = false → ErrP a P CW x H E) ∧ ∀ wn : Int, x = .int wn → worthsOk x = true → (isS y = false → ErrP a P CT (.int (-1)) H E) ∧ ∀ z : Str, y = .str z → z.length ≤ 14000 ∧ PyData.strOk z = true ∧
    match partR wn (rowsOf z) with
    | .ok D => OkP a P C da x y D H Q
    | .error n => ErrP a P CT (.int n) H E
def hide (H : Hp) (L : List Addr) : Hp := fun b => if b ∈ L then none else H b
theorem hide_in {H : Hp} {L : List Addr} {b : Addr} (h : b ∈ L) : hide H L b = none := if_pos h
theorem hide_out {H : Hp} {L : List Addr} {b : Addr} (h : b ∉ L) : hide H L b = H b := if_neg h
theorem hide_same {H : Hp} {L : List Addr} : Same (hide H L) H := fun b o e => by
  by_cases h : b ∈ L
  · rw [hide_in h] at e
    cases e
  · rw [hide_out h] at e
    exact e
theorem errOf {a P C : Addr} {v : V} {H Hk : Hp} {E : XK} {L : List Addr} (h : ErrP a P C v H E) (keep : KeepP a P H Hk) (tab : GxR.TabG Hk P) (hL : ∀ b ∈ L, b = a ∨ H b = none) (hP : P ∉ L) : ErrK C v (hide Hk L) E := fun d H' s _ hd => by
  refine h d H' (fun b o n1 n2 e => s b o ?_) ?_ hd
  · have nl : b ∉ L := fun z => by
      rcases hL b z with q | q
      · exact n2 q
      · rw [q] at e
        cases e
    rw [hide_out nl]
    exact keep b o n1 n2 e
  · obtain ⟨ps, h1, h2⟩ := tab
    exact ⟨ps, s _ _ (by rw [hide_out hP]; exact h1), h2⟩
theorem errOf0 {a P C : Addr} {v : V} {H Hk : Hp} {E : XK} (h : ErrP a P C v H E) (keep : KeepP a P H Hk) (tab : GxR.TabG Hk P) : ErrK C v Hk E := fun d H' s _ hd => by
  refine h d H' (fun b o n1 n2 e => s b o (keep b o n1 n2 e)) ?_ hd
  obtain ⟨ps, h1, h2⟩ := tab
  exact ⟨ps, s _ _ h1, h2⟩
theorem tup_ne {zs : List V} {C d : Addr} {f : List (Str × V)} : HO.tup zs ≠ .ins C d f := fun e => nomatch e
theorem pairs_to {H H' : Hp} {ts : List Addr} {cs : List (Str × Int)} (h : Pairs H ts cs) (k : ∀ b zs, H b = some (.tup zs) → H' b = some (.tup zs)) : Pairs H' ts cs := paired_imp (fun t q e => k t _ e) h
theorem fld_via {K : PySem.W.Frag} {D : Ends} {σ : L2.St} {H : Hp} {f : Str} {to te : TE} (h : te σ H fun v H' => sFld K to (tC v) f D σ H') : sFld K to te f D σ H := h
structure ClT (K : PySem.W.Frag) (C : Addr) : Prop where
  cl : Cls K C
  na : ∀ x ∈ (["worths", "text", "cells", "ports", "starts", "doors", "steps", "asks"] : List Str), NoAttr K C x
section
variable {P : Program} {w : World} {K : PySem.W.Frag} {mg : Str → Option Value} {base : Heap} {CL CP CT CW Pt c TB : Addr} {fBegins fWords fStep fNeed fName fDoor fNum : Addr} {dBegins dWords dStep dNeed dName dDoor dNum : FuncData}
theorem ok_Part_init {f fW fL fE fC fQ fG fD fN : Addr} {fd dW dL dE dC dQ dG dD dN : FuncData} (N : En4 P w K mg base CL CT fBegins fWords fStep fNeed fName fDoor fNum dBegins dWords dStep dNeed dName dDoor dNum) (C : ClP K CP) (CC : ClT K Pt) (F : FunT K "__init__" "Part.__init__" s_Part___init__ f fd c) (TB1 : GxR.TabB base mg c TB)
    (TW : Er K mg "BadWorths" CW fE) (GE : FnOk P w K mg base CX0 1 fE dE ["self", "value"] (spErr K)) (bE : Binds K dE ["self", "value"] [])
    (Dw : Df K mg "is_worths" s_is_worths fW dW ["value"]) (Gw : FnOk P w K mg base CX0 2 fW dW ["value"] spIsWorths)
    (ML : Mk K CL fL) (gL : mg "Lines" = some (.ref CL)) (bL : Binds K dL ["self", "text"] []) (GL : FnOk P w K mg base (L2.CX P w) 4 fL dL ["self", "text"] (spLinesInit CL CT))
    (Dc : Df K mg "read_cells" s_read_cells fC dC ["lines", "worths"]) (Gc : FnOk P w K mg base (L2.CX P w) 5 fC dC ["lines", "worths"] (spCells CL CT))
    (Dq : Df K mg "read_ports" s_read_ports fQ dQ ["lines"]) (Gq : FnOk P w K mg base (L2.CX P w) 5 fQ dQ ["lines"] (spPorts CL CT))
    (MG : Mk K CP fG) (gG : mg "Program" = some (.ref CP)) (bG : Binds K dG ["self", "lines", "worths", "cells", "ports"] []) (GG : FnOk P w K mg base CX0 1 fG dG ["self", "lines", "worths", "cells", "ports"] (spProgram CP))
    (Dd : Df K mg "read_doors" s_read_doors fD dD ["lines", "program"]) (Gd : FnOk P w K mg base (L2.CX P w) 21 fD dD ["lines", "program"] (spDoors CL CP CT))
    (Me : Mf K CL "need_end" "Lines.need_end" s_Lines_need_end fN dN ["self"]) (Ge : FnOk P w K mg base (L2.CX P w) 5 fN dN ["self"] (spNeedEnd CL CT)) :
    FnOk P w K mg base (L2.CX P w) 22 f fd ["self", "worths", "text"] (spPart TB Pt CT CW) := by
  refine F.okC sc_Part___init__ (fun vs H Q E h => ?_) (fun A0 outer s H vs Q E hr h => ?_)
  · obtain ⟨a, da, x, y, Tx, Ty, rfl, _⟩ := h
    rfl
  · obtain ⟨a, da, x, y, Tx, Ty, rfl, ha, hx, hy, tab, naP, kW, k⟩ := h
    have S := sc_Part___init__
    refine ⟨_, (pss_cons (ps_if (pt_not (pt_val (pe_call Gw (hr.mono (by decide)) (by rfl) Dw.g Dw.F.kp Dw.b .nil pass0 (pa_cons (pv 1) pa_nil))))
        (pss_one (ps_raise rfl (takes_of rfl rfl rfl rfl) (pmk_oex TW.O TW.iC TW.tI GE (hr.mono (by decide)) bE .nil pass0 (by rfl) TW.g (pa_cons (pv 1) pa_nil))))
        pss_nil)
      (pss_cons (ps_set (i := 3) S.nd rfl (.inl rfl) (pe_make ML GL (hr.mono (by decide)) (by rfl) gL bL .nil (pxp rfl rfl rfl rfl) (pa_cons (pv 2) pa_nil)))
      (pss_cons (ps_fld (pv 0) (pv 1) rfl)
      (pss_cons (ps_fld (pv 0) (pv 2) rfl)
      (pss_cons (ps_fld (pv 0) (pe_call Gc (hr.mono (by decide)) (by rfl) Dc.g Dc.F.kp Dc.b .nil (pxp rfl rfl rfl rfl) (pa_cons (pv 3) (pa_cons (pv 1) pa_nil))) rfl)
      (pss_cons (ps_fld (pv 0) (pe_call Gq (hr.mono (by decide)) (by rfl) Dq.g Dq.F.kp Dq.b .nil (pxp rfl rfl rfl rfl) (pa_cons (pv 3) pa_nil)) rfl)
      (pss_cons (ps_set (i := 4) S.nd rfl (.inl rfl) (pe_make MG GG (hr.mono (by decide)) (by rfl) gG bG .nil pass0 (pa_cons (pv 3) (pa_cons (pv 1) (pa_cons (pe_tupPairs hr TB1 rfl ⟨rfl, rfl, by decide +kernel, by decide +kernel, by decide +kernel, fun y hy e => absurd e ((show ∀ y ∈ ([(".0", .local), ("name", .local), ("_", .local)] : List (Str × NameKind)), y.2 ≠ .free by decide +kernel) y hy)⟩ (by decide +kernel) (by decide +kernel) (by decide +kernel) (pe_fld (pv 0) rfl) (fun _ => rfl) (by rfl) N.B.m_tuple) (pa_cons (pe_fld (pv 0) rfl) pa_nil))))))
      (pss_cons (ps_fld (pv 0) (pe_call Gd (hr.mono (by decide)) (by rfl) Dd.g Dd.F.kp Dd.b .nil (pxp rfl rfl rfl rfl) (pa_cons (pv 3) (pa_cons (pv 4) pa_nil))) rfl)
      (pss_cons (ps_expr (pe_meth0 (pv 3) N.L.cl Me.m Ge (hr.mono (by decide)) Me.b .nil (pxp rfl rfl rfl rfl)))
      (pss_cons (ps_fld (pv 0) (pe_tupKeys rfl (by rfl) N.B.m_tuple (pe_fld (pv 0) rfl)) rfl)
      (pss_cons (ps_fld (pv 0) (pe_tupleOf (by rfl) N.B.m_tuple (pe_fld (pv 4) rfl)) rfl)
      (pss_one (ps_fld (pv 0) (pe_fld (pv 4) rfl) rfl))))))))))))), ?_⟩
    have na : ∀ n : Str, n ∈ (["worths", "text", "cells", "ports", "starts", "doors", "steps", "asks"] : List Str) → NoAttr K Pt n := CC.na
    refine (val_call (va_cons (val_var rfl) va_nil) fun Q q => ⟨x, Tx, rfl, hx, q⟩) _ ⟨_, rfl, ?_⟩
    cases hw : worthsOk x with
    | false =>
      refine iteT ?_
      exact raise_run TW.O TW.nv (val_var rfl) (errOf0 (kW hw) (fun b o _ _ e => e) tab)
    | true =>
      refine iteF ?_
      obtain ⟨wn, rfl⟩ : ∃ wn, x = .int wn := by
        cases hx with
        | int i => exact ⟨i, rfl⟩
        | _ => exact absurd (show false = true from hw) Bool.false_ne_true
      obtain ⟨kS, kz⟩ := k wn rfl hw
      dsimp only [tNext, tSeq, tAsg, tDrop]
      refine (val_var rfl) _ ?_
      refine fun l dl nl ndl ne => ?_
      have n0 : (upd H dl (.own l)) l = none := by
        rw [upd_ne ne.symm]
        exact nl
      have sL : Same H (upd (upd H dl (.own l)) l (.ins CL dl [])) := (same_upd ndl).trans (same_upd n0)
      have hlL : (upd (upd H dl (.own l)) l (.ins CL dl [])) l = some (.ins CL dl []) := upd_same
      generalize (upd (upd H dl (.own l)) l (.ins CL dl [])) = HL at sL hlL
      have tabL : GxR.TabG HL TB := by
        obtain ⟨q, h1, h2⟩ := tab
        exact ⟨q, sL _ _ h1, h2⟩
      refine ⟨l, dl, y, Ty, rfl, hlL, hy.mono sL, fun z ez => ?_, fun e => errOf0 (kS e) (fun b o _ _ e => sL b o e) tabL⟩
      obtain ⟨hz, hok, kk⟩ := kz z ez
      refine ⟨hz, fun H1 r sb1 _ li1 => ⟨rfl, ?_⟩⟩
      have s01 : Same H H1 := fun b o e => sb1 b o (ne_of_none e nl) (sL b o e)
      have sz : Sz (rowsOf z) := sz_rows hz hok
      have nla : l ≠ a := (ne_of_none ha nl).symm
      have nlT : l ≠ TB := fun e => by
        obtain ⟨q, h1, _⟩ := tab
        rw [← e, nl] at h1
        cases h1
      dsimp only [gName]
      -- worths, text
      refine fld_new [] (val_var rfl) (val_var rfl) (s01 _ _ ha) CC.cl (na _ (by decide +kernel)) rfl (by decide +kernel) (by decide) fun H2 sb2 a2 => ?_
      refine fld_new ["worths"] (val_var rfl) (val_var rfl) a2 CC.cl (na _ (by decide +kernel)) rfl (by decide +kernel) (by decide) fun H3 sb3 a3 => ?_
      have sb13 := sb2.trans sb3
      have nra : r ≠ a := ne_of li1.r (s01 _ _ ha) (fun e => nomatch e)
      have li3 : LinesAt CL H3 l dl r (rowsOf z) 0 := ⟨sb13 _ _ nla li1.o, sb13 _ _ nra li1.r, li1.le⟩
      have k3 : KeepP a TB H H3 := fun b o _ n2 e => sb13 b o n2 (s01 b o e)
      have tab3 : GxR.TabG H3 TB := by
        obtain ⟨q, h1, h2⟩ := tab
        exact ⟨q, sb13 _ _ naP.symm (s01 _ _ h1), h2⟩
      -- cells
      unfold partR at kk
      dsimp only [tSeq]
      refine fld_via ?_
      dsimp only [tCall, tCons, tNil]
      refine (val_var rfl) _ ?_
      refine (val_var rfl) _ ?_
      refine ⟨hide H3 [l], l, dl, r, rowsOf z, 0, wn, rfl, hide_same, hide_in (by simp), li3, sz, ?_⟩
      cases ec : cellsR (rowsOf z) wn 4 0 [] with
      | error n =>
        rw [ec] at kk
        exact errOf kk k3 tab3 (fun b hb => .inr (by rw [List.mem_singleton.mp hb]; exact nl)) (fun hb => nlT (List.mem_singleton.mp hb).symm)
      | ok p =>
        obtain ⟨n1, cs⟩ := p
        rw [ec] at kk
        dsimp only at kk
        intro H4 ct ts s4 li4 _ hct hts lcs
        have f4 : ∀ b o, b ≠ l → H3 b = some o → H4 b = some o := fun b o n e => s4 b o (by rw [hide_out (fun q => n (List.mem_singleton.mp q))]; exact e)
        refine fld_new ["worths", "text"] val_c (val_var rfl) (f4 _ _ nla.symm a3) CC.cl (na _ (by decide +kernel)) rfl (by decide +kernel) (by decide) fun H5 sb5 a5 => ?_
        have k5 : KeepP a TB H H5 := fun b o n1 n2 e => sb5 b o n2 (f4 b o (ne_of_none e nl) (k3 b o n1 n2 e))
        have tab5 : GxR.TabG H5 TB := by
          obtain ⟨q, h1, h2⟩ := tab3
          exact ⟨q, sb5 _ _ naP.symm (f4 _ _ nlT.symm h1), h2⟩
        have f4b : ∀ b o, H4 b = some o → (∀ d f, o ≠ .ins Pt d f) → H5 b = some o := fun b o e n => sb5 b o (ne_of e (f4 _ _ nla.symm a3) fun q => n _ _ q) e
        have hct5 := f4b _ _ hct (fun d f e => nomatch e)
        have hts5 : Pairs H5 ts cs := pairs_to hts fun b zs e => f4b _ _ e (fun d f => tup_ne)
        have li5 : LinesAt CL H5 l dl r (rowsOf z) n1 := ⟨sb5 _ _ nla li4.o, sb5 _ _ nra li4.r, li4.le⟩
        clear hct hts li4 f4b
        -- ports
        dsimp only [tSeq]
        refine fld_via ?_
        dsimp only [tCall, tCons, tNil]
        refine (val_var rfl) _ ?_
        refine ⟨hide H5 [l], l, dl, r, rowsOf z, n1, rfl, hide_same, hide_in (by simp), li5, sz, ?_⟩
        cases ep : portsR (rowsOf z) 3 n1 [] with
        | error n =>
          rw [ep] at kk
          exact errOf kk k5 tab5 (fun b hb => .inr (by rw [List.mem_singleton.mp hb]; exact nl)) (fun hb => nlT (List.mem_singleton.mp hb).symm)
        | ok p =>
          obtain ⟨n2, ps⟩ := p
          rw [ep] at kk
          dsimp only at kk
          intro H6 pt s6 li6 _ hpt lps
          have f6 : ∀ b o, b ≠ l → H5 b = some o → H6 b = some o := fun b o n e => s6 b o (by rw [hide_out (fun q => n (List.mem_singleton.mp q))]; exact e)
          refine fld_new ["worths", "text", "cells"] val_c (val_var rfl) (f6 _ _ nla.symm a5) CC.cl (na _ (by decide +kernel)) rfl (by decide +kernel) (by decide) fun H7 sb7 a7 => ?_
          have k7 : KeepP a TB H H7 := fun b o n1 n2 e => sb7 b o n2 (f6 b o (ne_of_none e nl) (k5 b o n1 n2 e))
          have f6b : ∀ b o, H6 b = some o → (∀ d f, o ≠ .ins Pt d f) → H7 b = some o := fun b o e n => sb7 b o (ne_of e (f6 _ _ nla.symm a5) fun q => n _ _ q) e
          have f6c : ∀ b o, H5 b = some o → (∀ d f, o ≠ .ins Pt d f) → (∀ d f, o ≠ .ins CL d f) → H7 b = some o := fun b o e n n2 => f6b b o (f6 b o (ne_of e li5.o fun q => n2 _ _ q) e) n
          have tab7 : GxR.TabG H7 TB := by
            obtain ⟨q, h1, h2⟩ := tab5
            exact ⟨q, f6c _ _ h1 (fun d f e => nomatch e) (fun d f e => nomatch e), h2⟩
          have hct7 := f6c _ _ hct5 (fun d f e => nomatch e) (fun d f e => nomatch e)
          have hts7 : Pairs H7 ts cs := pairs_to hts5 fun b zs e => f6c _ _ e (fun d f => tup_ne) (fun d f => tup_ne)
          have hpt7 := f6b _ _ hpt (fun d f e => nomatch e)
          have li7 : LinesAt CL H7 l dl r (rowsOf z) n2 := ⟨sb7 _ _ nla li6.o, sb7 _ _ nra li6.r, li6.le⟩
          clear hct5 hts5 hpt li6 f6b f6c
          -- the program
          dsimp only [tSeq]
          dsimp only [tAsg, tMake, tCall, tCons, tNil]
          refine (val_var rfl) _ ?_
          refine (val_var rfl) _ ?_
          have a7' : H7 a = some (.ins Pt da [("worths", .int wn), ("text", y), ("cells", .ref ct), ("ports", .ref pt)]) := a7
          refine (val_fld (val_var rfl) a7' CC.cl (na "cells" (by decide +kernel)) ((lk_tl (by decide +kernel)).trans ((lk_tl (by decide +kernel)).trans lk_hd))) _ ?_
          refine ⟨ct, ts, cs, rfl, hct7, hts7, tab7, Nat.le_trans lcs (by decide), fun H8 H9 nt tb8 s89 _ ft9 => ?_⟩
          have f79 : ∀ b o, H7 b = some o → (∀ q, o ≠ .tbl q) → H9 b = some o := fun b o e n => by
            have nb : b ≠ TB := fun q => by
              obtain ⟨qq, h1, _⟩ := tab7
              rw [q, h1] at e
              exact n _ (Option.some.inj e).symm
            refine s89 _ _ ?_
            rw [tb8.2 b nb]
            exact e
          have k9 : KeepP a TB H H9 := fun b o n1 n2 e => s89 _ _ (by rw [tb8.2 b n1]; exact k7 b o n1 n2 e)
          have tab9 : GxR.TabG H9 TB := by
            obtain ⟨⟨q, h1, h2⟩, _⟩ := tb8
            exact ⟨q, s89 _ _ h1, h2⟩
          have a9 := f79 _ _ a7' (fun q e => nomatch e)
          have hct9 := f79 _ _ hct7 (fun q e => nomatch e)
          have hpt9 := f79 _ _ hpt7 (fun q e => nomatch e)
          have hts9 : Pairs H9 ts cs := pairs_to hts7 fun b zs e => f79 _ _ e (fun q e => nomatch e)
          have li9 : LinesAt CL H9 l dl r (rowsOf z) n2 := ⟨f79 _ _ li7.o (fun q e => nomatch e), f79 _ _ li7.r (fun q e => nomatch e), li7.le⟩
          clear hct7 hpt7 hts7 li7 f79 a7 a7'
          refine (val_fld (val_var rfl) a9 CC.cl (na "ports" (by decide +kernel)) ((lk_tl (by decide +kernel)).trans ((lk_tl (by decide +kernel)).trans ((lk_tl (by decide +kernel)).trans lk_hd)))) _ ?_
          refine fun g dg ng ndg neg => ?_
          have g0 : (upd H9 dg (.own g)) g = none := by
            rw [upd_ne neg.symm]
            exact ng
          have sG : Same H9 (upd (upd H9 dg (.own g)) g (.ins CP dg [])) := (same_upd ndg).trans (same_upd g0)
          have hgG : (upd (upd H9 dg (.own g)) g (.ins CP dg [])) g = some (.ins CP dg []) := upd_same
          generalize (upd (upd H9 dg (.own g)) g (.ins CP dg [])) = HG at sG hgG
          refine ⟨l, g, dg, nt, pt, wn, rfl, hgG, fun H10 st ak sb10 nst nak hg10 hst10 hak10 => ⟨rfl, ?_⟩⟩
          dsimp only [gName]
          have f10 : ∀ b o, H9 b = some o → H10 b = some o := fun b o e => sb10 b o (ne_of_none e ng) (sG b o e)
          have ng9 : ∀ b o, H9 b = some o → b ≠ l → b ∉ [l, g, st, ak] := fun b o e nl hb => by
            simp only [List.mem_cons, List.not_mem_nil, or_false] at hb
            rcases hb with q | q | q | q
            · exact nl q
            · exact ne_of_none e ng q
            · exact ne_of_none (sG _ _ e) nst q
            · exact ne_of_none (sG _ _ e) nak q
          have ft10 := ft9.mono f10
          have li10 : LinesAt CL H10 l dl r (rowsOf z) n2 := li9.mono f10
          have e1 : (cs.map fun (q : Str × Int) => V.str q.1) = (cs.map (·.1)).map V.str := by
            rw [List.map_map]
            rfl
          rw [e1] at ft10
          have pw : Wd CL CP ⟨l, dl, r, g, dg, nt, pt, st, ak⟩ ⟨rowsOf z, wn, cs.map (·.1), ps⟩ (hide H10 [l, g, st, ak]) H10 n2 0 [] [] ⟨[], []⟩ := {
            s0 := hide_same
            l0 := hide_in (by simp)
            g0 := hide_in (by simp)
            st0 := hide_in (by simp)
            ak0 := hide_in (by simp)
            lg := ne_of_none li9.o ng
            li := li10
            pg := hg10
            ct := ft10
            pt := f10 _ _ hpt9
            st := hst10
            sx := .nil
            ak := hak10
            ax := .nil
            rst := ne_of_none (sG _ _ li9.r) nst }
          have k10 : KeepP a TB H H10 := fun b o n1 n2 e => f10 _ _ (k9 b o n1 n2 e)
          have tab10 : GxR.TabG H10 TB := by
            obtain ⟨q, h1, h2⟩ := tab9
            exact ⟨q, f10 _ _ h1, h2⟩
          have tb9 := tab9
          -- the doors
          dsimp only [tSeq]
          refine fld_via ?_
          dsimp only [tCall, tCons, tNil]
          refine (val_var rfl) _ ?_
          refine (val_var rfl) _ ?_
          refine ⟨⟨l, dl, r, g, dg, nt, pt, st, ak⟩, ⟨rowsOf z, wn, cs.map (·.1), ps⟩, hide H10 [l, g, st, ak], n2, rfl, pw, ⟨sz, by rw [List.length_map]; exact lcs, lps⟩, ?_⟩
          have hL : ∀ b ∈ [l, g, st, ak], b = a ∨ H b = none := fun b hb => by
            cases e : H b with
            | none => exact .inr rfl
            | some o =>
              by_cases c1 : b = a
              · exact .inl c1
              · by_cases c2 : b = TB
                · obtain ⟨q, h1, _⟩ := tb9
                  rw [← c2] at h1
                  exact absurd hb (ng9 b _ h1 (fun z => by rw [z, nl] at e; cases e))
                · exact absurd hb (ng9 b _ (k9 b o c2 c1 e) (fun z => by rw [z, nl] at e; cases e))
          have hP : TB ∉ [l, g, st, ak] := by
            obtain ⟨q, h1, _⟩ := tb9
            exact ng9 _ _ h1 nlT.symm
          cases ed : doorsR ⟨rowsOf z, wn, cs.map (·.1), ps⟩ 4 n2 0 [] [] [] with
          | error n =>
            rw [ed] at kk
            exact errOf kk k10 tab10 hL hP
          | ok p =>
            obtain ⟨n3, R⟩ := p
            rw [ed] at kk
            dsimp only at kk
            intro H11 m xs kvs sd p11 lxs _ hsd lds nsa
            have f11 : ∀ b o, b ≠ l → H9 b = some o → H11 b = some o := fun b o nl2 e => p11.s0 _ _ (by rw [hide_out (ng9 b o e nl2)]; exact f10 _ _ e)
            have a11 := f11 _ _ nla.symm a9
            have gna : g ≠ a := (ne_of_none a9 ng).symm
            have hds2 : (dOf V.int R.1).map (fun q => kV q.1) = (R.1.map (·.1)).map V.str := by
              unfold dOf
              rw [List.map_map, List.map_map]
              rfl
            refine fld_new ["worths", "text", "cells", "ports"] val_c (val_var rfl) a11 CC.cl (na _ (by decide +kernel)) rfl (by decide +kernel) (by decide) fun H12 sb12 a12 => ?_
            have li12 : LinesAt CL H12 l dl r (rowsOf z) n3 := ⟨sb12 _ _ nla p11.li.o, sb12 _ _ nra p11.li.r, p11.li.le⟩
            have k11 : KeepP a TB H H11 := fun b o n1 n2 e => f11 _ _ (fun q => by rw [q, nl] at e; cases e) (k9 b o n1 n2 e)
            have tab11 : GxR.TabG H11 TB := by
              obtain ⟨q, h1, h2⟩ := tb9
              exact ⟨q, f11 _ _ nlT.symm h1, h2⟩
            dsimp only [tSeq, tDrop]
            refine meth0_run (val_var rfl) li12.o (lf_no (by decide +kernel) (by decide +kernel)) ?_
            refine ⟨l, dl, r, rowsOf z, n3, rfl, li12, fun e => ?_, fun e => ?_⟩
            · rw [if_pos e] at kk
              refine fld_via ?_
              have a12' : H12 a = some (.ins Pt da [("worths", .int wn), ("text", y), ("cells", .ref ct), ("ports", .ref pt), ("starts", .ref sd)]) := a12
              refine (val_fld (val_var rfl) a12' CC.cl (na "starts" (by decide +kernel)) ((lk_tl (by decide +kernel)).trans ((lk_tl (by decide +kernel)).trans ((lk_tl (by decide +kernel)).trans ((lk_tl (by decide +kernel)).trans lk_hd))))) _ ?_
              refine ⟨sd, _, rfl, sb12 _ _ (ne_of hsd a11 (fun e => nomatch e)) hsd, fun dt ndt => ?_⟩
              rw [hds2]
              have s13 := same_upd (o := .tup ((R.1.map (·.1)).map V.str)) ndt
              have dt13 : (upd H12 dt (.tup ((R.1.map (·.1)).map V.str))) dt = some (.tup ((R.1.map (·.1)).map V.str)) := upd_same
              generalize (upd H12 dt (.tup ((R.1.map (·.1)).map V.str))) = H13 at s13 dt13
              have nda : dt ≠ a := (ne_of_none a12' ndt).symm
              refine fld_new ["worths", "text", "cells", "ports", "starts"] val_c (val_var rfl) (s13 _ _ a12') CC.cl (na _ (by decide +kernel)) rfl (by decide +kernel) (by decide) fun H14 sb14 a14 => ?_
              have f14 : ∀ b o, b ≠ a → H11 b = some o → H14 b = some o := fun b o n e => sb14 b o n (s13 _ _ (sb12 b o n e))
              dsimp only [tSeq]
              refine fld_via ?_
              refine (val_fld (val_var rfl) (f14 _ _ gna p11.pg) C.cl C.steps pf_steps) _ ?_
              refine .inl ⟨st, xs, rfl, SqL.of (f14 _ _ (ne_of p11.st a11 (fun e => nomatch e)) p11.st), fun q nq => ?_⟩
              have s15 := same_upd (o := .tup xs) nq
              have q15 : (upd H14 q (.tup xs)) q = some (.tup xs) := upd_same
              generalize (upd H14 q (.tup xs)) = H15 at s15 q15
              refine fld_new ["worths", "text", "cells", "ports", "starts", "doors"] val_c (val_var rfl) (s15 _ _ a14) CC.cl (na _ (by decide +kernel)) rfl (by decide +kernel) (by decide) fun H16 sb16 a16 => ?_
              have f16 : ∀ b o, b ≠ a → H11 b = some o → H16 b = some o := fun b o n e => sb16 b o n (s15 _ _ (f14 b o n e))
              refine fld_new ["worths", "text", "cells", "ports", "starts", "doors", "steps"] (val_fld (val_var rfl) (f16 _ _ gna p11.pg) C.cl C.asks pf_asks) (val_var rfl) a16 CC.cl (na _ (by decide +kernel)) rfl (by decide +kernel) (by decide) fun H17 sb17 a17 => ?_
              have f17 : ∀ b o, b ≠ a → H11 b = some o → H17 b = some o := fun b o n e => sb17 b o n (f16 b o n e)
              have t17 : ∀ b zs, H9 b = some (.tup zs) → H17 b = some (.tup zs) := fun b zs e => f17 b _ (ne_of e a9 tup_ne) (f11 _ _ (ne_of e li9.o tup_ne) e)
              have nqa : q ≠ a := fun e => by rw [e, a14] at nq; cases nq
              refine kk H17 (fun b o n1 n2 e => f17 b o n2 (k11 b o n1 n2 e)) ?_ ⟨ct, pt, sd, dt, q, ak, ts, xs, kvs, ?_⟩
              · obtain ⟨q2, h1, h2⟩ := tab11
                exact ⟨q2, f17 _ _ naP.symm h1, h2⟩
              · exact {
                  o := a17
                  ct := t17 _ _ hct9
                  ts := pairs_to hts9 t17
                  pt := t17 _ _ hpt9
                  sd := f17 _ _ (ne_of hsd a11 (fun e => nomatch e)) hsd
                  dt := sb17 _ _ nda (sb16 _ _ nda (s15 _ _ (sb14 _ _ nda dt13)))
                  stp := sb17 _ _ nqa (sb16 _ _ nqa (by assumption))
                  sx := p11.sx.keep fun b zs e => f17 _ _ (ne_of e a11 tup_ne) e
                  ak := f17 _ _ (ne_of p11.ak a11 (fun e => nomatch e)) p11.ak
                  ax := p11.ax.keep fun b zs e => f17 _ _ (ne_of e a11 tup_ne) e }
            · rw [if_neg e] at kk
              refine errOf0 kk (fun b o n1 n2 e => sb12 b o n2 (k11 b o n1 n2 e)) ?_
              obtain ⟨q2, h1, h2⟩ := tab11
              exact ⟨q2, sb12 _ _ naP.symm h1, h2⟩
end
end K5
namespace K5
open PySem PySem.Spec PyProof.Rows L2
/-! ### dicts whose keys are nested tuples of whole numbers and texts -/
mutual
def keyD : PyData → Bool
  | .int _ => true
  | .str _ => true
  | .tuple ds => keyDs ds
  | _ => false
def keyDs : List PyData → Bool
  | [] => true
  | d :: r => keyD d && keyDs r
end
mutual
def nkOf : PyData → NestedKey
  | .int i => .num i
  | .str x => .text x
  | .tuple ds => .tup (nksOf ds)
  | _ => .none
def nksOf : List PyData → List NestedKey
  | [] => []
  | d :: r => nkOf d :: nksOf r
end
mutual
theorem nkOf_inj : ∀ (d e : PyData), keyD d = true → keyD e = true → nkOf d = nkOf e → d = e
  | .int i, e, _, he, h => by
    cases e with
    | int j => simp only [nkOf, NestedKey.num.injEq] at h; rw [h]
    | str _ => simp [nkOf] at h
    | tuple _ => simp [nkOf] at h
    | _ => simp [keyD] at he
  | .str x, e, _, he, h => by
    cases e with
    | int j => simp [nkOf] at h
    | str _ => simp only [nkOf, NestedKey.text.injEq] at h; rw [h]
    | tuple _ => simp [nkOf] at h
    | _ => simp [keyD] at he
  | .tuple ds, e, hd, he, h => by
    cases e with
    | int j => simp [nkOf] at h
    | str _ => simp [nkOf] at h
    | tuple es =>
      simp only [nkOf, NestedKey.tup.injEq] at h
      rw [nksOf_inj ds es (by rw [keyD] at hd; exact hd) (by rw [keyD] at he; exact he) h]
    | _ => simp [keyD] at he
  | .none, _, hd, _, _ => by simp [keyD] at hd
  | .bool _, _, hd, _, _ => by simp [keyD] at hd
  | .list _, _, hd, _, _ => by simp [keyD] at hd
  | .dict _, _, hd, _, _ => by simp [keyD] at hd
theorem nksOf_inj : ∀ (ds es : List PyData), keyDs ds = true → keyDs es = true → nksOf ds = nksOf es → ds = es
  | [], [], _, _, _ => rfl
  | [], e :: es, _, _, h => by simp [nksOf] at h
  | d :: ds, [], _, _, h => by simp [nksOf] at h
  | d :: ds, e :: es, hd, he, h => by
    rw [keyDs, Bool.and_eq_true] at hd he
    simp only [nksOf, List.cons.injEq] at h
    rw [nkOf_inj d e hd.1 he.1 h.1, nksOf_inj ds es hd.2 he.2 h.2]
end
section
variable {X : Cx} {pins : List (Addr × Obj)} {σ : L2.St} {H : Hp} {s : Shared}
mutual
theorem Tr.nested (I : Inv X pins σ H s) : ∀ {v : V} {d : PyData} {u : Value}, Tr H v d → RelV v u → NestedIs s.heap (nkOf d) u
  | _, _, u, .int i, r => by
    obtain ⟨t, rfl⟩ := (show ∃ t, u = Value.int i t from r)
    exact .int i t
  | _, _, u, .str x, r => by
    obtain ⟨t, rfl⟩ := (show ∃ t, u = Value.str x t from r)
    exact .text x t
  | _, _, u, .tup (a := a) ha hr, r => by
    obtain rfl : u = Value.ref a := r
    obtain ⟨us, r1, t1, _⟩ := I.tuple (SqT.of ha)
    obtain ⟨ob, g1, k1, n1, w1⟩ := t1
    exact .tup g1 k1 w1 (by simpa using Trs.nested I hr r1)
theorem Trs.nested (I : Inv X pins σ H s) : ∀ {vs : List V} {ds : List PyData} {us : List Value}, Trs H vs ds → Vals vs us → NestedAll s.heap (nksOf ds) us
  | _, _, _, .nil, r => by
    cases r
    exact .nil
  | _, _, _, .cons h t, r => by
    cases r with
    | cons r1 r2 => exact .cons (Tr.nested I h r1) (Trs.nested I t r2)
end
end
theorem Tr.key {H : Hp} : ∀ {v : V} {d : PyData}, Tr H v d → keyD d = true
  | _, _, .int _ => rfl
  | _, _, .str _ => rfl
  | _, _, .tup _ r => by
    rw [keyD]
    exact all r
where
  all {H : Hp} : ∀ {vs : List V} {ds : List PyData}, Trs H vs ds → keyDs ds = true
  | _, _, .nil => rfl
  | _, _, .cons h t => by
    rw [keyDs, Tr.key h, all t]
    rfl
/-- the entries of the dict at a -/
abbrev NX := List (NestedKey × Addr × Value)
def dctN (P : Program) (w : World) (a : Addr) (xs : NX) : Heap → Prop := fun h => ∃ o es ep, h.get? a = some o ∧ o.ExactDict ∧ o.data = .dict es ep ∧ es.toList = xs.map (entryOfKey (nestedKind P w)) ∧ (xs.map (·.1)).Nodup
/-- a dict at a with the keys ks -/
structure DN {β : Type} (P : Program) (w : World) (enc : β → PyData) (H : Hp) (a : Addr) (ks : List β) (xs : NX) : Prop where
  o : H a = some (.ext (dctN P w a xs))
  ne : (a == sysModules) = false
  ka : Paired (fun (d : β) (q : NestedKey × Addr × Value) => q.1 = nkOf (enc d) ∧ Tr H (.ref q.2.1) (enc d) ∧ (nkOf (enc d)).depth ≤ 8) ks xs
  few : ks.length ≤ 100000
def Inj {β : Type} (enc : β → PyData) : Prop := ∀ k l, enc k = enc l → k = l
section
variable {β : Type} {enc : β → PyData} {P : Program} {w : World} {H H' : Hp} {a : Addr} {ks : List β} {xs : NX}
theorem DN.keep (h : DN P w enc H a ks xs) (ha : H' a = H a) (k : ∀ b zs, H b = some (.tup zs) → H' b = some (.tup zs)) : DN P w enc H' a ks xs :=
  ⟨ha.trans h.o, h.ne, Paired.mapP h.ka fun _ _ z => ⟨z.1, z.2.1.keep k, z.2.2⟩, h.few⟩
theorem DN.mono (h : DN P w enc H a ks xs) (e : Same H H') : DN P w enc H' a ks xs := h.keep ((e _ _ h.o).trans h.o.symm) fun _ _ q => e _ _ q
end
section
variable {β : Type} [DecidableEq β] {enc : β → PyData} {X : Cx} {pins : List (Addr × Obj)} {σ : L2.St} {H : Hp} {s : Shared} {a : Addr} {ks : List β} {xs : NX}
theorem DN.at (D : DN X.prog X.w enc H a ks xs) (I : Inv X pins σ H s) : s.heap.DictOfH (nestedKind X.prog X.w) a xs := by
  obtain ⟨⟨o, es, ep, h1, h2, h3, h4, h5⟩, _, _⟩ := (show ObjOk X.prog X.w H s.heap a (.ext (dctN X.prog X.w a xs)) from I.hok a _ D.o)
  refine ⟨o, es, ep, h1, h2, h3, h4, fun x hx => ?_, h5⟩
  have all : ∀ {l : List β} {m : NX}, Paired (fun (d : β) (q : NestedKey × Addr × Value) => q.1 = nkOf (enc d) ∧ Tr H (.ref q.2.1) (enc d) ∧ (nkOf (enc d)).depth ≤ 8) l m → ∀ x ∈ m, (nestedKind X.prog X.w).is s.heap x.1 x.2.1 := by
    intro l m q
    induction q with
    | nil => intro x hx; cases hx
    | @cons p q ps qs hq t ih =>
      intro x hx
      rcases List.mem_cons.mp hx with e | hx
      · subst e
        rw [hq.1]
        exact ⟨hq.2.1.nested I rfl, hq.2.2⟩
      · exact ih x hx
  exact all D.ka x hx
theorem keys_of (inj : Inj enc) {d : β} (hd : keyD (enc d) = true) : ∀ {l : List β} {m : NX}, Paired (fun (d : β) (q : NestedKey × Addr × Value) => q.1 = nkOf (enc d) ∧ Tr H (.ref q.2.1) (enc d) ∧ (nkOf (enc d)).depth ≤ 8) l m → (atKey m (nkOf (enc d))).isSome = decide (d ∈ l) := by
  intro l m q
  induction q with
  | nil => simp [atKey]
  | @cons p q ps qs hq t ih =>
    by_cases c : p = d
    · subst c
      rw [decide_eq_true (List.mem_cons_self ..)]
      simp [atKey, hq.1]
    · have n1 : ¬ q.1 = nkOf (enc d) := fun e => c (inj _ _ (nkOf_inj _ _ hq.2.1.key hd (hq.1.symm.trans e)))
      have e1 : atKey (q :: qs) (nkOf (enc d)) = atKey qs (nkOf (enc d)) := by simp [atKey, n1]
      rw [e1, ih]
      exact decide_eq_decide.mpr ⟨fun h => List.mem_cons_of_mem _ h, fun h => (List.mem_cons.mp h).resolve_left fun e => c e.symm⟩
end
theorem ext_ok {P : Program} {w : World} {H : Hp} {h : Heap} {a : Addr} {xs : NX} (x : dctN P w a xs h) : ObjOk P w H h a (.ext (dctN P w a xs)) := by
  refine ⟨x, ?_, fun h1 h2 p k => ?_⟩
  · obtain ⟨o, _, _, e, _⟩ := x
    exact ⟨o, e⟩
  · obtain ⟨o, es, ep, e, r⟩ := p
    exact ⟨o, es, ep, k _ e, r⟩
def tDNewN (P : Program) (w : World) : TE := fun _ H Q => ∀ (p : Addr) (H' : Hp), H p = none → Same H H' → H' p = some (.ext (dctN P w p [])) → (p == sysModules) = false → Q (.ref p) H'
theorem pe_dnewN {X : Cx} {pos : Pos} : PE X (.Dict [] [] pos) (tDNewN X.prog X.w) := ⟨fun pins s σ H Q I h =>
  wpAny_Dict_empty ⟨.ref s.heap.objs.size, _, I.laid (a := s.heap.objs.size) (o := .ext (dctN X.prog X.w s.heap.objs.size [])) (t' := s.toks) (fun _ _ q => Heap.get?_push_of_some _ q) (Nat.le_refl _) (ext_ok ⟨_, #[], 0, Heap.get?_push_size _ rfl, ⟨rfl, rfl, rfl⟩, rfl, rfl, List.nodup_nil⟩), rfl,
    h _ _ (I.hok.fresh (Nat.le_refl _)) (same_upd (I.hok.fresh (Nat.le_refl _))) upd_same (beq_eq_false_iff_ne.mpr (Ne.symm (Nat.ne_of_lt I.big)))⟩⟩
theorem dn_new {β : Type} {enc : β → PyData} {P : Program} {w : World} {H : Hp} {p : Addr} (e : H p = some (.ext (dctN P w p []))) (ne : (p == sysModules) = false) : DN P w enc H p [] [] := ⟨e, ne, .nil, Nat.zero_le _⟩
section
variable {β : Type} [DecidableEq β]
/-- y in d -/
def tDInN (P : Program) (w : World) (enc : β → PyData) (ty td : TE) : TE := fun σ H Q => ty σ H fun y H1 => td σ H1 fun x H2 => ∃ (a b : Addr) (d : β) (ks : List β) (xs : NX), x = .ref a ∧ y = .ref b ∧ DN P w enc H2 a ks xs ∧ Tr H2 (.ref b) (enc d) ∧ (nkOf (enc d)).depth ≤ 8 ∧ Q (.bl (decide (d ∈ ks))) H2
def addK (ks : List β) (d : β) : List β := if d ∈ ks then ks else ks ++ [d]
/-- d[y] = any value -/
def sDPutN (P : Program) (w : World) (enc : β → PyData) (td ty tv : TE) : TS := fun D σ H => tv σ H fun v H1 => td σ H1 fun x H2 => ty σ H2 fun y H3 => ∃ (a b : Addr) (d : β) (ks : List β) (xs : NX), x = .ref a ∧ y = .ref b ∧ DN P w enc H3 a ks xs ∧ Tr H3 (.ref b) (enc d) ∧ (nkOf (enc d)).depth ≤ 8 ∧ ks.length < 100000 ∧
  ∀ (xs' : NX) (H' : Hp), (∀ b, b ≠ a → H' b = H3 b) → DN P w enc H' a (addK ks d) xs' → D.nx σ H'
variable {X : Cx} {o i value : Expr} {pos pos' : Pos} {td ty tv : TE} {enc : β → PyData}
theorem room_nk (hu : X.A.units + 10 < cLine) : (nestedKind X.prog X.w).room X.A.in1 := by
  show X.A.units + 1 + 8 < cLine
  omega
theorem pc_dinN (inj : Inj enc) (hu : X.A.units + 10 < cLine) (hi : PE X i ty) (ho : PE X o td) : PC X .In i o (tDInN X.prog X.w enc ty td) := by
  refine ⟨fun pins s σ H Q I h => ?_⟩
  refine thn (hi.run pins s σ H _ I h) fun iv s1 ⟨y, H1, I1, ry, q1⟩ => thn (ho.run pins s1 σ H1 _ I1 q1) fun u s2 ⟨x, H2, I2, rx, a, b, d, ks, xs, ex, ey, D, hd, dp, q2⟩ => ?_
  subst ex ey
  obtain rfl : u = Value.ref a := rx
  obtain rfl : iv = Value.ref b := ry
  refine wpAny_in_heap (room_nk hu) ⟨hd.nested I2 rfl, dp⟩ D.ne (D.at I2) ?_
  rw [keys_of inj hd.key D.ka]
  exact ⟨.bl (decide (d ∈ ks)), H2, I2.tok _, rfl, q2⟩
theorem ps_dputN (inj : Inj enc) (hu : X.A.units + 10 < cLine) (ho : PE X o td) (hi : PE X i ty) (hv : PE X value tv) (hs : swapsWith value (some (.Subscript o i pos')) pos.line X.env = pure false) :
    PS X (.Assign [.Subscript o i pos'] value pos) (sDPutN X.prog X.w enc td ty tv) := by
  refine ⟨fun pins s σ H D I h => ?_⟩
  refine wpAny_Assign_Subscript (thn (hv.run pins s σ H _ I h) fun r s1 ⟨v, H1, I1, rv, q1⟩ => thn (ho.run pins s1 σ H1 _ I1 q1) fun u s2 ⟨x, H2, I2, rx, q2⟩ => thn (hi.run pins s2 σ H2 _ I2 q2) fun iv s3 ⟨y, H3, I3, ry, a, b, d, ks, xs, ex, ey, DD, hd, dp, few, q3⟩ => ?_) hs
  subst ex ey
  obtain rfl : u = Value.ref a := rx
  obtain rfl : iv = Value.ref b := ry
  have l1 : ks.length = xs.length := Paired.length DD.ka
  have l2 := DD.few
  refine wpAny_setItem_heap (hsz := by rw [sizeLine_eq]; omega) (room_nk hu) ⟨hd.nested I3 rfl, dp⟩ (DD.at I3) fun h' dd' hs' => ?_
  obtain ⟨ob, es, ep, hq, h2, h3, h4, _, h5⟩ := dd'
  have I4 := d_write (t' := s3.toks + (nestedKind X.prog X.w).draws (nkOf (enc d))) I3 (ob := .ext (dctN X.prog X.w a (storedH xs (nkOf (enc d)) b r))) (by rw [DD.o]; exact True.intro) hs' ⟨ob, hq⟩ (ext_ok ⟨ob, es, ep, hq, h2, h3, h4, h5⟩)
  refine ⟨σ, _, I4, q3 (storedH xs (nkOf (enc d)) b r) _ (fun b n => upd_ne n) ?_⟩
  have nt : ∀ c zs, H3 c = some (.tup zs) → (upd H3 a (.ext (dctN X.prog X.w a (storedH xs (nkOf (enc d)) b r)))) c = some (.tup zs) := fun c zs e => by
    rw [upd_ne (ne_of e DD.o (fun z => nomatch z))]
    exact e
  refine ⟨upd_same, DD.ne, ?_, ?_⟩
  · generalize (upd H3 a (.ext (dctN X.prog X.w a (storedH xs (nkOf (enc d)) b r)))) = H4 at nt
    have ka : Paired (fun (d : β) (q : NestedKey × Addr × Value) => q.1 = nkOf (enc d) ∧ Tr H4 (.ref q.2.1) (enc d) ∧ (nkOf (enc d)).depth ≤ 8) ks xs := Paired.mapP DD.ka fun _ _ z => ⟨z.1, z.2.1.keep nt, z.2.2⟩
    have hd4 := hd.keep nt
    have mp : ∀ {l : List β} {m : NX}, Paired (fun (d : β) (q : NestedKey × Addr × Value) => q.1 = nkOf (enc d) ∧ Tr H4 (.ref q.2.1) (enc d) ∧ (nkOf (enc d)).depth ≤ 8) l m → Paired (fun (d : β) (q : NestedKey × Addr × Value) => q.1 = nkOf (enc d) ∧ Tr H4 (.ref q.2.1) (enc d) ∧ (nkOf (enc d)).depth ≤ 8) l (m.map (putAt (nkOf (enc d)) r)) := by
      intro l m q
      induction q with
      | nil => exact .nil
      | @cons p q ps qs hq t ih =>
        refine .cons ?_ ih
        unfold putAt
        split
        · exact hq
        · exact hq
    have ap : ∀ {l : List β} {m : NX}, Paired (fun (d : β) (q : NestedKey × Addr × Value) => q.1 = nkOf (enc d) ∧ Tr H4 (.ref q.2.1) (enc d) ∧ (nkOf (enc d)).depth ≤ 8) l m → Paired (fun (d : β) (q : NestedKey × Addr × Value) => q.1 = nkOf (enc d) ∧ Tr H4 (.ref q.2.1) (enc d) ∧ (nkOf (enc d)).depth ≤ 8) (l ++ [d]) (m ++ [(nkOf (enc d), b, r)]) := by
      intro l m q
      induction q with
      | nil => exact .cons ⟨rfl, hd4, dp⟩ .nil
      | cons hq t ih => exact .cons hq ih
    have e := keys_of (H := H4) inj hd4.key ka
    unfold storedH addK
    by_cases c : d ∈ ks
    · rw [decide_eq_true c] at e
      rw [if_pos c, if_pos e]
      exact mp ka
    · rw [decide_eq_false c] at e
      rw [if_neg c, if_neg (by rw [e]; exact Bool.false_ne_true)]
      exact ap ka
  · unfold addK
    split
    · exact l2
    · rw [List.length_append]
      exact few
end
end K5
namespace K5
open PySem PySem.Spec PyProof.Rows L2
/-! ### sorted(d) of a dict whose keys are nested tuples -/
theorem vals_refs : ∀ ts : List Addr, Vals (ts.map V.ref) (ts.map Value.ref)
  | [] => .nil
  | t :: r => .cons rfl (vals_refs r)
def RawD (h : Heap) (d : Addr) (es : Array DictEntry) (ep : Nat) : Prop := ∃ o, h.get? d = some o ∧ o.ExactDict ∧ o.data = .dict es ep
section
variable {prog : Program} {w : World} {A : Around} {d : Addr} {es : Array DictEntry} {ep : Nat}
theorem RawD.at_ {h h' : Heap} (x : RawD h d es ep) (k : ∀ o, h.get? d = some o → h'.get? d = some o) : RawD h' d es ep := let ⟨o, ho, r⟩ := x; ⟨o, k o ho, r⟩
theorem walks_raw (hh : A.handled = none) (I : Addr) (ne : d ≠ I) : Walks prog w A I [I, d] [I] es.size (fun i v => ∃ en, es[i]? = some en ∧ v = en.key) (fun i h => h.IsKeyIter I d i es.size ep ∧ RawD h d es ep) where
  sub := fun b hb => by simp at hb; simp [hb]
  frame := fun _ _ _ st hk => ⟨st.1.at fun o e => hk I (by simp) o e, st.2.at_ fun o e => hk d (by simp) o e⟩
  item := fun i s Q E hi st hQ => by
    obtain ⟨it, o, ho, hc, hd⟩ := st
    refine next_key_item it ho hd rfl (Array.getElem?_eq_getElem hi) fun h' it' sb => ?_
    exact hQ _ h' s.toks ⟨_, Array.getElem?_eq_getElem hi, rfl⟩ ⟨it', o, sb.extBut d o ne ho, hc, hd⟩ fun b o hb e => sb.extBut b o (fun h => hb (by simp [h])) e
  done := fun s Q E st hQ => by
    obtain ⟨it, o, ho, hc, hd⟩ := st
    exact next_key_end hh it ho hd rfl (Nat.le_refl _) fun h' he' => hQ h' s.toks fun b o hb e => he' b o (fun h => hb (by simp [h])) e
  self := fun _ _ _ _ st hQ => wpAny_pyIter_keyiter st.1 hQ
theorem kdl_raw (lo : (d == sysModules) = false) : PySem.W.KdlSrc prog w "dict" d d es.size (fun i v => ∃ en, es[i]? = some en ∧ v = en.key) (fun h => RawD h d es ep) where
  type := fun _ ⟨o, ho, hc, _⟩ => ⟨o, ho, hc.1⟩
  there := fun _ ⟨o, ho, _⟩ => ⟨Heap.lt_size ho, Heap.lt_size ho⟩
  keep := fun _ _ hm hk => hm.at_ fun o e => hk d (.inl rfl) o e
  notList := by decide
  notTuple := by decide
  hint := fun _ _ _ _ ⟨o, ho, hc, _⟩ hq => PySem.W.kdl_hint_dict ⟨o, ho, hc.1⟩ hq
  iter := fun _ s hh hm => by
    obtain ⟨o, ho, hc, hd⟩ := hm
    exact ⟨_, _, (fun _ _ hq => iter_keys lo ho hc hd hq), walks_raw hh _ (Nat.ne_of_lt (Heap.lt_size ho)), ⟨⟨_, Heap.get?_push_size _ rfl, rfl, rfl⟩, o, Heap.get?_push_of_some _ ho, hc, hd⟩⟩
end
section
variable {β : Type} {enc : β → PyData}
def sortB (enc : β → PyData) (ks : List β) : List β := ks.mergeSort (PySem.W.dataLe false enc)
theorem bsN_of {H : Hp} : ∀ {ks : List β} {xs : NX}, Paired (fun (d : β) (q : NestedKey × Addr × Value) => q.1 = nkOf (enc d) ∧ Tr H (.ref q.2.1) (enc d) ∧ (nkOf (enc d)).depth ≤ 8) ks xs →
    ∃ bs : List (β × Addr), bs.map (·.1) = ks ∧ bs.map (·.2) = xs.map (·.2.1) ∧ ∀ b ∈ bs, Tr H (.ref b.2) (enc b.1)
  | _, _, .nil => ⟨[], rfl, rfl, fun b h => nomatch h⟩
  | k :: ks, x :: xs, .cons h t => by
    obtain ⟨bs, c1, c2, c3⟩ := bsN_of t
    refine ⟨(k, x.2.1) :: bs, by rw [List.map_cons, c1], by rw [List.map_cons, List.map_cons, c2], fun b hb => ?_⟩
    rcases List.mem_cons.mp hb with c | c
    · rw [c]
      exact h.2.1
    · exact c3 b c
theorem eachN_refs {H : Hp} : ∀ bs : List (β × Addr), (∀ b ∈ bs, Tr H (.ref b.2) (enc b.1)) → PySem.W.EachIs (fun v (b : β × Addr) => v = Value.ref b.2 ∧ Tr H (.ref b.2) (enc b.1)) (bs.map fun b => Value.ref b.2) bs
  | [], _ => .nil
  | b :: r, h => .cons ⟨rfl, h b (List.mem_cons_self ..)⟩ (eachN_refs r fun c hc => h c (List.mem_cons_of_mem _ hc))
theorem eachN_ts {H : Hp} : ∀ {out : List Value} {cs : List (β × Addr)}, PySem.W.EachIs (fun v (b : β × Addr) => v = Value.ref b.2 ∧ Tr H (.ref b.2) (enc b.1)) out cs →
    ∃ ts : List Addr, out = ts.map Value.ref ∧ Trs H (ts.map V.ref) ((cs.map (·.1)).map enc)
  | _, _, .nil => ⟨[], rfl, .nil⟩
  | _, _, .cons (b := b) h t => by
    obtain ⟨ts, rfl, pr⟩ := eachN_ts t
    exact ⟨b.2 :: ts, by rw [h.1]; rfl, .cons h.2 pr⟩
end
section
variable {X : Cx} {pins : List (Addr × Obj)} {σ : L2.St} {H : Hp} {s : Shared} {h2 : Heap}
mutual
theorem Tr.readsIn (I : Inv X pins σ H s) (k : ∀ b o, s.heap.get? b = some o → h2.get? b = some o) : ∀ {v : V} {d : PyData} {u : Value}, Tr H v d → RelV v u → Reads h2 u d []
  | _, _, u, .int i, r => by
    obtain ⟨t, rfl⟩ := (show ∃ t, u = Value.int i t from r)
    exact .int i t
  | _, _, u, .str x, r => by
    obtain ⟨t, rfl⟩ := (show ∃ t, u = Value.str x t from r)
    exact .str x t
  | _, _, u, .tup (a := a) ha hr, r => by
    obtain rfl : u = Value.ref a := r
    obtain ⟨us, r1, t1, _⟩ := I.tuple (SqT.of ha)
    obtain ⟨ob, g1, k1, n1, w1⟩ := t1
    exact .tuple (k _ _ g1) k1 w1 (by simpa using Trs.readsIn I k hr r1)
theorem Trs.readsIn (I : Inv X pins σ H s) (k : ∀ b o, s.heap.get? b = some o → h2.get? b = some o) : ∀ {vs : List V} {ds : List PyData} {us : List Value}, Trs H vs ds → Vals vs us → ReadsAll h2 us ds []
  | _, _, _, .nil, r => by
    cases r
    exact .nil
  | _, _, _, .cons h t, r => by
    cases r with
    | cons r1 r2 => exact .cons (Tr.readsIn I k h r1) (Trs.readsIn I k t r2)
end
def rSortN (P : Program) (w : World) {β : Type} (enc : β → PyData) : List V → Hp → VK → Prop := fun xs H Q => ∃ (a : Addr) (ks : List β) (ns : NX), xs = [.ref a] ∧ DN P w enc H a ks ns ∧ PySem.W.AllAlike (ks.map enc) ∧ (∀ b, ∃ x r, enc b = .tuple (x :: r)) ∧ (∀ b ∈ ks, (enc b).depth ≤ 8) ∧
    ∀ (ts : List Addr) (p : Addr), Trs H (ts.map V.ref) ((sortB enc ks).map enc) → H p = none → Q (.ref p) (upd H p (.lst (ts.map V.ref)))
theorem call_sortedN {β : Type} [DecidableEq β] {enc : β → PyData} (hcalm : X.calm = true) (hu : X.A.units + 64 < cLine) : CallR X (.builtin "sorted") (rSortN X.prog X.w enc) := by
  intro pins s σ H xs us Q I r q
  obtain ⟨a, ks, ns, ex, D, hal0, tup, dep, q⟩ := q
  subst ex
  obtain ⟨u, eu, rx⟩ := vals1 r
  subst eu
  cases rx
  obtain ⟨o, es, ep, ho, hc, hdt, he, _, nd⟩ := D.at I
  have l1 : es.size = ns.length := size_of_entries he
  have l2 : ks.length = ns.length := Paired.length D.ka
  have few := D.few
  have h16 : es.size ≤ sizeLine := by rw [sizeLine_eq]; omega
  refine Calls.call_function_entry PyProof.Rows.kind_sorted PyProof.Rows.plain_sorted PyProof.Rows.entry_sorted (PyProof.Rows.args_sorted1 _) ?_
  unfold Builtin.«sorted»
  refine wpAny_bind (m := checkCount "sorted" 1 1 _) (wpAny_pure ?_)
  refine wpAny_bind (PySem.W.kdu_collect (A := X.A.in1) (kdl_raw (es := es) (ep := ep) D.ne) (I.ok.hd hcalm) ⟨o, ho, hc, hdt⟩ h16 fun h' tk acc hk hacc => ?_)
  have hal : acc.toList.length = ks.length := by rw [Array.length_toList, hacc.1]; omega
  have I1 : Inv X pins σ H { s with heap := h', toks := tk } := I.kept hk
  refine wpAny_bind (wpAny_newList ?_ (by rw [hal, sizeLine_eq]; omega))
  have hoL : (h'.push (seqObj "list" acc.toList.toArray 0)).get? h'.objs.size = some (seqObj "list" acc.toList.toArray 0) := Heap.get?_push_size _ rfl
  show wpAny _ _ _ _ _ { s with heap := h'.push (seqObj "list" acc.toList.toArray 0), toks := tk }
  obtain ⟨bs, b1, b2, b3⟩ := bsN_of D.ka
  have ea : acc.toList = bs.map fun b => Value.ref b.2 := by
    have e0 : (bs.map fun b => Value.ref b.2) = ns.map fun x => Value.ref x.2.1 := by
      have e1 := congrArg (List.map Value.ref) b2
      rw [List.map_map, List.map_map] at e1
      exact e1
    rw [e0]
    apply List.ext_getElem?
    intro j
    rw [List.getElem?_map]
    cases hj : acc.toList[j]? with
    | none =>
      have h1 := List.getElem?_eq_none_iff.mp hj
      rw [List.getElem?_eq_none (by omega)]
      all_goals rfl
    | some v =>
      obtain ⟨en, hen, hv⟩ := hacc.2 j v (by rw [← Array.getElem?_toList]; exact hj)
      have qe := entry_at he j
      rw [hen] at qe
      cases hb : ns[j]? with
      | none =>
        rw [hb] at qe
        exact nomatch (show some en = none from qe)
      | some b =>
        rw [hb] at qe
        have e2 : en = entryOfKey (nestedKind X.prog X.w) b := Option.some.inj qe
        rw [hv, e2]
        all_goals rfl
  have lb : bs.length = ks.length := by rw [← b1, List.length_map]
  have each : PySem.W.EachIs (fun v (b : β × Addr) => v = .ref b.2 ∧ Tr H (.ref b.2) (enc b.1)) acc.toList bs := by
    rw [ea]
    exact eachN_refs bs b3
  have rd : PySem.W.EachIs (fun v (b : β × Addr) => ∃ as, Reads (h'.push (seqObj "list" acc.toList.toArray 0)) v (enc b.1) as ∧ h'.objs.size ∉ as) acc.toList bs := by
    refine each.mono fun v b ⟨e1, e2⟩ => ?_
    exact ⟨[], Tr.readsIn I1 (fun c o e => Heap.get?_push_of_some _ e) e2 (show RelV (.ref b.2) v from e1), by simp⟩
  refine wpAny_bind (wpAny_holding (PySem.W.list_sort_data (enc := fun b : β × Addr => enc b.1) (s := { s with heap := h'.push (seqObj "list" acc.toList.toArray 0), toks := tk }) hoL each rd ?_ (PySem.W.Sortable.tuples fun b => tup b.1) (by rw [lb, sizeLine_eq]; omega) (fun b hb => ?_) fun out lo2 eo => ?_))
  · have e : (bs.map fun b : β × Addr => enc b.1) = ks.map enc := by rw [← b1, List.map_map]; rfl
    rw [e]
    exact hal0
  · show X.A.units + 1 + 1 + (enc b.1).depth < cLine
    have : (enc b.1).depth ≤ 8 := dep _ (by rw [← b1]; exact List.mem_map.mpr ⟨b, hb, rfl⟩)
    omega
  · obtain ⟨e', he'⟩ := PyProof.Rows.sortedHeap_at (vs := acc.toList) (out := out.toArray) hoL
    have em : (bs.mergeSort (PySem.W.dataLe false fun b : β × Addr => enc b.1)).map (·.1) = sortB enc ks := by
      rw [← b1]
      exact List.map_mergeSort fun _ _ _ _ => rfl
    generalize (bs.mergeSort (PySem.W.dataLe false fun b : β × Addr => enc b.1)) = cs at eo em
    obtain ⟨ts, rfl, pts⟩ := eachN_ts eo
    rw [em] at pts
    have hlen : (ts.map V.ref).length ≤ sizeLine := by
      have := Trs.len pts
      have e3 : (sortB enc ks).length = ks.length := List.length_mergeSort ..
      rw [List.length_map, List.length_map, e3] at this
      rw [List.length_map, sizeLine_eq]
      omega
    refine wpAny_pure ⟨_, rfl, .ref h'.objs.size, upd H h'.objs.size (.lst (ts.map V.ref)), I1.laid (t' := tk) (fun b u e => ?_) (Nat.le_refl _)
      (show ObjOk X.prog X.w _ _ _ (.lst (ts.map V.ref)) from ⟨hlen, ts.map Value.ref, e', vals_refs ts, he'⟩), rfl, q ts _ pts (I1.hok.fresh (Nat.le_refl _))⟩
    have hb : b < h'.objs.size := Heap.lt_size e
    rw [PyProof.Rows.sortedHeap_old (Nat.ne_of_lt hb) (by rw [size_push']; exact Nat.lt_succ_of_lt hb)]
    exact Heap.get?_push_of_some _ e
end
end K5
namespace K5
open PySem PySem.Spec PyProof.Rows L2
/-! ### set(xs) of a list, whatever its items are -/
section
variable {P : Program} {w : World} {A : Around} {E : Value → Shared → Prop} {s s0 : Shared}
abbrev setNew (w : World) : Obj := { cls := .type "set", dict := none, data := .set #[] 0 (.fresh 0 0 (!w.params.followText "set-order")) }
theorem fill_loop {I S : Addr} {fp wr : List Addr} {G : Array GenState → Array GenState → Prop} {n : Nat} {Pv : Nat → Value → Prop} {St : Nat → Shared → Prop} {R : Result → Shared → Prop} {J : Nat → Heap → Prop} (W : WalksS P w A.in1 I fp wr G n Pv St) (nf : S ∉ fp)
    (jk : ∀ (i : Nat) (h h' : Heap), J i h → (∀ b o, b ∉ wr → h.get? b = some o → h'.get? b = some o) → J i h')
    (step : ∀ (i : Nat) (v : Value) (s1 : Shared) (E : Value → Shared → Prop) (Q : Bool → Shared → Prop), i < n → Pv i v → J i s1.heap → (∀ b h' t', Heap.SameBut S s1.heap h' → J (i + 1) h' → s1.toks ≤ t' → Q b { s1 with heap := h', toks := t' }) → wpAny (model P w) A.in1 (setAdd S v) Q E s1)
    (fin : ∀ s', Moved (S :: wr) G s0 s' → J n s'.heap → R (.ok (.ret .none)) s') :
    ∀ (k i : Nat) (s : Shared), n - i = k → i ≤ n → St i s → J i s.heap → Moved (S :: wr) G s0 s → codeAny (model P w) A (.builtin "set.update.loop" ⟨[.ref S, .ref I], []⟩) R s := by
  have sub : ∀ b ∈ wr, b ∈ S :: wr := fun b hb => List.mem_cons_of_mem _ hb
  intro k
  induction k with
  | zero =>
    intro i s e le st j m
    obtain rfl : i = n := by omega
    refine codeAny_builtin PyProof.Rows.F.entry_set_update_loop ?_; rw [Around.under_plainId PyProof.Rows.F.plain_set_update_loop _]; show wpAny _ A.in1 (pyNext (.ref I) >>= _) _ _ s; refine wpAny_bind (W.done s _ _ st fun s' m' => ?_)
    show wpAny _ A.in1 (ret .none) _ _ s'
    exact wpAny_pure (fin s' (m.trans W.gtrans (m'.mono sub)) (jk _ _ _ j m'.heap))
  | succ k ih =>
    intro i s e le st j m
    have lt : i < n := by omega
    refine codeAny_builtin PyProof.Rows.F.entry_set_update_loop ?_; rw [Around.under_plainId PyProof.Rows.F.plain_set_update_loop _]; show wpAny _ A.in1 (pyNext (.ref I) >>= _) _ _ s; refine wpAny_bind (W.item i s _ _ lt st fun v s' pv st' m' => ?_)
    show wpAny _ A.in1 (holding [v] (setAdd S v) >>= _) _ _ s'
    refine wpAny_bind (wpAny_holding (step i v s' _ _ lt pv (jk _ _ _ j m'.heap) fun b h' t' sb j' tt => ?_))
    refine wpAny_pure ⟨plainId_quiet PyProof.Rows.F.plain_set_update_loop _, ih (i + 1) _ (by omega) lt (W.frame _ s' _ _ st' tt fun c hc o ec => ?_) j' ?_⟩
    · exact (sb.2 c fun z => nf (z ▸ hc)).trans ec
    · exact (m.trans W.gtrans (m'.mono sub)).then_heap tt fun c o hc ec => (sb.2 c fun z => hc (by rw [z]; exact List.mem_cons_self)).trans ec
theorem set_from {l : Addr} {items : Array Value} {J : Nat → Heap → Prop} {Q : Value → Shared → Prop} (hh : A.handled = none) (hl : s.heap.IsList l items)
    (j0 : ∀ h, h.get? s.heap.objs.size = some (setNew w) → (∀ b o, s.heap.get? b = some o → h.get? b = some o) → J 0 h)
    (jk : ∀ (i : Nat) (h h' : Heap), J i h → (∀ b o, b ≤ s.heap.objs.size → h.get? b = some o → h'.get? b = some o) → J i h')
    (step : ∀ (B : Around) (i : Nat) (v : Value) (s1 : Shared) (E : Value → Shared → Prop) (Q : Bool → Shared → Prop), B.units ≤ A.units + 5 → items[i]? = some v → J i s1.heap → (∀ b h' t', Heap.SameBut s.heap.objs.size s1.heap h' → J (i + 1) h' → s1.toks ≤ t' → Q b { s1 with heap := h', toks := t' }) → wpAny (model P w) B (setAdd s.heap.objs.size v) Q E s1)
    (fin : ∀ (h' : Heap) (t' : Nat), J items.size h' → (∀ b o, s.heap.get? b = some o → h'.get? b = some o) → Q (.ref s.heap.objs.size) { s with heap := h', toks := t' }) : wpAny (model P w) A (call (.type "set") [.ref l]) Q E s := by
  have old : ∀ {b o}, s.heap.get? b = some o → b < s.heap.objs.size := fun e => Heap.lt_size e
  obtain ⟨c, tl, mro⟩ := PySem.F.called_set.mro
  have made := PySem.F.called_set.made; have cs := PySem.F.called_set.sub
  refine wpAny_call (codeAny_of_tree ?_); show wpAny _ _ (callAny (.type "set") _) _ _ _; refine wpAny_pure ⟨Code.quiet_builtin _ (by decide +kernel), codeAny_builtin PySem.F.entry_type_call ?_⟩; rw [Around.under_plain (weight_type_call_type "set" [.ref l] []) rfl]
  have g1 := PySem.F.called_set.notType; have g2 := PySem.F.called_set.canCreate
  have g3 := PySem.F.typeCall_set_1 (.ref l); repeat (any_goals (first | assumption | wp_step))
  refine codeAny_mono (code_set_led1 (.ref l) (E := E) (Q₁ := fun x s1 => x = .ref s.heap.objs.size ∧ s1 = { s with heap := s.heap.push (setNew w) }) ⟨rfl, rfl⟩) fun r s1 hr => ?_
  cases r with
  | error e => exact hr
  | ok fl =>
    cases fl with
    | ret x =>
      obtain ⟨rfl, rfl⟩ := hr
      have hS : (s.heap.push (setNew w)).get? s.heap.objs.size = some (setNew w) := Heap.get?_push_size _ rfl
      have hT : Shared.TypeIs { s with heap := s.heap.push (setNew w) } (.ref s.heap.objs.size) "set" := ⟨_, hS, rfl⟩
      have li := PySem.F.called_set.init.lookup; have bi := PySem.F.called_set.init.bind (.ref s.heap.objs.size)
      iterate 1 (repeat (any_goals (first | assumption | wp_step)))
      refine codeAny_mono (codeAny_call_builtin (R := wants (fun r s2 => r = .none ∧ ∃ h' tk, s2 = { s with heap := h', toks := tk } ∧ J items.size h' ∧ ∀ b o, s.heap.get? b = some o → h'.get? b = some o) E) PySem.F.called_set.init.plain PySem.F.entry_set_init (check_set_init_1 hT ?_)) fun r2 s2 hr2 => ?_
      · obtain ⟨⟨ocls, odict, odata, oslots⟩, hol, hcl, nl, hdl⟩ := hl
        simp only at hcl hdl; subst hcl; subst hdl
        have hol2 : (s.heap.push (setNew w)).get? l = some { cls := .type "list", dict := odict, data := .seq items nl, slots := oslots } := Heap.get?_push_of_some _ hol
        have q1 := PySem.F.sub_list_set; have q2 := PySem.F.sub_list_frozenset
        have q3 : (Value.type "list" == Value.type "dict") = false := by decide
        have hl1 : (s.heap.push (setNew w)).IsList l items := ⟨_, hol2, rfl, nl, rfl⟩
        unfold Builtin.«set.__init__» noKeywords Builtin.Frozenset.updateFrom; generalize ei : pyIter = it; wp_walk; subst ei
        refine wpAny_pyIter_list hl1 (wpAny_bind (wpAny_runValue ?_))
        have lS : l < s.heap.objs.size := old hol
        have z1 : (s.heap.push (setNew w)).objs.size = s.heap.objs.size + 1 := Heap.size_push ..
        have lI : l ≠ (s.heap.push (setNew w)).objs.size := by rw [z1]; exact Nat.ne_of_lt (Nat.lt_succ_of_lt lS)
        have Sf : s.heap.objs.size ∉ [(s.heap.push (setNew w)).objs.size, l] := by
          rw [z1]; intro h
          rcases List.mem_cons.mp h with h | h
          · exact absurd h (Nat.ne_of_lt (Nat.lt_succ_self _))
          · exact absurd (List.mem_singleton.mp h).symm (Nat.ne_of_lt lS)
        have h3 : A.in1.in1.in1.handled = none := by simp [hh]
        refine fill_loop (s0 := { s with heap := s.heap.push (setNew w) }) (J := J) (Walks.list h3 _ l lI items).toS Sf (fun i h h' j kk => jk i h h' j fun b o hb e => kk b o (fun m => ?_) e) (fun i v s1 E' Q' lt pv j k => step _ i v s1 E' Q' (by simp only [Around.in1_units]; omega) pv j k) (fun s' m j => ?_) (items.size - 0) 0 _ (by omega) (Nat.zero_le _) ⟨⟨_, Heap.get?_push_size _ rfl, rfl, rfl⟩, hl1.push _⟩ (j0 _ (Heap.get?_push_of_some _ hS) fun b o e => Heap.get?_push_of_some _ (Heap.get?_push_of_some _ e)) ?_
        · have m := List.mem_singleton.mp m
          rw [m, z1] at hb
          exact absurd hb (Nat.not_le_of_lt (Nat.lt_succ_self _))
        · obtain ⟨h', g', d', tk', os1⟩ := s'
          have e1 : g' = s.gens := m.gens; have e2 : d' = s.drawn := m.drawn; have e3 : os1 = s.os := m.os
          subst e1; subst e2; subst e3
          show wpAny _ _ _ _ _ _
          refine wpAny_pure ?_; show wpAny _ _ (ret Value.none) _ _ _; refine wpAny_pure ⟨rfl, h', tk', rfl, j, fun b o e => ?_⟩
          have lb := old e
          refine m.heap b o (fun h => ?_) (Heap.get?_push_of_some _ e)
          rcases List.mem_cons.mp h with h | h
          · exact absurd h (Nat.ne_of_lt lb)
          · have h := List.mem_singleton.mp h
            rw [z1] at h
            exact absurd h (Nat.ne_of_lt (Nat.lt_succ_of_lt lb))
        · refine (Moved.refl (G := fun a b => b = a) fun _ => rfl).then_heap (Nat.le_refl _) fun b o _ e => Heap.get?_push_of_some _ e
      · cases r2 with
        | error e => exact hr2
        | ok fl2 =>
          cases fl2 with
          | ret r =>
            obtain ⟨rfl, h', tk, rfl, j, kk⟩ := hr2
            iterate 1 (repeat (any_goals (first | assumption | wp_step)))
            exact fin _ _ j kk
          | _ => exact hr2.elim
    | _ => exact hr.elim
end
end K5
namespace K5
open PySem PySem.Spec PyProof.Rows L2
/-! ### keys in sets: what the model asks of them -/
section
variable {P : Program} {w : World} {A : Around} {E : Value → Shared → Prop} {s : Shared}
/-- whether hash(v) is told by its value alone, n levels down: it is known -/
def HashB (P : Program) (w : World) (n : Nat) (s : Shared) (v : Value) : Prop := ∃ b : Bool, ∀ (A : Around) (E : Value → Shared → Prop) (Q : Bool → Shared → Prop), Q b s → wpAny (model P w) A (hashByValue n v) Q E s
/-- no class statement under v, n levels down -/
def NoCls (P : Program) (w : World) (n : Nat) (s : Shared) (v : Value) : Prop := ∀ (A : Around) (E : Value → Shared → Prop) (Q : Bool → Shared → Prop), Q false s → wpAny (model P w) A (ofAClassStatement n v) Q E s
/-- it is told by its value -/
def TellsB (P : Program) (w : World) (n : Nat) (s : Shared) (v : Value) : Prop := ∀ (A : Around) (E : Value → Shared → Prop) (Q : Bool → Shared → Prop), Q true s → wpAny (model P w) A (hashByValue n v) Q E s
theorem hashB_tup {n m : Nat} {a : Addr} {o : Obj} {ys : Array Value} (ho : s.heap.get? a = some o) (hc : o.cls = .type "tuple") (hd : o.data = .seq ys m) (all : ∀ y ∈ ys.toList, HashB P w n s y) : HashB P w (n + 1) s (.ref a) := by
  by_cases every : ∀ y ∈ ys.toList, TellsB P w n s y
  · refine ⟨true, fun A E Q q => ?_⟩
    unfold hashByValue
    refine wpAny_bind (wpAny_specialOf (T := "tuple") ⟨o, ho, hc⟩ F.slot_tuple_hash.lookup ?_)
    show wpAny _ _ (seqItems? (.ref a) >>= _) _ _ s
    refine wpAny_bind (wpAny_seqItems ho hd (wpAny_bind ?_))
    show wpAny _ _ (forIn ys _ _) _ _ s
    rw [← Array.forIn_toList]
    refine wpAny_forIn_list _ (fun more r s2 => r.1 = none ∧ s2 = s ∧ ∀ y ∈ more, TellsB P w n s y) _ ?_ ?_ _ _ ⟨rfl, rfl, every⟩
    · rintro y more r s2 ⟨r1, rfl, al⟩
      refine wpAny_bind (al y List.mem_cons_self _ _ _ ?_)
      rw [if_neg (by decide)]
      exact wpAny_pure ⟨rfl, rfl, fun z hz => al z (List.mem_cons_of_mem _ hz)⟩
    · rintro ⟨r1, r2⟩ s2 ⟨e, rfl, _⟩
      cases e
      exact wpAny_pure q
  · refine ⟨false, fun A E Q q => ?_⟩
    unfold hashByValue
    refine wpAny_bind (wpAny_specialOf (T := "tuple") ⟨o, ho, hc⟩ F.slot_tuple_hash.lookup ?_)
    show wpAny _ _ (seqItems? (.ref a) >>= _) _ _ s
    refine wpAny_bind (wpAny_seqItems ho hd (wpAny_bind ?_))
    show wpAny _ _ (forIn ys _ _) _ _ s
    rw [← Array.forIn_toList]
    refine wpAny_forIn_list _ (fun more r s2 => (r.1 = none ∧ s2 = s ∧ (∀ y ∈ more, HashB P w n s y) ∧ ¬ ∀ y ∈ more, TellsB P w n s y)) _ ?_ ?_ _ _ ⟨rfl, rfl, all, every⟩
    · rintro y more r s2 ⟨r1, rfl, al, ev⟩
      obtain ⟨b, hb⟩ := al y List.mem_cons_self
      refine wpAny_bind (hb _ _ _ ?_)
      cases b with
      | true =>
        rw [if_neg (by decide)]
        refine wpAny_pure ⟨rfl, rfl, fun z hz => al z (List.mem_cons_of_mem _ hz), fun z => ev fun x hx => ?_⟩
        rcases List.mem_cons.mp hx with e | hx
        · rw [e]
          exact hb
        · exact z x hx
      | false =>
        rw [if_pos (by decide)]
        exact wpAny_pure (wpAny_pure q)
    · rintro ⟨r1, r2⟩ s2 ⟨e, rfl, _, ev⟩
      exact absurd (fun y hy => by cases hy) ev
theorem noCls_tup {n m : Nat} {a : Addr} {o : Obj} {ys : Array Value} (ho : s.heap.get? a = some o) (hc : o.cls = .type "tuple") (hd : o.data = .seq ys m) (all : ∀ y ∈ ys.toList, NoCls P w n s y) : NoCls P w (n + 1) s (.ref a) := fun A E Q q => by
  unfold ofAClassStatement
  refine wpAny_bind (wpAny_typeOf (T := "tuple") ⟨o, ho, hc⟩ ?_)
  dsimp only
  simp only [show (("tuple" : String) == "tuple") = true by decide, if_true, Bool.not_true, Bool.false_eq_true, if_false]
  first
    | (refine wpAny_bind (wpAny_pure ?_); simp only [Bool.not_true, Bool.false_eq_true, if_false])
    | skip
  show wpAny _ _ (seqItems? (.ref a) >>= _) _ _ s
  refine wpAny_bind (wpAny_seqItems ho hd ?_)
  dsimp only
  refine wpAny_bind ?_
  show wpAny _ _ (forIn ys _ _) _ _ s
  rw [← Array.forIn_toList]
  refine wpAny_forIn_list _ (fun more r s2 => r.1 = none ∧ s2 = s ∧ ∀ y ∈ more, NoCls P w n s y) _ ?_ ?_ _ _ ⟨rfl, rfl, all⟩
  · rintro y more r s2 ⟨r1, rfl, al⟩
    refine wpAny_bind (al y List.mem_cons_self _ _ _ ?_)
    rw [if_neg (by decide)]
    exact wpAny_pure ⟨rfl, rfl, fun z hz => al z (List.mem_cons_of_mem _ hz)⟩
  · rintro ⟨r1, r2⟩ s2 ⟨e, rfl, _⟩
    cases e
    exact wpAny_pure q
theorem hashB_int (n : Nat) (i : Int) (t : Tok) : HashB P w n s (.int i t) := ⟨true, fun A E Q q => by
  rw [show hashByValue n (.int i t) = pure true by cases n <;> rfl]
  exact wpAny_pure q⟩
theorem hashB_str (n : Nat) (i : Str) (t : Tok) : HashB P w n s (.str i t) := ⟨false, fun A E Q q => by
  rw [show hashByValue n (.str i t) = pure false by cases n <;> rfl]
  exact wpAny_pure q⟩
theorem hashB_non (n : Nat) : HashB P w n s .none := ⟨true, fun A E Q q => by
  rw [show hashByValue n .none = pure true by cases n <;> rfl]
  exact wpAny_pure q⟩
theorem hashB_bl (n : Nat) (b : Bool) : HashB P w n s (.bool b) := ⟨true, fun A E Q q => by
  rw [show hashByValue n (.bool b) = pure true by cases n <;> rfl]
  exact wpAny_pure q⟩
theorem noCls_int (n : Nat) (i : Int) (t : Tok) : NoCls P w n s (.int i t) := fun A E Q q => by
  rw [show ofAClassStatement n (.int i t) = pure false by cases n <;> rfl]
  exact wpAny_pure q
theorem noCls_str (n : Nat) (i : Str) (t : Tok) : NoCls P w n s (.str i t) := fun A E Q q => by
  rw [show ofAClassStatement n (.str i t) = pure false by cases n <;> rfl]
  exact wpAny_pure q
theorem noCls_non (n : Nat) : NoCls P w n s .none := fun A E Q q => by
  rw [show ofAClassStatement n .none = pure false by cases n <;> rfl]
  exact wpAny_pure q
theorem noCls_bl (n : Nat) (b : Bool) : NoCls P w n s (.bool b) := fun A E Q q => by
  rw [show ofAClassStatement n (.bool b) = pure false by cases n <;> rfl]
  exact wpAny_pure q
mutual
theorem nis_both : ∀ {k : NestedKey} {v : Value} (n : Nat), NestedIs s.heap k v → k.depth ≤ n → HashB P w n s v ∧ NoCls P w n s v
  | _, _, n, .none, _ => ⟨hashB_non n, noCls_non n⟩
  | _, _, n, .bool _, _ => ⟨hashB_bl n _, noCls_bl n _⟩
  | _, _, n, .int i t, _ => ⟨hashB_int n i t, noCls_int n i t⟩
  | _, _, n, .text x t, _ => ⟨hashB_str n x t, noCls_str n x t⟩
  | _, _, 0, .tup _ _ _ _, h => absurd h (by rw [NestedKey.depth]; omega)
  | _, _, n + 1, .tup h1 h2 h3 r, h => ⟨hashB_tup h1 h2 h3 fun y hy => (nall_both n r (by rw [NestedKey.depth] at h; omega) y hy).1, noCls_tup h1 h2 h3 fun y hy => (nall_both n r (by rw [NestedKey.depth] at h; omega) y hy).2⟩
theorem nall_both : ∀ {ks : List NestedKey} {vs : List Value} (n : Nat), NestedAll s.heap ks vs → NestedKey.depthAll ks ≤ n → ∀ y ∈ vs, HashB P w n s y ∧ NoCls P w n s y
  | _, _, n, .nil, _, y, hy => by cases hy
  | _, _, n, .cons h r, hd, y, hy => by
    rw [NestedKey.depthAll] at hd
    rcases List.mem_cons.mp hy with e | hy
    · rw [e]
      exact nis_both n h (by omega)
    · exact nall_both n r (by omega) y hy
end
end
/-- the key k stands at a -/
structure KA {β : Type} (enc : β → PyData) (h : Heap) (k : β) (a : Addr) : Prop where
  is : NestedIs h (nkOf (enc k)) (.ref a)
  dp : (nkOf (enc k)).depth ≤ 8
section
variable {β : Type} {enc : β → PyData} {P : Program} {w : World} {A : Around} {E : Value → Shared → Prop} {s : Shared}
theorem KA.at {h h' : Heap} {k : β} {a : Addr} (x : KA enc h k a) (kk : ∀ a o vs n, h.get? a = some o → o.data = .seq vs n → h'.get? a = some o) : KA enc h' k a := ⟨NestedIs.at kk _ _ x.is, x.dp⟩
theorem KA.hashB {os : β} {a : Addr} (x : KA enc s.heap os a) : HashB P w 8 s (.ref a) := (nis_both 8 x.is x.dp).1
theorem KA.noCls {os : β} {a : Addr} (x : KA enc s.heap os a) : NoCls P w 8 s (.ref a) := (nis_both 8 x.is x.dp).2
theorem KA.quiet {os : β} {a : Addr} {Q : Bool → Shared → Prop} (x : KA enc s.heap os a) (q : Q true s) : wpAny (model P w) A (eqIsQuiet 8 (.ref a)) Q E s := quiet_key _ _ 8 s x.is x.dp A E Q q
/-- a search among such keys shows nothing -/
theorem unseen {os : β} {a : Addr} {Q : Bool → Shared → Prop} (x : KA enc s.heap os a) {ys : List Value} (hy : ∀ y ∈ ys, ∃ os' c, y = Value.ref c ∧ KA enc s.heap os' c) (q : Q false s) : wpAny (model P w) A (searchCouldBeSeen (.ref a) ys) Q E s := by
  unfold searchCouldBeSeen
  refine wpAny_bind (wpAny_forIn_list _ (fun more r s2 => r.1 = none ∧ s2 = s ∧ ∀ y ∈ more, ∃ os' c, y = Value.ref c ∧ KA enc s.heap os' c) _ ?_ ?_ _ _ ⟨rfl, rfl, hy⟩)
  · rintro y more r s2 ⟨r1, rfl, al⟩
    obtain ⟨os', c, rfl, xc⟩ := al y List.mem_cons_self
    have al' : ∀ y ∈ more, ∃ os' c, y = Value.ref c ∧ KA enc s2.heap os' c := fun z hz => al z (List.mem_cons_of_mem _ hz)
    dsimp only
    by_cases c1 : (a == c || (carriedByValue (.ref a) && carriedByValue (.ref c))) = true
    · exact wp_if_pos c1 (wpAny_pure ⟨rfl, rfl, al'⟩)
    · refine wp_if_neg c1 (wpAny_bind (x.quiet ?_))
      rw [if_neg (by decide)]
      refine wpAny_bind (xc.quiet ?_)
      rw [if_neg (by decide)]
      refine wpAny_bind (x.noCls _ _ _ ?_)
      rw [if_neg (by decide)]
      refine wpAny_bind (xc.noCls _ _ _ ?_)
      rw [if_neg (by decide)]
      exact wpAny_pure ⟨rfl, rfl, al'⟩
  · rintro ⟨r1, r2⟩ s2 ⟨e, rfl, _⟩
    cases e
    exact wpAny_pure q
end
end K5
namespace K5
open PySem PySem.Spec PyProof.Rows L2
/-! ### a set of such keys -/
abbrev kh {β : Type} (enc : β → PyData) (w : World) (os : β) : Int := (nkOf (enc os)).hash w
abbrev prb (m : Nat) (h : Int) (c : Nat) : SetTable.Probe := nth m (runAt m (SetTable.bits h % (m + 1)) (SetTable.bits h)) c
theorem prb_dummy (m : Nat) (h : Int) : ∀ c, (prb m h c).dummy = none := by
  have key : ∀ (c : Nat) (p : SetTable.Probe), p.dummy = none → (nth m p c).dummy = none := by
    intro c
    induction c with
    | zero => exact fun _ e => e
    | succ c ih =>
      intro p e
      refine ih (adv m p) ?_
      unfold adv
      split
      · exact e
      · exact e
  exact fun c => key c _ rfl
theorem prb_add (m : Nat) (h : Int) (c q : Nat) : nth m (prb m h c) q = prb m h (c + q) := (nth_add m c _ q).symm
structure NS {β : Type} (enc : β → PyData) (P : Program) (w : World) (h : Heap) (a : Addr) (L : List (Addr × β)) (es : Array (Int × Value)) (ep : Nat) (t : SetTable) : Prop where
  ob : ∃ x, h.get? a = some x ∧ x.ExactSet ∧ x.data = .set es ep t
  rows : es.toList = L.map fun p => (kh enc w p.2, Value.ref p.1)
  tab : TabOk t (L.map fun p => kh enc w p.2)
  room : L.length * 5 < t.mask * 3
  nd : (L.map (·.2)).Nodup
  tup : ∀ p ∈ L, KA enc h p.2 p.1
  led : w.params.followText "set-order" = true ∨ t.led = true
  few : L.length ≤ 17
/-- two keys that are told alike are one -/
def InjN {β : Type} (enc : β → PyData) : Prop := ∀ k l, nkOf (enc k) = nkOf (enc l) → k = l
section
variable {β : Type} [DecidableEq β] {enc : β → PyData} {P : Program} {w : World} {A : Around} {E : Value → Shared → Prop} {s : Shared} {a : Addr} {L : List (Addr × β)} {es : Array (Int × Value)} {ep : Nat} {t : SetTable}
theorem NS.sz {h : Heap} (R : NS enc P w h a L es ep t) : es.size = L.length := by
  have e := congrArg List.length R.rows
  rw [Array.length_toList, List.length_map] at e
  exact e
theorem NS.fit {h : Heap} (R : NS enc P w h a L es ep t) : t.fits es.size = true := by
  have e1 := R.tab.sz
  have e2 := R.sz
  have e3 := R.room
  rw [List.length_map] at e1
  unfold SetTable.fits SetTable.fill
  rw [R.tab.dm, Bool.and_eq_true, beq_iff_eq, decide_eq_true_eq]; refine ⟨by omega, ?_⟩
  show t.place.size + 0 ≤ t.mask
  omega
theorem NS.at {h : Heap} (R : NS enc P w h a L es ep t) {i : Nat} {p : Addr × β} (e : L[i]? = some p) : es[i]? = some (kh enc w p.2, Value.ref p.1) := by
  rw [← Array.getElem?_toList, R.rows, List.getElem?_map, e]
  rfl
theorem NS.stay {h : Heap} (R : NS enc P w h a L es ep t) : ¬ t.gaveWay = true := by
  unfold SetTable.gaveWay
  rcases R.tab.mok with e | e | e <;> rw [e] <;> decide
/-- the search from the c-th slot of its way on -/
theorem nk_seek (inj : InjN enc) (R : NS enc P w s.heap a L es ep t) {x : Addr} {key : β} (hx : KA enc s.heap key x) (hu : A.units + 8 < cLine) {M : Nat} (mf : M < 10 * SetTable.turns t.mask) (mo : way t.mask (kh enc w key) M ∉ t.place.toList) (mi : ∀ c, c < M → way t.mask (kh enc w key) c ∈ t.place.toList) {Q : SetFound → Shared → Prop}
    (qin : key ∈ L.map (·.2) → Q (.there none) s) (qout : key ∉ L.map (·.2) → Q (.free (way t.mask (kh enc w key) M) false) s) :
    ∀ (f c : Nat) (st : Option SetTable.Probe), st.getD (t.probeStart (kh enc w key)) = prb t.mask (kh enc w key) c → c ≤ M → M - c < f →
      (∀ (i : Nat) p, L[i]? = some p → p.2 = key → ∃ d, c ≤ d ∧ d < M ∧ t.place.toList[i]? = some (way t.mask (kh enc w key) d)) → wpAny (model P w) A (setSearchFrom a (.ref x) (kh enc w key) true f st) Q E s
  | 0, _, _, _, _, hf, _ => absurd hf (Nat.not_lt_zero _)
  | f + 1, c, st, hst, hc, hf, ahead => by
    obtain ⟨o, ho, hex, hd⟩ := R.ob
    have fit := R.fit
    rw [setSearchFrom_succ]
    refine wpAny_bind (wpAny_setState_of ho hd fit ?_); dsimp only; refine wp_if_neg R.stay ?_; try refine wpAny_bind (wpAny_pure ?_)
    have jj : ∀ q, (nth t.mask (prb t.mask (kh enc w key) c) q).j = way t.mask (kh enc w key) (c + q) := fun q => congrArg SetTable.Probe.j (prb_add t.mask (kh enc w key) c q)
    have hat : ∀ (i : Nat) p, L[i]? = some p → (fun i => (es[i]?.map (·.1)).getD 0) i = kh enc w p.2 := fun i p hp => by
      show (es[i]?.map (·.1)).getD 0 = kh enc w p.2
      rw [R.at hp]
      rfl
    rcases go_spec t R.tab.ris R.tab.dm (fun i => (es[i]?.map (·.1)).getD 0) (kh enc w key) (10 * SetTable.turns t.mask) (M - c) _ (prb_dummy _ _ c) (by omega) (fun q hq => by rw [jj]; exact mi (c + q) (by omega)) (by rw [jj, show c + (M - c) = M by omega]; exact mo) with ⟨q, i, hq, hi, hh, no, pr⟩ | ⟨no, pr⟩
    · have pr2 : t.probe (fun i => (es[i]?.map (·.1)).getD 0) (kh enc w key) (st.getD (t.probeStart (kh enc w key))) = some (.candidate (way t.mask (kh enc w key) (c + q)) i (prb t.mask (kh enc w key) (c + (q + 1)))) := by
        rw [hst, ← jj, ← prb_add]
        exact pr
      rw [pr2]
      dsimp only
      rw [jj] at hi
      have il : i < L.length := by
        have h1 := (List.getElem?_eq_some_iff.mp hi).1
        have h2 := R.tab.sz
        rw [List.length_map] at h2
        rw [Array.length_toList] at h1
        omega
      obtain ⟨p, hp⟩ : ∃ p, L[i]? = some p := ⟨L[i], List.getElem?_eq_getElem il⟩
      have pm : p ∈ L := List.mem_of_getElem? hp
      have more : wpAny (model P w) A (searchRest a (.ref x) (kh enc w key) true f es t (way t.mask (kh enc w key) (c + q)) i (prb t.mask (kh enc w key) (c + (q + 1)))) Q E s := by
        unfold searchRest
        rw [R.at hp]
        dsimp only
        refine wpAny_bind (wpAny_holding ((nestedKind P w).eqBool hu ⟨(R.tup p pm).is, (R.tup p pm).dp⟩ ⟨hx.is, hx.dp⟩ (wpAny_bind (wpAny_setState_of ho hd fit ?_))))
        dsimp only
        by_cases ke : p.2 = key
        · refine wp_if_pos (by simp [ke]) (wpAny_pure (qin ?_))
          exact List.mem_map.mpr ⟨p, pm, ke⟩
        · have kn : nkOf (enc p.2) ≠ nkOf (enc key) := fun e => ke (inj _ _ e)
          refine wp_if_neg (by simp [kn]) ?_
          try refine wpAny_bind (wpAny_pure ?_)
          rw [sameMem]
          dsimp only
          have sl : t.slot (way t.mask (kh enc w key) (c + q)) = .live i := slot_live R.tab.ris hi
          simp only [if_true, sl, R.at hp]
          refine wpAny_bind (wpAny_isSame_ref_self (wpAny_bind (wpAny_pure ?_)))
          simp only [if_true]
          refine wp_if_neg (by simp [kn]) (nk_seek inj R hx hu mf mo mi qin qout f (c + (q + 1)) _ rfl (by omega) (by omega) fun i0 p0 h0 k0 => ?_)
          obtain ⟨d, d1, d2, d3⟩ := ahead i0 p0 h0 k0
          refine ⟨d, ?_, d2, d3⟩
          have n1 : ¬ d < c + q := fun z => by
            refine no (d - c) i0 (by omega) (by rw [jj, show c + (d - c) = d by omega]; exact d3) ?_
            exact (hat i0 p0 h0).trans (by rw [k0])
          have n2 : d ≠ c + q := fun z => by
            rw [z] at d3
            have s0 := slot_live R.tab.ris d3
            rw [sl] at s0
            injection s0 with s0
            rw [← s0, hp] at h0
            injection h0 with h0
            exact ke (by rw [h0]; exact k0)
          omega
      by_cases hl : t.led = true
      · refine wp_if_neg (by simp [hl]) ?_
        try refine wpAny_bind (wpAny_pure ?_)
        exact more
      · refine wp_if_pos (by simp [hl]) (wpAny_bind (unseen hx (fun y hy => ?_) ?_))
        · obtain ⟨e, he, rfl⟩ := List.mem_map.mp hy
          have he2 : e ∈ es.toList := by
            have := Array.mem_toList_iff.mp he
            exact Array.mem_toList_iff.mpr (Array.mem_filter.mp this).1
          rw [R.rows] at he2
          obtain ⟨p2, hp2, rfl⟩ := List.mem_map.mp he2
          exact ⟨p2.2, p2.1, rfl, R.tup p2 hp2⟩
        · refine wp_if_neg (by decide) ?_
          try refine wpAny_bind (wpAny_pure ?_)
          exact more
    · have pr2 : t.probe (fun i => (es[i]?.map (·.1)).getD 0) (kh enc w key) (st.getD (t.probeStart (kh enc w key))) = some (.empty (way t.mask (kh enc w key) M) none) := by
        have e : way t.mask (kh enc w key) M = (nth t.mask (prb t.mask (kh enc w key) c) (M - c)).j := by rw [jj, show c + (M - c) = M by omega]
        rw [hst, e]
        exact pr
      rw [pr2]
      dsimp only
      refine wpAny_pure (qout fun hm => ?_)
      obtain ⟨p0, m0, k0⟩ := List.mem_map.mp hm
      obtain ⟨i0, h0⟩ := List.getElem?_of_mem m0
      obtain ⟨d, d1, d2, d3⟩ := ahead i0 p0 h0 k0
      refine no (d - c) i0 (by omega) (by rw [jj, show c + (d - c) = d by omega]; exact d3) ?_
      exact (hat i0 p0 h0).trans (by rw [k0])
theorem nk_find (inj : InjN enc) (R : NS enc P w s.heap a L es ep t) {x : Addr} {key : β} (hx : KA enc s.heap key x) (hu : A.units + 8 < cLine) {Q : SetFound → Shared → Prop} (qin : key ∈ L.map (·.2) → Q (.there none) s)
    (qout : ∀ M, key ∉ L.map (·.2) → way t.mask (kh enc w key) M ∉ t.place.toList → (∀ c, c < M → way t.mask (kh enc w key) c ∈ t.place.toList) → Q (.free (way t.mask (kh enc w key) M) false) s) : wpAny (model P w) A (setSearch a (.ref x) (kh enc w key) true) Q E s := by
  have few := R.few
  have room := R.room
  obtain ⟨M, mf, mo, mi⟩ := R.tab.first (by rw [List.length_map]; omega) (kh enc w key)
  have big : M < 100000 := by
    unfold SetTable.turns at mf
    rcases R.tab.mok with e | e | e <;> rw [e] at mf <;> omega
  unfold setSearch
  refine nk_seek inj R hx hu mf mo mi qin (fun hn => qout M hn mo mi) 100000 0 none rfl (Nat.zero_le _) (by omega) fun i p hp k0 => ?_
  have hi : (L.map fun p => kh enc w p.2)[i]? = some (kh enc w key) := by
    rw [List.getElem?_map, hp, ← k0]
    rfl
  have il : i < t.place.toList.length := by
    have h1 := (List.getElem?_eq_some_iff.mp hp).1
    have h2 := R.tab.sz
    rw [List.length_map] at h2
    rw [Array.length_toList]
    omega
  have hj := List.getElem?_eq_getElem il
  obtain ⟨d, hd, e⟩ := R.tab.before mo hi hj
  exact ⟨d, Nat.zero_le _, hd, by rw [hj, e]⟩
end
end K5
namespace K5
open PySem PySem.Spec PyProof.Rows L2
/-! ### such a set grows -/
theorem range_get {γ : Type} : ∀ L : List γ, (List.range L.length).filterMap (fun i => L[i]?) = L
  | [] => rfl
  | x :: L => by
    rw [List.length_cons, List.range_succ_eq_map]
    show x :: ((List.range L.length).map Nat.succ).filterMap (fun i => (x :: L)[i]?) = x :: L
    rw [List.filterMap_map]
    exact congrArg (x :: ·) (range_get L)
theorem all_there {γ δ : Type} {g : Nat → Option γ} {k : γ → δ} {h : Nat → δ} : ∀ l : List Nat, (∀ i ∈ l, ∃ x, g i = some x ∧ k x = h i) → (l.filterMap g).map k = l.map h
  | [], _ => rfl
  | i :: l, al => by
    obtain ⟨x, e1, e2⟩ := al i List.mem_cons_self
    rw [List.filterMap_cons_some e1, List.map_cons, List.map_cons, e2, all_there l fun j hj => al j (List.mem_cons_of_mem _ hj)]
theorem rows_reordered {γ : Type} (f : γ → Int × Value) (L : List γ) (es : Array (Int × Value)) (order : Array Nat) (hr : es.toList = L.map f) (hp : order.toList.Perm (List.range L.length)) :
    ∃ L2 : List γ, (order.filterMap (es[·]?)).toList = L2.map f ∧ L2.Perm L ∧ (L2.map fun p => (f p).1) = order.toList.map fun i => (es.map (·.1)).getD i 0 := by
  have at1 : ∀ i : Nat, es[i]? = (L[i]?).map f := fun i => by rw [← Array.getElem?_toList, hr, List.getElem?_map]
  refine ⟨order.toList.filterMap fun i => L[i]?, ?_, ?_, ?_⟩
  · rw [Array.toList_filterMap, List.map_filterMap]
    exact congrArg (fun g => order.toList.filterMap g) (funext at1)
  · have h := hp.filterMap fun i => L[i]?
    rw [range_get] at h
    exact h
  · refine all_there _ fun i hi => ?_
    have lt : i < L.length := List.mem_range.mp (hp.mem_iff.mp hi)
    refine ⟨L[i], List.getElem?_eq_getElem lt, ?_⟩
    have e : (es.map (·.1))[i]? = some (f L[i]).1 := by
      rw [Array.getElem?_map, at1, List.getElem?_eq_getElem lt]
      rfl
    simp [Array.getD_eq_getD_getElem?, e]
section
variable {β : Type} [DecidableEq β] {enc : β → PyData} {P : Program} {w : World} {A : Around} {E : Value → Shared → Prop} {s : Shared} {a : Addr} {L : List (Addr × β)} {es : Array (Int × Value)} {ep : Nat} {t : SetTable}
/-- the table laid anew with more room -/
theorem ns_relay {o : Obj} (ho : s.heap.get? a = some o) (hex : o.ExactSet) (hd : o.data = .set es ep t) (rows : es.toList = L.map fun p => (kh enc w p.2, Value.ref p.1)) (sz : t.place.size = es.size) (dm : t.dummies = #[]) (le : es.size ≤ t.mask) (nd : (L.map (·.2)).Nodup) (tup : ∀ p ∈ L, KA enc s.heap p.2 p.1)
    (led : w.params.followText "set-order" = true ∨ t.led = true) (few : L.length ≤ 17) {wanted M : Nat} (hw : SetTable.sizeAbove wanted - 1 = M) (hM : MaskOk M) (small : SetTable.sizeAbove wanted ≤ 128) (room : L.length * 5 < M * 3) {Q : Unit → Shared → Prop}
    (q : ∀ h' L' es' ep' t', Heap.SameBut a s.heap h' → NS enc P w h' a L' es' ep' t' → L'.Perm L → Q () { s with heap := h' }) : wpAny (model P w) A (setRelay a wanted) Q E s := by
  have len : es.size = L.length := by
    have e := congrArg List.length rows
    rw [Array.length_toList, List.length_map] at e
    exact e
  have fit : t.fits es.size = true := by
    unfold SetTable.fits SetTable.fill
    rw [dm, Bool.and_eq_true, beq_iff_eq, decide_eq_true_eq]
    refine ⟨sz, ?_⟩
    show t.place.size + 0 ≤ t.mask
    omega
  obtain ⟨t', order, e, hp, T, em, el, _, _⟩ := relaid_ok t (hs := es.map (·.1)) (wanted := wanted) hw hM (by rw [Array.size_map, len]; omega)
  rw [Array.size_map, len] at hp
  obtain ⟨L2, r1, r2, r3⟩ := rows_reordered (fun p : Addr × β => (kh enc w p.2, Value.ref p.1)) L es order rows hp
  rw [← r3] at T
  have same : (order.filterMap (es[·]?)).size = es.size := by
    have e := congrArg List.length r1
    rw [Array.length_toList, List.length_map, r2.length_eq] at e
    rw [e, len]
  rw [setRelay_eq]
  refine wpAny_bind (wpAny_setState_of ho hd fit ?_)
  dsimp only
  refine wp_if_neg (by rw [sizeLine_eq]; omega) ?_
  try refine wpAny_bind (wpAny_pure ?_)
  rw [e]
  dsimp only
  refine wpAny_bind (wp_if_neg (by rw [same]; simp) ?_)
  try refine wpAny_bind (wpAny_pure ?_)
  refine wpAny_pure ?_
  dsimp only
  refine wpAny_storeSet_of ho hd ?_ (by rw [same, len, sizeLine_eq]; omega)
  have sb : Heap.SameBut a s.heap (s.heap.update a (Obj.putSet (order.filterMap (es[·]?)) t')) := Heap.SameBut.update _ _ _
  have kk : ∀ b ob vs n, s.heap.get? b = some ob → ob.data = .seq vs n → (s.heap.update a (Obj.putSet (order.filterMap (es[·]?)) t')).get? b = some ob := fun b ob vs n hb hbd => by
    refine (sb.2 b fun e => ?_).trans hb
    rw [e, ho] at hb
    injection hb with hb
    rw [← hb, hd] at hbd
    cases hbd
  refine q _ L2 (order.filterMap (es[·]?)) (ep + 1) t' sb ⟨⟨_, store_at ho hd, ⟨hex.1, hex.2.1, hex.2.2⟩, rfl⟩, r1, T, ?_, (r2.map (·.2)).nodup_iff.mpr nd, fun p hpm => (tup p (r2.mem_iff.mp hpm)).at kk, by rw [el]; exact led, by rw [r2.length_eq]; exact few⟩ r2
  rw [r2.length_eq, em]
  exact room
end
end K5
namespace K5
open PySem PySem.Spec PyProof.Rows L2
theorem put_mid {α : Type} (L : List α) (p : Nat) (x : α) : (L.take p ++ x :: L.drop p).Perm (x :: L) := (List.perm_middle (a := x) (l₁ := L.take p) (l₂ := L.drop p)).trans (by rw [List.take_append_drop])
theorem TabOk.like {t t2 : SetTable} {hs : List Int} (T : TabOk t hs) (e1 : t2.place = t.place) (e2 : t2.dummies = t.dummies) (e3 : t2.mask = t.mask) : TabOk t2 hs := by
  obtain ⟨h1, h2, h3, h4, h5, h6⟩ := T
  exact ⟨by rw [e1]; exact h1, by rw [e2]; exact h2, by rw [e1]; exact h3, by rw [e3]; exact h4, by rw [e1, e3]; exact h5, by rw [e1, e3]; exact h6⟩
section
variable {β : Type} [DecidableEq β] {enc : β → PyData} {P : Program} {w : World} {A : Around} {E : Value → Shared → Prop} {s : Shared} {a : Addr} {L L1 : List (Addr × β)} {es es1 : Array (Int × Value)} {ep : Nat} {t t2 : SetTable}
theorem ns_store {o : Obj} (ho : s.heap.get? a = some o) (hex : o.ExactSet) (hd : o.data = .set es ep t) (rows : es1.toList = L1.map fun p => (kh enc w p.2, Value.ref p.1)) (T : TabOk t2 (L1.map fun p => kh enc w p.2)) (nd : (L1.map (·.2)).Nodup) (tup : ∀ p ∈ L1, KA enc s.heap p.2 p.1)
    (led : w.params.followText "set-order" = true ∨ t2.led = true) (l1 : L1.length = L.length + 1) (l0 : es.size = L.length) (room : L.length * 5 < t2.mask * 3) (few : L1.length ≤ 17) {Q : Bool → Shared → Prop}
    (q : ∀ h' L' es' ep' t', Heap.SameBut a s.heap h' → NS enc P w h' a L' es' ep' t' → L'.Perm L1 → Q true { s with heap := h' }) :
    wpAny (model P w) A (do
      storeSet a es1 t2
      if !false && t2.tooFull then setRelay a (SetTable.grown (es.size + 1))
      return true) Q E s := by
  have len : es1.size = L1.length := by
    have e := congrArg List.length rows
    rw [Array.length_toList, List.length_map] at e
    exact e
  have sz : t2.place.size = es1.size := by
    have e := T.sz
    rw [List.length_map] at e
    rw [e, len]
  have hfull : t2.tooFull = decide (L1.length * 5 ≥ t2.mask * 3) := by
    unfold SetTable.tooFull SetTable.fill
    rw [T.dm, sz, len]
    rfl
  refine wpAny_bind (wpAny_storeSet_of ho hd ?_ (by rw [len, sizeLine_eq]; omega))
  have sb : Heap.SameBut a s.heap (s.heap.update a (Obj.putSet es1 t2)) := Heap.SameBut.update _ _ _
  have ho1 := store_at (es' := es1) (t' := t2) ho hd
  have kk : ∀ b ob vs n, s.heap.get? b = some ob → ob.data = .seq vs n → (s.heap.update a (Obj.putSet es1 t2)).get? b = some ob := fun b ob vs n hb hbd => by
    refine (sb.2 b fun e => ?_).trans hb
    rw [e, ho] at hb
    injection hb with hb
    rw [← hb, hd] at hbd
    cases hbd
  show wpAny _ _ _ _ _ { s with heap := s.heap.update a (Obj.putSet es1 t2) }
  generalize s.heap.update a (Obj.putSet es1 t2) = h1 at sb ho1 kk ⊢
  have tup1 : ∀ p ∈ L1, KA enc h1 p.2 p.1 := fun p hp => (tup p hp).at kk
  by_cases hf : t2.tooFull = true
  · have big : L1.length * 5 ≥ t2.mask * 3 := by
      rw [hfull] at hf
      exact of_decide_eq_true hf
    have c2 : t2.mask = 7 ∧ L.length = 4 := by
      rcases T.mok with e | e | e <;> rw [e] at big room <;> first | exact ⟨e, by omega⟩ | omega
    have go : wpAny (model P w) A (setRelay a (SetTable.grown (es.size + 1))) (fun _ s' => wpAny (model P w) A (pure true) Q E s') E { s with heap := h1 } := by
      rw [l0, c2.2]
      refine ns_relay (s := { s with heap := h1 }) (M := 31) ho1 ⟨hex.1, hex.2.1, hex.2.2⟩ rfl rows sz T.dm (by rw [len, c2.1]; omega) nd tup1 led few (by rw [size_20]) (.inr (.inl rfl)) (by rw [size_20]; decide) (by omega) fun h2 L2 es2 ep2 tt2 sb2 R2 pm2 => ?_
      exact wpAny_pure (q h2 L2 es2 ep2 tt2 (sb.trans sb2) R2 pm2)
    first
      | (refine wpAny_bind ?_; refine wp_if_pos (by simp [hf]) ?_; exact go)
      | (refine wp_if_pos (by simp [hf]) ?_; refine wpAny_bind ?_; exact go)
  · first
      | refine wp_if_neg (by simp [hf]) ?_
      | (refine wpAny_bind ?_; refine wp_if_neg (by simp [hf]) ?_; refine wpAny_pure ?_)
    refine wpAny_pure (q h1 L1 es1 (ep + 1) t2 sb ⟨⟨_, ho1, ⟨hex.1, hex.2.1, hex.2.2⟩, rfl⟩, rows, T, ?_, nd, tup1, led, few⟩ (List.Perm.refl _))
    rw [hfull] at hf
    have := of_decide_eq_false (by simpa using hf : decide (L1.length * 5 ≥ t2.mask * 3) = false)
    omega
theorem ns_add (inj : InjN enc) (R : NS enc P w s.heap a L es ep t) {x : Addr} {key : β} (hx : KA enc s.heap key x) (hu : A.units + 8 < cLine) (few : L.length + 1 ≤ 17) {Q : Bool → Shared → Prop}
    (q : ∀ b h' L' es' ep' t', Heap.SameBut a s.heap h' → NS enc P w h' a L' es' ep' t' → (key ∈ L.map (·.2) → L' = L) → (key ∉ L.map (·.2) → L'.Perm ((x, key) :: L)) → Q b { s with heap := h', toks := s.toks + (nkOf (enc key)).draws }) : wpAny (model P w) A (setAdd a (.ref x)) Q E s := by
  obtain ⟨o, ho, hex, hd⟩ := R.ob
  have fit := R.fit
  have hsz := R.sz
  have room := R.room
  unfold setAdd
  refine wpAny_holding (wpAny_bind ((nestedKind P w).pyHash hu ⟨hx.is, hx.dp⟩ ?_))
  show wpAny _ _ (setAddHashed a (.ref x) (kh enc w key)) _ _ { s with toks := s.toks + (nkOf (enc key)).draws }
  unfold setAddHashed
  rw [show (100000 : Nat) = 99999 + 1 from rfl, setAddHashedIn_succ]; refine wpAny_holding (wpAny_bind (wpAny_setState_of ho hd fit ?_)); dsimp only; refine wp_if_neg (by simp [byScan, Value.scannable]) ?_; try refine wpAny_bind (wpAny_pure ?_)
  refine wpAny_bind (nk_find inj (s := { s with toks := s.toks + (nkOf (enc key)).draws }) R hx hu (fun hm => ?_) fun M hm mo mi => ?_)
  · dsimp only
    exact wpAny_pure (q false s.heap L es ep t (Heap.SameBut.refl a s.heap) R (fun _ => rfl) fun z => absurd hm z)
  · dsimp only
    refine wpAny_bind (wpAny_setState_of ho hd fit ?_)
    dsimp only
    obtain ⟨p1, p2, p3, p4, p5, p6, p7, p8, p9⟩ := R.tab.put mo mi
    generalize t.put (way t.mask (kh enc w key) M) = pt at p1 p3 p4 p5 p6 p7 p8 p9 ⊢
    obtain ⟨t1, pl⟩ := pt
    dsimp only at p1 p3 p4 p5 p6 p7 p8 p9 ⊢
    subst p1
    have hin : (SetTable.insertAt es (SetTable.below t.place (way t.mask (kh enc w key) M)) (kh enc w key, Value.ref x)).toList = (L.take (SetTable.below t.place (way t.mask (kh enc w key) M)) ++ (x, key) :: L.drop (SetTable.below t.place (way t.mask (kh enc w key) M))).map fun p => (kh enc w p.2, Value.ref p.1) := by
      rw [SetTable.toList_insertAt, R.rows, List.map_append, List.map_cons, List.map_take, List.map_drop]
    generalize SetTable.below t.place (way t.mask (kh enc w key) M) = pos at p2 p3 hin ⊢
    have pm := put_mid L pos (x, key)
    have hl1 : (L.take pos ++ (x, key) :: L.drop pos).length = L.length + 1 := pm.length_eq
    have hh1 : (L.take pos ++ (x, key) :: L.drop pos).map (fun p => kh enc w p.2) = (L.map fun p => kh enc w p.2).take pos ++ kh enc w key :: (L.map fun p => kh enc w p.2).drop pos := by
      rw [List.map_append, List.map_cons, List.map_take, List.map_drop]
    rw [← hh1] at p3
    have nd1 : ((L.take pos ++ (x, key) :: L.drop pos).map (·.2)).Nodup := (pm.map (·.2)).nodup_iff.mpr (List.nodup_cons.mpr ⟨hm, R.nd⟩)
    generalize SetTable.insertAt es pos (kh enc w key, Value.ref x) = es1 at hin ⊢
    generalize L.take pos ++ (x, key) :: L.drop pos = L1 at pm hl1 p3 nd1 hin
    have fin : ∀ t2 : SetTable, t2.place = t1.place → t2.dummies = t1.dummies → t2.mask = t1.mask → t2.led = t1.led →
        wpAny (model P w) A (do
          storeSet a es1 t2
          if !false && t2.tooFull then setRelay a (SetTable.grown (es.size + 1))
          return true) Q E { s with toks := s.toks + (nkOf (enc key)).draws } := fun t2 e1 e2 e3 e4 => by
      refine ns_store (s := { s with toks := s.toks + (nkOf (enc key)).draws }) ho hex hd hin (TabOk.like p3 e1 e2 e3) nd1 (fun p hp => ?_) (by rw [e4, p5]; exact R.led) hl1 hsz (by rw [e3, p4]; exact room) (by omega) fun h' L' es' ep' t' sb R' pm' => ?_
      · rcases List.mem_cons.mp (pm.mem_iff.mp hp) with e | hp
        · rw [e]
          exact hx
        · exact R.tup p hp
      · exact q true h' L' es' ep' t' sb R' (fun z => absurd z hm) fun _ => pm'.trans pm
    obtain ⟨bv, hb⟩ := KA.hashB (P := P) (w := w) (s := { s with toks := s.toks + (nkOf (enc key)).draws }) hx
    by_cases pp : t1.plain = true
    · first
        | (refine wpAny_bind ?_; refine wp_if_pos pp ?_; refine hb _ _ _ ?_)
        | refine wp_if_pos pp (wpAny_bind (hb _ _ _ ?_))
      cases bv with
      | true => exact fin t1 rfl rfl rfl rfl
      | false => exact fin { t1 with plain := false } rfl rfl rfl rfl
    · first
        | (refine wpAny_bind ?_; refine wp_if_neg pp ?_; refine wpAny_pure ?_)
        | refine wp_if_neg pp ?_
      try refine wpAny_bind (wpAny_pure ?_)
      exact fin t1 rfl rfl rfl rfl
end
end K5
namespace K5
open PySem PySem.Spec PyProof.Rows L2
theorem perm_pre {γ δ : Type} {f : γ → δ} {l : List δ} {m : List δ} (h : l.Perm m) : ∀ {L : List γ}, m = L.map f → ∃ L' : List γ, L'.Perm L ∧ l = L'.map f := by
  induction h with
  | nil =>
    intro L e
    cases L with
    | nil => exact ⟨[], .nil, rfl⟩
    | cons x L => cases e
  | @cons x l m h ih =>
    intro L e
    cases L with
    | nil => cases e
    | cons y L =>
      rw [List.map_cons] at e
      injection e with e1 e2
      obtain ⟨L', p, q⟩ := ih e2
      exact ⟨y :: L', p.cons y, by rw [List.map_cons, e1, q]⟩
  | swap x y l =>
    intro L e
    match L, e with
    | u :: v :: L, e =>
      rw [List.map_cons, List.map_cons] at e
      injection e with e1 e2
      injection e2 with e2 e3
      exact ⟨v :: u :: L, .swap u v L, by rw [List.map_cons, List.map_cons, e1, e2, e3]⟩
  | trans h1 h2 ih1 ih2 =>
    intro L e
    obtain ⟨L1, p1, q1⟩ := ih2 e
    obtain ⟨L2, p2, q2⟩ := ih1 q1
    exact ⟨L2, p2.trans p1, q2⟩
section
variable {β : Type} [DecidableEq β] {enc : β → PyData} {P : Program} {w : World} {A : Around} {E : Value → Shared → Prop} {s : Shared}
theorem set_nks (inj : InjN enc) {l : Addr} {items : Array Value} {ks : List (Addr × β)} {Q : Value → Shared → Prop} (hh : A.handled = none) (hl : s.heap.IsList l items) (hk : items.toList = ks.map fun p => Value.ref p.1) (ka : ∀ p ∈ ks, KA enc s.heap p.2 p.1) (few : ks.length ≤ 16) (hu : A.units + 20 < cLine)
    (fin : ∀ (h' : Heap) (t' : Nat) (L : List (Addr × β)) (es : Array (Int × Value)) (ep : Nat) (t : SetTable), NS enc P w h' s.heap.objs.size L es ep t → (∀ p ∈ L, p ∈ ks) → (∀ p ∈ ks, p.2 ∈ L.map (·.2)) → (∀ b o, s.heap.get? b = some o → h'.get? b = some o) → Q (.ref s.heap.objs.size) { s with heap := h', toks := t' }) : wpAny (model P w) A (call (.type "set") [.ref l]) Q E s := by
  have sz : items.size = ks.length := by
    have e := congrArg List.length hk
    rw [Array.length_toList, List.length_map] at e
    exact e
  have S0 : s.heap.get? s.heap.objs.size = none := by
    cases e : s.heap.get? s.heap.objs.size with
    | none => rfl
    | some o => exact absurd (Heap.lt_size e) (Nat.lt_irrefl _)
  refine set_from (J := fun i h => (∀ b o, s.heap.get? b = some o → h.get? b = some o) ∧ ∃ (L : List (Addr × β)) (es : Array (Int × Value)) (ep : Nat) (t : SetTable), NS enc P w h s.heap.objs.size L es ep t ∧ (∀ p ∈ L, p ∈ ks.take i) ∧ (∀ p ∈ ks.take i, p.2 ∈ L.map fun y : Addr × β => y.2) ∧ L.length ≤ i)
    hh hl (fun h hs old => ⟨old, ?_⟩) (fun i h h' ⟨old, L, es, ep, t, R, g1, g2, g3⟩ kk => ⟨fun b o e => kk b o (Nat.le_of_lt (Heap.lt_size e)) (old b o e), L, es, ep, t, ?_, g1, g2, g3⟩) (fun B i v s1 E' Q' hB hv ⟨old, L, es, ep, t, R, g1, g2, g3⟩ q => ?_) (fun h' t' ⟨old, L, es, ep, t, R, g1, g2, g3⟩ kk => ?_)
  · refine ⟨[], #[], 0, .fresh 0 0 (!w.params.followText "set-order"), ⟨⟨_, hs, ⟨rfl, rfl, rfl⟩, rfl⟩, rfl, ⟨List.Pairwise.nil, rfl, rfl, .inl rfl, (fun x hx => by cases hx), (fun i h j hi => by simp at hi)⟩, (show 0 * 5 < 7 * 3 by decide), List.nodup_nil, (fun p hp => by cases hp), ?_, Nat.zero_le _⟩, (fun p hp => by cases hp), (fun p hp => by simp at hp), Nat.le_refl _⟩
    show _ ∨ (!w.params.followText "set-order") = true
    cases w.params.followText "set-order"
    · exact .inr rfl
    · exact .inl rfl
  · obtain ⟨⟨o, ho, r⟩, R2, R3, R4, R5, R6, R7, R8⟩ := R
    exact ⟨⟨o, kk _ _ (Nat.le_refl _) ho, r⟩, R2, R3, R4, R5, fun p hp => (ka p (List.mem_of_mem_take (g1 p hp))).at fun b o vs n e _ => kk b o (Nat.le_of_lt (Heap.lt_size e)) (old b o e), R7, R8⟩
  · have hv2 : (ks.map fun p => Value.ref p.1)[i]? = some v := by
      rw [← hk, Array.getElem?_toList]
      exact hv
    rw [List.getElem?_map] at hv2
    obtain ⟨p, ep0, rfl⟩ : ∃ p, ks[i]? = some p ∧ v = .ref p.1 := by
      cases e : ks[i]? with
      | none =>
        rw [e] at hv2
        cases hv2
      | some p =>
        rw [e] at hv2
        exact ⟨p, rfl, (Option.some.inj hv2).symm⟩
    have il := (List.getElem?_eq_some_iff.mp ep0).1
    have hx : KA enc s1.heap p.2 p.1 := (ka p (List.mem_of_getElem? ep0)).at fun b o vs n e _ => old b o e
    refine ns_add inj R hx (by omega) (by omega) fun b h' L' es' ep' t' sb R' m1 m2 => q b h' _ sb ⟨fun c o e => (sb.2 c fun z => by rw [z, S0] at e; cases e).trans (old c o e), L', es', ep', t', R', ?_⟩ (Nat.le_add_right _ _)
    rw [List.take_add_one, ep0]
    by_cases hm : p.2 ∈ L.map (·.2)
    · rw [m1 hm]
      refine ⟨fun x hx => List.mem_append_left _ (g1 x hx), fun x hx => ?_, by omega⟩
      rcases List.mem_append.mp hx with h | h
      · exact g2 x h
      · rw [List.mem_singleton.mp h]
        exact hm
    · have pm := m2 hm
      refine ⟨fun x hx => ?_, fun x hx => ?_, by rw [pm.length_eq, List.length_cons]; omega⟩
      · rcases List.mem_cons.mp (pm.mem_iff.mp hx) with h | h
        · rw [h]
          exact List.mem_append_right _ (List.mem_singleton.mpr rfl)
        · exact List.mem_append_left _ (g1 x h)
      · refine (pm.map (·.2)).mem_iff.mpr ?_
        rcases List.mem_append.mp hx with h | h
        · exact List.mem_cons_of_mem _ (g2 x h)
        · rw [List.mem_singleton.mp h]
          exact List.mem_cons_self
  · rw [sz, List.take_length] at g1 g2
    exact fin h' t' L es ep t R g1 g2 old
end
end K5
namespace K5
open PySem PySem.Spec PyProof.Rows L2
/-! ### sorted(set(xs)), xs a list of nested keys -/
theorem boot_sorted2 : bootBuiltins (Str.ofString "sorted") = some (.builtin "sorted") := by decide +kernel
section
variable {β : Type} [DecidableEq β] {X : Cx} {a : Expr} {ta : TE} {p p2 q pos : Pos}
def tSortedSetN (K : PySem.W.Frag) (enc : β → PyData) (ta : TE) : TE := fun σ H Q => ta σ H fun x H1 => ∃ (l : Addr) (ts : List Addr) (ks : List β), x = .ref l ∧ SqL K H1 l (ts.map V.ref) ∧ Trs H1 (ts.map V.ref) (ks.map enc) ∧ ks.length ≤ 16 ∧ (∀ k ∈ ks, (nkOf (enc k)).depth ≤ 8) ∧ PySem.W.AllAlike (ks.map enc) ∧ (∀ b, ∃ x r, enc b = .tuple (x :: r)) ∧ (∀ k ∈ ks, (enc k).depth ≤ 8) ∧
  ∀ (dd : List β) (ts' : List Addr) (p : Addr), dd.Nodup → (∀ k, k ∈ dd ↔ k ∈ ks) → H1 p = none → Trs H1 (ts'.map V.ref) ((sortB enc dd).map enc) → Q (.ref p) (upd H1 p (.lst (ts'.map V.ref)))
/-- each key with its place -/
theorem zip_keys {enc : β → PyData} {H : Hp} : ∀ {ts : List Addr} {ks : List β}, Trs H (ts.map V.ref) (ks.map enc) → ∃ zs : List (Addr × β), zs.map (·.1) = ts ∧ zs.map (·.2) = ks ∧ ∀ z ∈ zs, Tr H (.ref z.1) (enc z.2)
  | [], [], _ => ⟨[], rfl, rfl, fun z h => nomatch h⟩
  | [], _ :: _, h => by cases h
  | _ :: _, [], h => by cases h
  | t :: ts, k :: ks, h => by
    rw [List.map_cons, List.map_cons] at h
    cases h with
    | cons h1 h2 =>
      obtain ⟨zs, e1, e2, e3⟩ := zip_keys h2
      refine ⟨(t, k) :: zs, by rw [List.map_cons, e1], by rw [List.map_cons, e2], fun z hz => ?_⟩
      rcases List.mem_cons.mp hz with e | hz
      · rw [e]
        exact h1
      · exact e3 z hz
theorem each_back {enc : β → PyData} {H : Hp} : ∀ {out : List Value} {cs : List (Addr × β)}, PySem.W.EachIs (fun v (b : Addr × β) => v = .ref b.1 ∧ Tr H (.ref b.1) (enc b.2)) out cs → ∃ ts' : List Addr, out = ts'.map Value.ref ∧ Trs H (ts'.map V.ref) ((cs.map (·.2)).map enc)
  | _, _, .nil => ⟨[], rfl, .nil⟩
  | _, _, .cons (b := b) h t => by
    obtain ⟨ts', rfl, pr⟩ := each_back t
    exact ⟨b.1 :: ts', by rw [h.1]; rfl, .cons h.2 pr⟩
theorem pe_sortedSetN {enc : β → PyData} (inj : InjN enc) (hc : X.calm = true) (hu : X.A.units + 64 < cLine) (hg : Gl X "sorted") (hm : X.mg "sorted" = none) (hg2 : Gl X "set") (hm2 : X.mg "set" = none) (ha : PE X a ta)
    (na : starEach [a] X.env = (false, eval a X.env) :: starEach [] X.env := by rfl) : PE X (.Call (.Name "sorted" p) [.Call (.Name "set" p2) [a] [] q] [] pos) (tSortedSetN X.K enc ta) := by
  refine ⟨fun pins s σ H Q I h => Call_ (ld_blt I hg hm boot_sorted2 (PyProof.Rows.callWith_builtin1 (PyProof.Rows.args_cons ?_ rfl) rfl rfl))⟩
  refine Call_ (ld_blt I hg2 hm2 boot_set (PyProof.Rows.callWith_type1 (PyProof.Rows.args_cons (thn (ha.run pins s σ H _ I h) fun v s1 ⟨x, H1, I1, r1, q1⟩ => PyProof.Rows.args_nil ?_) na) na rfl))
  obtain ⟨l, ts, ks, rfl, hq, tr, few, dp, al, tup, dep, q1⟩ := q1
  cases r1
  obtain ⟨its, r, pl, hz⟩ := I1.list hq
  obtain ⟨zs, z1, z2, z3⟩ := zip_keys tr
  have hits : its = zs.map fun p => Value.ref p.1 := by
    have e : ∀ {ts : List Addr} {us : List Value}, Vals (ts.map V.ref) us → us = ts.map Value.ref := by
      intro ts
      induction ts with
      | nil => intro us r; cases r; rfl
      | cons t ts ih =>
        intro us r
        cases r with
        | cons r1 r2 => cases r1; rw [ih r2]; rfl
    rw [e r, ← z1, List.map_map]
    rfl
  refine set_nks (ks := zs) inj (I1.ok.hd hc) pl.isList (by simpa using hits) (fun p hp => ⟨(z3 p hp).nested I1 rfl, dp _ (by rw [← z2]; exact List.mem_map.mpr ⟨p, hp, rfl⟩)⟩) (by rw [← z2, List.length_map] at few; exact few) (by omega) fun h' tk L es ep t R m1 m2 kk => PyProof.Rows.args_nil ?_
  have I2 : Inv X pins σ H1 { s1 with heap := h', toks := tk } := I1.kept kk
  obtain ⟨o, ho, hex, hd⟩ := R.ob
  have fewL := R.few
  have sz := R.sz
  refine Calls.call_function_entry PyProof.Rows.kind_sorted PyProof.Rows.plain_sorted PyProof.Rows.entry_sorted (PyProof.Rows.args_sorted1 _) ?_
  unfold Builtin.«sorted»
  refine wpAny_bind (m := checkCount "sorted" 1 1 _) (wpAny_pure ?_)
  refine wpAny_bind (collect_set (A := X.A.in1) (I2.ok.hd hc) ⟨o, ho, hex.1, hd⟩ R.fit (by rw [sz]; unfold scanBound; omega) R.tab.ris R.led fun s2 vs k1 hz1 g1 o1 pm => ?_)
  have pm' : vs.Perm (L.map fun p => Value.ref p.1) := by
    have e : es.toList.map (·.2) = L.map fun p => Value.ref p.1 := by
      rw [R.rows, List.map_map]
      rfl
    rw [← e]
    exact pm
  obtain ⟨L', pL, rfl⟩ := perm_pre pm' rfl
  have lL : L'.length = L.length := pL.length_eq
  have I3 : Inv X pins σ H1 s2 := by
    have e : s2 = { s1 with heap := s2.heap, gens := s2.gens, drawn := s2.drawn, toks := s2.toks } := by
      cases s2; cases s1; cases o1; rfl
    rw [e]
    exact Inv.call (s := { s1 with heap := h', toks := tk }) (ch := []) I2 (Un.kept k1) (I2.hok.kept k1) (by rw [g1]; exact I2.bare) (fun _ z => nomatch z)
  have hz3 : ∀ z ∈ L', z ∈ zs := fun z hz => m1 z (pL.mem_iff.mp hz)
  refine wpAny_bind (wpAny_newList ?_ (by rw [List.length_map, lL, sizeLine_eq]; omega))
  have hoL : (s2.heap.push (seqObj "list" (L'.map fun p => Value.ref p.1).toArray 0)).get? s2.heap.objs.size = some (seqObj "list" (L'.map fun p => Value.ref p.1).toArray 0) := Heap.get?_push_size _ rfl
  have each : PySem.W.EachIs (fun v (b : Addr × β) => v = .ref b.1 ∧ Tr H1 (.ref b.1) (enc b.2)) (L'.map fun p => Value.ref p.1) L' := by
    have e : ∀ (M : List (Addr × β)), (∀ z ∈ M, z ∈ zs) → PySem.W.EachIs (fun v (b : Addr × β) => v = .ref b.1 ∧ Tr H1 (.ref b.1) (enc b.2)) (M.map fun p => Value.ref p.1) M := by
      intro M
      induction M with
      | nil => intro _; exact .nil
      | cons z M ih =>
        intro h
        exact .cons ⟨rfl, z3 z (h z List.mem_cons_self)⟩ (ih fun y hy => h y (List.mem_cons_of_mem _ hy))
    exact e L' hz3
  have rd : PySem.W.EachIs (fun v (b : Addr × β) => ∃ as, Reads (s2.heap.push (seqObj "list" (L'.map fun p => Value.ref p.1).toArray 0)) v (enc b.2) as ∧ s2.heap.objs.size ∉ as) (L'.map fun p => Value.ref p.1) L' :=
    each.mono fun v b ⟨e1, e2⟩ => ⟨[], Tr.readsIn I3 (fun c o e => Heap.get?_push_of_some _ e) e2 (show RelV (.ref b.1) v from e1), by simp⟩
  have inKs : ∀ b ∈ L', b.2 ∈ ks := fun b hb => by
    rw [← z2]
    exact List.mem_map.mpr ⟨b, hz3 b hb, rfl⟩
  refine wpAny_bind (wpAny_holding (PySem.W.list_sort_data (enc := fun b : Addr × β => enc b.2) (s := { s2 with heap := s2.heap.push (seqObj "list" (L'.map fun p => Value.ref p.1).toArray 0) }) hoL each rd ?_ (PySem.W.Sortable.tuples fun b => tup b.2) (by rw [lL, sizeLine_eq]; omega) (fun b hb => ?_) fun out lo2 eo => ?_))
  · intro d hd1 d' hd2
    obtain ⟨b, hb, rfl⟩ := List.mem_map.mp hd1
    obtain ⟨b', hb', rfl⟩ := List.mem_map.mp hd2
    exact al _ (List.mem_map.mpr ⟨b.2, inKs b hb, rfl⟩) _ (List.mem_map.mpr ⟨b'.2, inKs b' hb', rfl⟩)
  · show X.A.units + 1 + 1 + (enc b.2).depth < cLine
    have := dep _ (inKs b hb)
    omega
  · obtain ⟨e', he'⟩ := PyProof.Rows.sortedHeap_at (vs := L'.map fun p => Value.ref p.1) (out := out.toArray) hoL
    have em : (L'.mergeSort (PySem.W.dataLe false fun b : Addr × β => enc b.2)).map (·.2) = sortB enc (L'.map (·.2)) := List.map_mergeSort fun _ _ _ _ => rfl
    generalize (L'.mergeSort (PySem.W.dataLe false fun b : Addr × β => enc b.2)) = cs at eo em
    obtain ⟨ts', rfl, pts⟩ := each_back eo
    rw [em] at pts
    have nd' : (L'.map (·.2)).Nodup := (pL.map (·.2)).nodup_iff.mpr R.nd
    have hlen : (ts'.map V.ref).length ≤ sizeLine := by
      have e1 := Trs.len pts
      have e3 : (sortB enc (L'.map (·.2))).length = (L'.map (·.2)).length := List.length_mergeSort ..
      rw [List.length_map, List.length_map, e3, List.length_map] at e1
      rw [List.length_map, sizeLine_eq]
      omega
    have hkeep : ∀ b u, s2.heap.get? b = some u → (PyProof.Rows.sortedHeap (s2.heap.push (seqObj "list" (L'.map fun p => Value.ref p.1).toArray 0)) s2.heap.objs.size (L'.map fun p => Value.ref p.1) (ts'.map Value.ref).toArray).get? b = some u := fun b u e => by
      have hb : b < s2.heap.objs.size := Heap.lt_size e
      rw [PyProof.Rows.sortedHeap_old (Nat.ne_of_lt hb) (by rw [size_push']; exact Nat.lt_succ_of_lt hb)]
      exact Heap.get?_push_of_some _ e
    refine wpAny_pure ⟨_, rfl, .ref s2.heap.objs.size, upd H1 s2.heap.objs.size (.lst (ts'.map V.ref)), I3.laid (t' := s2.toks) hkeep (Nat.le_refl _)
      (show ObjOk X.prog X.w _ _ _ (.lst (ts'.map V.ref)) from ⟨hlen, ts'.map Value.ref, e', vals_refs ts', he'⟩), rfl, q1 (L'.map (·.2)) ts' _ nd' (fun k => ⟨fun h => ?_, fun h => ?_⟩) (I3.hok.fresh (Nat.le_refl _)) pts⟩
    · obtain ⟨b, hb, rfl⟩ := List.mem_map.mp h
      exact inKs b hb
    · rw [← z2] at h
      obtain ⟨z, hz', rfl⟩ := List.mem_map.mp h
      exact (pL.map (·.2)).mem_iff.mpr (m2 z hz')
end
end K5
namespace K5
open PySem PySem.Spec PyProof.Rows L2
/-! ### steps, typed; what they do -/
inductive Src where
  | worth (i : Int) | cell (k : Nat) | it | got
  deriving DecidableEq
def Src.w : Src → Str × Int
  | .worth i => ("worth", i)
  | .cell k => ("cell", (k : Nat))
  | .it => ("it", 0)
  | .got => ("got", 0)
def Src.d (s : Src) : PyData := .tuple [.str s.w.1, .int s.w.2]
inductive Cnd where
  | lost | busy | cmp (e : Bool) (a b : Src)
  deriving DecidableEq
def Cnd.d : Cnd → PyData
  | .lost => .tuple [.str "lost"]
  | .busy => .tuple [.str "busy"]
  | .cmp e a b => .tuple [.str (if e = true then "=" else "!="), a.d, b.d]
inductive Stp where
  | set (k : Nat) (s : Src) | add (k : Nat) (s : Src) | draw (k : Nat) | ask (p d : Str) (s : Src) (n : Nat) | answer (s : Src) | fail | unl (c : Cnd) (t : Nat) | jump (t : Nat)
  deriving DecidableEq
def Stp.d : Stp → PyData
  | .set k s => .tuple [.str "set", .int (k : Nat), s.d]
  | .add k s => .tuple [.str "add", .int (k : Nat), s.d]
  | .draw k => .tuple [.str "draw", .int (k : Nat)]
  | .ask p d s n => .tuple [.str "ask", .str p, .str d, s.d, .int (n : Nat)]
  | .answer s => .tuple [.str "answer", s.d]
  | .fail => .tuple [.str "fail"]
  | .unl c t => .tuple [.str "unless", c.d, .int (t : Nat)]
  | .jump t => .tuple [.str "jump", .int (t : Nat)]
def srcV (cells : List Int) (it hd : Int) : Src → Option Int
  | .worth i => some i
  | .cell k => cells[k]?
  | .it => some it
  | .got => some (if (0 : Int) > hd then 0 else hd)
def cndV (cells : List Int) (it hd : Int) : Cnd → Option Bool
  | .lost => some (decide (hd = -1))
  | .busy => some (decide (hd = -2))
  | .cmp e a b => match srcV cells it hd a, srcV cells it hd b with
    | some x, some y => some (decide (decide (x = y) = e))
    | _, _ => none
theorem val_lenT {K : PySem.W.Frag} {σ : L2.St} {H : Hp} {ta : TE} {p : Addr} {xs : List V} (h : Val ta σ H (.ref p)) (hS : SqT K H p xs) : Val (tCB (rLenSq K) (tCons ta tNil)) σ H (.int xs.length) := fun Q q => h _ ⟨p, xs, rfl, .inr hS, q⟩
theorem val_ixT {K : PySem.W.Frag} {σ : L2.St} {H : Hp} {ta tb : TE} {i : Int} {p : Addr} {xs : List V} {v : V} (ha : Val ta σ H (.ref p)) (hb : Val tb σ H (.int i)) (hS : SqT K H p xs) (h : atI xs i = some v) : Val (tOp (rIxT K) ta tb) σ H v :=
  val_op ha hb fun Q q => ⟨p, xs, i, v, rfl, rfl, hS, h, q⟩
theorem src_at {H : Hp} {p : Addr} {s : Src} (h : Tr H (.ref p) s.d) : H p = some (.tup [.str s.w.1, .int s.w.2]) := by
  unfold Src.d at h
  cases h with
  | tup h r =>
    cases r with
    | cons r1 r2 =>
      cases r2 with
      | cons r2 r3 =>
        cases r3
        cases r1
        cases r2
        exact h
/-- cells: a tuple of whole numbers -/
def ClAt (H : Hp) (c : Addr) (cells : List Int) : Prop := H c = some (.tup (cells.map V.int))
def spWorthOf : Sp := fun vs H Q _ => ∃ (p c : Addr) (s : Src) (cells : List Int) (it hd v : Int), vs = [.ref p, .ref c, .int it, .int hd] ∧ Tr H (.ref p) s.d ∧ ClAt H c cells ∧ srcV cells it hd s = some v ∧ Q (.int v) H
def spPut : Sp := fun vs H Q _ => ∃ (c : Addr) (cells : List Int) (k : Nat) (v : Int), vs = [.ref c, .int (k : Nat), .int v] ∧ ClAt H c cells ∧ k < cells.length ∧ cells.length ≤ 1000 ∧ ∀ (H' : Hp) (p : Addr), Same H H' → ClAt H' p (cells.set k v) → Q (.ref p) H'
def spHolds : Sp := fun vs H Q _ => ∃ (p c : Addr) (t : Cnd) (cells : List Int) (it hd : Int) (b : Bool), vs = [.ref p, .ref c, .int it, .int hd] ∧ Tr H (.ref p) t.d ∧ ClAt H c cells ∧ cndV cells it hd t = some b ∧ Q (.bl b) H
abbrev s_worth_of : Stmt := topS 26
theorem sc_worth_of : FnScope ["source", "cells", "it", "heard", "word", "at"] ["source", "cells", "it", "heard"] (defScope s_worth_of) := ⟨rfl, rfl, rfl, by decide +kernel, rfl, by decide +kernel, by decide +kernel⟩
abbrev s_holds : Stmt := topS 27
theorem sc_holds : FnScope ["test", "cells", "it", "heard", "alike"] ["test", "cells", "it", "heard"] (defScope s_holds) := ⟨rfl, rfl, rfl, by decide +kernel, rfl, by decide +kernel, by decide +kernel⟩
abbrev s_put : Stmt := topS 28
theorem sc_put : FnScope ["row", "at", "worth"] ["row", "at", "worth"] (defScope s_put) := ⟨rfl, rfl, rfl, by decide +kernel, rfl, by decide +kernel, by decide +kernel⟩
section
variable {P : Program} {w : World} {K : PySem.W.Frag} {mg : Str → Option Value} {base : Heap}
theorem ok_worth_of {f : Addr} {fd : FuncData} (B : Bt mg) (D : Df K mg "worth_of" s_worth_of f fd ["source", "cells", "it", "heard"]) : FnOk P w K mg base CX0 1 f fd ["source", "cells", "it", "heard"] spWorthOf := by
  refine D.F.ok sc_worth_of (fun vs H Q E h => ?_) (fun cdv A outer s H vs Q E hr h => ?_)
  · obtain ⟨p, c, s, cells, it, hd, v, rfl, _⟩ := h
    rfl
  · obtain ⟨p, c, s, cells, it, hd, v, rfl, hp, hc, hv, k⟩ := h
    have S := sc_worth_of
    refine ⟨_, (pss_cons (ps_asg (pv 0) (pg_tup (by rfl) (pgs_cons (pg_name (i := 4) S.nd rfl (.inl rfl)) (pgs_cons (pg_name (i := 5) S.nd rfl (.inl rfl)) pgs_nil))))
      (pss_cons (ps_if (pt_cmpR op_eq (pv 4) pe_str (nomark _)) (pss_one (ps_ret (pe_ix ix_tup (pv 1) (pv 5) (fun _ _ => rfl)))) pss_nil)
      (pss_cons (ps_if (pt_cmpR op_eq (pv 4) pe_str (nomark _)) (pss_one (ps_ret (pv 2))) pss_nil)
      (pss_one (ps_ret (pe_ifExp (pt_cmpR op_eq (pv 4) pe_str (nomark _)) (pe_callB (call_max2 rfl) (by rfl) B.m_max (by decide +kernel) (pa_cons (pv 3) (pa_cons pe_int pa_nil))) (pv 5))))))), ?_⟩
    have hp := src_at hp
    dsimp only [tNext, tSeq, tAsg]
    refine (val_var rfl) _ ?_
    refine ⟨p, _, rfl, SqT.of hp, rfl, _, _, rfl, _, _, rfl, rfl, ?_⟩
    try dsimp only [gName, List.set]
    have vis : ∀ (y : Str), Ans (tTest (tOp rEq (tVar 4) (tC (.str y)))) [some (.ref p), some (.ref c), some (.int it), some (.int hd), some (.str s.w.1), some (.int s.w.2)] H (decide (s.w.1 = y)) := fun y Q2 q2 => by
      refine (ans_eq2 (val_var rfl) val_c rfl) _ ?_
      rw [dec_str]
      exact q2
    dsimp only [tSeq, tIfS]
    refine (vis "cell") _ ?_
    cases s with
    | cell i =>
      refine iteT ?_
      refine (val_ixT (val_var rfl) (val_var rfl) (SqT.of hc) ?_) _ k
      refine atI_nat (j := i) ?_
      rw [List.getElem?_map, show cells[i]? = some v from hv]
      rfl
    | it =>
      refine iteF ?_
      dsimp only [tNext, tSeq, tIfS]
      refine (vis "it") _ (iteT ?_)
      cases hv
      exact (val_var rfl) _ k
    | got =>
      refine iteF ?_
      dsimp only [tNext, tSeq, tIfS]
      refine (vis "it") _ (iteF ?_)
      dsimp only [tNext, tRet, tIf]
      refine (vis "got") _ (iteT ?_)
      cases hv
      exact (va_cons (val_var rfl) (va_cons val_c va_nil)) _ ⟨_, _, rfl, k⟩
    | worth i =>
      refine iteF ?_
      dsimp only [tNext, tSeq, tIfS]
      refine (vis "it") _ (iteF ?_)
      dsimp only [tNext, tRet, tIf]
      refine (vis "got") _ (iteF ?_)
      cases hv
      exact (val_var rfl) _ k
end
end K5
namespace K5
open PySem PySem.Spec PyProof.Rows L2
theorem Cnd.one {H : Hp} {p : Addr} {x : Str} (h : Tr H (.ref p) (.tuple [.str x])) : H p = some (.tup [.str x]) := by
  cases h with
  | tup h r =>
    cases r with
    | cons r1 r2 =>
      cases r2
      cases r1
      exact h
theorem tup_cases {H : Hp} {p : Addr} {ds : List PyData} (h : Tr H (.ref p) (.tuple ds)) : ∃ vs, H p = some (.tup vs) ∧ Trs H vs ds := by
  cases h with
  | tup h r => exact ⟨_, h, r⟩
theorem trs_cons {H : Hp} {vs : List V} {d : PyData} {ds : List PyData} (h : Trs H vs (d :: ds)) : ∃ v ws, vs = v :: ws ∧ Tr H v d ∧ Trs H ws ds := by
  cases h with
  | cons a b => exact ⟨_, _, rfl, a, b⟩
theorem trs_nil {H : Hp} {vs : List V} (h : Trs H vs []) : vs = [] := by
  cases h
  rfl
theorem tr_str {H : Hp} {v : V} {x : Str} (h : Tr H v (.str x)) : v = .str x := by
  cases h
  rfl
theorem tr_int {H : Hp} {v : V} {x : Int} (h : Tr H v (.int x)) : v = .int x := by
  cases h
  rfl
theorem tr_ref {H : Hp} {v : V} {ds : List PyData} (h : Tr H v (.tuple ds)) : ∃ a, v = .ref a := by
  cases h
  exact ⟨_, rfl⟩
section
variable {P : Program} {w : World} {K : PySem.W.Frag} {mg : Str → Option Value} {base : Heap}
theorem ok_holds {f fW : Addr} {fd dW : FuncData} (B : Bt mg) (gL : ∃ t, mg "LOST" = some (.int (-1) t)) (gB : ∃ t, mg "BUSY" = some (.int (-2) t)) (D : Df K mg "holds" s_holds f fd ["test", "cells", "it", "heard"]) (DW : Df K mg "worth_of" s_worth_of fW dW ["source", "cells", "it", "heard"]) : FnOk P w K mg base CX0 2 f fd ["test", "cells", "it", "heard"] spHolds := by
  have GW : FnOk P w K mg base CX0 1 fW dW ["source", "cells", "it", "heard"] spWorthOf := ok_worth_of B DW
  obtain ⟨tL, gL⟩ := gL
  obtain ⟨tB, gB⟩ := gB
  refine D.F.ok sc_holds (fun vs H Q E h => ?_) (fun cdv A outer s H vs Q E hr h => ?_)
  · obtain ⟨p, c, t, cells, it, hd, b, rfl, _⟩ := h
    rfl
  · obtain ⟨p, c, t, cells, it, hd, b, rfl, hp, hc, hb, k⟩ := h
    have S := sc_holds
    refine ⟨_, (pss_cons (ps_if (pt_cmpR op_eq (pe_ix ix_tup (pv 0) pe_int (fun _ _ => rfl)) pe_str (nomark _)) (pss_one (ps_ret (pe_cmpR op_eq (pv 3) (pe_glob (v := .int (-1)) (by rfl) gL ⟨_, rfl⟩) (nomark _)))) pss_nil)
      (pss_cons (ps_if (pt_cmpR op_eq (pe_ix ix_tup (pv 0) pe_int (fun _ _ => rfl)) pe_str (nomark _)) (pss_one (ps_ret (pe_cmpR op_eq (pv 3) (pe_glob (v := .int (-2)) (by rfl) gB ⟨_, rfl⟩) (nomark _)))) pss_nil)
      (pss_cons (ps_set (i := 4) S.nd rfl (.inl rfl) (pe_cmpR op_eq (pe_call GW (hr.mono (by decide)) (by rfl) DW.g DW.F.kp DW.b .nil pass0 (pa_cons (pe_ix ix_tup (pv 0) pe_int (fun _ _ => rfl)) (pa_cons (pv 1) (pa_cons (pv 2) (pa_cons (pv 3) pa_nil))))) (pe_call GW (hr.mono (by decide)) (by rfl) DW.g DW.F.kp DW.b .nil pass0 (pa_cons (pe_ix ix_tup (pv 0) pe_int (fun _ _ => rfl)) (pa_cons (pv 1) (pa_cons (pv 2) (pa_cons (pv 3) pa_nil))))) (nomark _)))
      (pss_one (ps_ret (pe_cmpR op_eq (pv 4) (pe_cmpR op_eq (pe_ix ix_tup (pv 0) pe_int (fun _ _ => rfl)) pe_str (nomark _)) (nomark _))))))), ?_⟩
    have vis : ∀ {y : Str} {vs : List V} (x : Str) (σ : L2.St) (H' : Hp), σ[0]? = some (some (.ref p)) → H' p = some (.tup (.str y :: vs)) → Ans (tTest (tOp rEq (tOp (rIxT K) (tVar 0) (tC (.int 0))) (tC (.str x)))) σ H' (decide (y = x)) := fun x σ H' h0 hp Q2 q2 => by
      refine (ans_eq2 (val_ixT (val_var h0) val_c (SqT.of hp) (atI_nat (j := 0) rfl)) val_c rfl) _ ?_
      rw [dec_str]
      exact q2
    have num : ∀ i j : Int, decide (V.int i = V.int j) = decide (i = j) := fun i j => decide_eq_decide.mpr ⟨fun e => by injection e, fun e => by rw [e]⟩
    dsimp only [tSeq, tIfS]
    cases t with
    | lost =>
      have hp := Cnd.one hp
      refine (vis "lost" _ _ rfl hp) _ (iteT ?_)
      cases hb
      refine (val_op (z := .bl (decide (hd = -1))) (val_var rfl) val_c fun Q q => ⟨rfl, by rw [num]; exact q⟩) _ k
    | busy =>
      have hp := Cnd.one hp
      refine (vis "lost" _ _ rfl hp) _ (iteF ?_)
      dsimp only [tNext, tSeq, tIfS]
      refine (vis "busy" _ _ rfl hp) _ (iteT ?_)
      cases hb
      refine (val_op (z := .bl (decide (hd = -2))) (val_var rfl) val_c fun Q q => ⟨rfl, by rw [num]; exact q⟩) _ k
    | cmp e a b' =>
      obtain ⟨vs, hp, r⟩ := tup_cases hp
      obtain ⟨v0, ws, rfl, r0, r⟩ := trs_cons r
      obtain ⟨v1, ws, rfl, r1, r⟩ := trs_cons r
      obtain ⟨v2, ws, rfl, r2, r⟩ := trs_cons r
      obtain rfl := trs_nil r
      obtain rfl := tr_str r0
      obtain ⟨pa, rfl⟩ := tr_ref r1
      obtain ⟨pb, rfl⟩ := tr_ref r2
      refine (vis "lost" _ _ rfl hp) _ ?_
      rw [show decide ((if e = true then ("=" : Str) else "!=") = "lost") = false by cases e <;> decide +kernel]
      refine iteF ?_
      dsimp only [tNext, tSeq, tIfS]
      refine (vis "busy" _ _ rfl hp) _ ?_
      rw [show decide ((if e = true then ("=" : Str) else "!=") = "busy") = false by cases e <;> decide +kernel]
      refine iteF ?_
      dsimp only [tNext, tSeq, tAsg]
      dsimp only [cndV] at hb
      cases ea : srcV cells it hd a with
      | none => rw [ea] at hb; cases hb
      | some x =>
        cases eb : srcV cells it hd b' with
        | none => rw [ea, eb] at hb; cases hb
        | some y =>
          rw [ea, eb] at hb
          cases hb
          refine (val_op (z := .bl (decide (x = y))) (val_call (va_cons (val_ixT (val_var rfl) val_c (SqT.of hp) (atI_nat (j := 1) rfl)) (va_cons (val_var rfl) (va_cons (val_var rfl) (va_cons (val_var rfl) va_nil)))) fun Q q => ⟨pa, c, a, cells, it, hd, x, rfl, r1, hc, ea, q⟩)
            (val_call (va_cons (val_ixT (val_var rfl) val_c (SqT.of hp) (atI_nat (j := 2) rfl)) (va_cons (val_var rfl) (va_cons (val_var rfl) (va_cons (val_var rfl) va_nil)))) fun Q q => ⟨pb, c, b', cells, it, hd, y, rfl, r2, hc, eb, q⟩) fun Q q => ⟨rfl, by rw [num]; exact q⟩) _ ?_
          dsimp only [gName, tRet]
          refine (val_op (z := .bl (decide (decide (x = y) = e))) (val_var rfl) (val_op (z := .bl e) (val_ixT (val_var rfl) val_c (SqT.of hp) (atI_nat (j := 0) rfl)) val_c fun Q q => ⟨rfl, ?_⟩) fun Q q => ⟨rfl, ?_⟩) _ k
          · rw [dec_str, show decide ((if e = true then ("=" : Str) else "!=") = "=") = e by cases e <;> decide +kernel]
            exact q
          · rw [show decide (V.bl (decide (x = y)) = V.bl e) = decide (decide (x = y) = e) from decide_eq_decide.mpr ⟨fun e => by injection e, fun e => by rw [e]⟩]
            exact q
theorem cut_whole {xs : List V} {lo hi : Option Int} (z : HT.sIx xs.length 0 lo = 0 ∧ HT.sIx xs.length xs.length hi = xs.length) : cutV xs lo hi = xs := by
  unfold cutV
  rw [z.1, z.2, List.drop_zero, Nat.sub_zero, List.take_length]
theorem cut_to (xs : List V) (k : Nat) : cutV xs none (some (k : Int)) = xs.take k := by
  unfold cutV
  rw [HT.sIx_none, HT.sIx_nat, List.drop_zero, Nat.sub_zero]
  exact List.take_eq_take_min.symm
theorem cut_from (xs : List V) (k : Nat) : cutV xs (some (k : Int)) none = xs.drop k := by
  unfold cutV
  rw [HT.sIx_none, HT.sIx_nat]
  by_cases h : k ≤ xs.length
  · rw [Nat.min_eq_left h]
    exact List.take_of_length_le (by rw [List.length_drop]; exact Nat.le_refl _)
  · rw [Nat.min_eq_right (by omega), List.drop_length, List.drop_eq_nil_of_le (by omega)]
    exact List.take_nil
/-- t[lo:hi], whatever is cut -/
theorem rSlA_of {K : PySem.W.Frag} {H : Hp} {lo hi : Option Int} {a : Addr} {xs : List V} {Q : VK} (hx : H a = some (.tup xs)) (q : ∀ H' p, Same H H' → H' p = some (.tup (cutV xs lo hi)) → Q (.ref p) H') : rSlA K (.ref a) lo hi H Q :=
  ⟨a, xs, rfl, SqT.of hx, fun z => q H a (Same.refl _) (by rw [cut_whole z]; exact hx), fun _ p np => q _ p (same_upd np) upd_same⟩
/-- t + u -/
theorem val_catA {K : PySem.W.Frag} {H : Hp} {a b : Addr} {xs ys : List V} {Q : VK} (ha : H a = some (.tup xs)) (hb : H b = some (.tup ys)) (hl : xs.length + ys.length ≤ 10000) (q : ∀ H' p, Same H H' → H' p = some (.tup (xs ++ ys)) → Q (.ref p) H') : rCatA K (.ref a) (.ref b) H Q :=
  ⟨a, b, xs, ys, rfl, rfl, SqT.of ha, SqT.of hb, by rw [sizeLine_eq]; omega, fun e => q H b (Same.refl _) (by rw [e]; exact hb), fun _ e => q H a (Same.refl _) (by rw [e, List.append_nil]; exact ha), fun _ _ p np => q _ p (same_upd np) upd_same⟩
theorem ok_put {f : Addr} {fd : FuncData} (D : Df K mg "put" s_put f fd ["row", "at", "worth"]) : FnOk P w K mg base CX0 1 f fd ["row", "at", "worth"] spPut := by
  refine D.F.ok sc_put (fun vs H Q E h => ?_) (fun cdv A outer s H vs Q E hr h => ?_)
  · obtain ⟨c, cells, k, v, rfl, _⟩ := h
    rfl
  · obtain ⟨c, cells, k, v, rfl, hc, hk, hl, q⟩ := h
    have S := sc_put
    refine ⟨_, (pss_one (ps_ret (pe_op op_catA (pe_op op_catA (pe_slice sl_tupA (pv 0) po_none (po_some (pv 1))) (pe_tup (pa_cons (pv 2) pa_nil))) (pe_slice sl_tupA (pv 0) (po_some (pe_op op_add (pv 1) pe_int)) po_none)))), ?_⟩
    dsimp only [tRet, tOp, tSl, tNoPart, tPart]
    refine (val_var rfl) _ ?_
    refine (val_var rfl) _ ⟨_, rfl, ?_⟩
    refine rSlA_of hc fun H1 p1 s1 h1 => ?_
    rw [cut_to] at h1
    refine (val_var rfl) _ ⟨by show 1 ≤ sizeLine; decide, fun p2 np2 => ?_⟩
    have s2 := same_upd (o := .tup [V.int v]) np2
    refine val_catA (s2 _ _ h1) upd_same ?_ fun H3 p3 s3 h3 => ?_
    · rw [List.length_take, List.length_map]
      show _ + 1 ≤ _
      omega
    · refine (val_var rfl) _ ?_
      refine (val_i0 (val_var rfl) val_c) _ ⟨_, rfl, ?_⟩
      have s13 := (s1.trans s2).trans s3
      refine rSlA_of (s13 _ _ hc) fun H4 p4 s4 h4 => ?_
      rw [show ((k : Int) + 1) = ((k + 1 : Nat) : Int) from rfl, cut_from] at h4
      refine val_catA (s4 _ _ h3) h4 ?_ fun H5 p5 s5 h5 => ?_
      · simp only [List.length_append, List.length_take, List.length_drop, List.length_map, List.length_cons, List.length_nil]
        omega
      · refine q H5 p5 ((s13.trans s4).trans s5) ?_
        have e : (cells.set k v).map V.int = (cells.map V.int).take k ++ [V.int v] ++ (cells.map V.int).drop (k + 1) := by
          rw [List.set_eq_take_append_cons_drop, if_pos hk, List.map_append, List.map_cons, List.map_take, List.map_drop]
          simp
        unfold ClAt
        rw [e]
        exact h5
end
end K5
namespace K5
open PySem PySem.Spec PyProof.Rows L2
/-! ### deeds -/
inductive Deed where
  | gives (v : Int) | asks (p d : Str) (v : Int)
  deriving DecidableEq
def Deed.d : Deed → PyData
  | .gives v => .tuple [.str "gives", .int v]
  | .asks p d v => .tuple [.str "asks", .str p, .str d, .int v]
def waitD : Option (Nat × Int) → PyData
  | none => .tuple []
  | some q => .tuple [.int (q.1 : Nat), .int q.2]
def cellsD (cells : List Int) : PyData := .tuple (cells.map PyData.int)
/-- an inner: cells, and what it waits for -/
abbrev Inn := List Int × Option (Nat × Int)
def innD (i : Inn) : PyData := .tuple [cellsD i.1, waitD i.2]
abbrev Item := Deed × Inn
def itemD (r : Item) : PyData := .tuple [r.1.d, innD r.2]
def endOf (cells : List Int) (it hd : Int) : Stp → Option Item
  | .ask p d s n => (srcV cells it hd s).map fun v => (.asks p d v, cells, some (n, it))
  | .answer s => (srcV cells it hd s).map fun v => (.gives v, cells, none)
  | .fail => some (.gives (-1), cells, none)
  | _ => none
theorem trs_ints {H : Hp} : ∀ cells : List Int, Trs H (cells.map V.int) (cells.map PyData.int)
  | [] => .nil
  | i :: r => .cons (.int i) (trs_ints r)
theorem ClAt.tr {H : Hp} {c : Addr} {cells : List Int} (h : ClAt H c cells) : Tr H (.ref c) (cellsD cells) := .tup h (trs_ints cells)
def spDeedOf : Sp := fun vs H Q _ => ∃ (p c : Addr) (st : Stp) (cells : List Int) (it hd : Int) (R : Item), vs = [.ref p, .ref c, .int it, .int hd] ∧ Tr H (.ref p) st.d ∧ ClAt H c cells ∧ endOf cells it hd st = some R ∧ ∀ (H' : Hp) (q : Addr), Same H H' → Tr H' (.ref q) (itemD R) → Q (.ref q) H'
abbrev s_deed_of : Stmt := topS 24
abbrev nmDeed : List Str := ["step", "cells", "it", "heard", "_", "port", "door", "source", "line"]
theorem sc_deed_of : FnScope nmDeed ["step", "cells", "it", "heard"] (defScope s_deed_of) := ⟨rfl, rfl, rfl, by decide +kernel, rfl, by decide +kernel, by decide +kernel⟩
section
variable {P : Program} {w : World} {K : PySem.W.Frag} {mg : Str → Option Value} {base : Heap}
theorem ok_deed_of {f fW : Addr} {fd dW : FuncData} (B : Bt mg) (gL : ∃ t, mg "LOST" = some (.int (-1) t)) (D : Df K mg "deed_of" s_deed_of f fd ["step", "cells", "it", "heard"]) (DW : Df K mg "worth_of" s_worth_of fW dW ["source", "cells", "it", "heard"]) : FnOk P w K mg base CX0 2 f fd ["step", "cells", "it", "heard"] spDeedOf := by
  have GW : FnOk P w K mg base CX0 1 fW dW ["source", "cells", "it", "heard"] spWorthOf := ok_worth_of B DW
  obtain ⟨tL, gL⟩ := gL
  refine D.F.ok sc_deed_of (fun vs H Q E h => ?_) (fun cdv A outer s H vs Q E hr h => ?_)
  · obtain ⟨p, c, st, cells, it, hd, R, rfl, _⟩ := h
    rfl
  · obtain ⟨p, c, st, cells, it, hd, R, rfl, hp, hc, hR, k⟩ := h
    have S := sc_deed_of
    refine ⟨_, (pss_cons (ps_if (pt_cmpR op_eq (pe_ix ix_tup (pv 0) pe_int (fun _ _ => rfl)) pe_str (nomark _))
        (pss_cons (ps_asg (pv 0) (pg_tup (by rfl) (pgs_cons (pg_name (i := 4) S.nd rfl (.inl rfl)) (pgs_cons (pg_name (i := 5) S.nd rfl (.inl rfl)) (pgs_cons (pg_name (i := 6) S.nd rfl (.inl rfl)) (pgs_cons (pg_name (i := 7) S.nd rfl (.inl rfl)) (pgs_cons (pg_name (i := 8) S.nd rfl (.inl rfl)) pgs_nil)))))))
        (pss_one (ps_ret (pe_tup (pa_cons (pe_tup (pa_cons pe_str (pa_cons (pv 5) (pa_cons (pv 6) (pa_cons (pe_call GW (hr.mono (by decide)) (by rfl) DW.g DW.F.kp DW.b .nil pass0 (pa_cons (pv 7) (pa_cons (pv 1) (pa_cons (pv 2) (pa_cons (pv 3) pa_nil))))) pa_nil)))))
          (pa_cons (pe_tup (pa_cons (pv 1) (pa_cons (pe_tup (pa_cons (pv 8) (pa_cons (pv 2) pa_nil))) pa_nil))) pa_nil)))))) pss_nil)
      (pss_cons (ps_if (pt_cmpR op_eq (pe_ix ix_tup (pv 0) pe_int (fun _ _ => rfl)) pe_str (nomark _))
        (pss_one (ps_ret (pe_tup (pa_cons (pe_tup (pa_cons pe_str (pa_cons (pe_call GW (hr.mono (by decide)) (by rfl) DW.g DW.F.kp DW.b .nil pass0 (pa_cons (pe_ix ix_tup (pv 0) pe_int (fun _ _ => rfl)) (pa_cons (pv 1) (pa_cons (pv 2) (pa_cons (pv 3) pa_nil))))) pa_nil))) (pa_cons (pe_tup (pa_cons (pv 1) (pa_cons (pe_tup pa_nil) pa_nil))) pa_nil))))) pss_nil)
      (pss_one (ps_ret (pe_tup (pa_cons (pe_tup (pa_cons pe_str (pa_cons (pe_glob (v := .int (-1)) (by rfl) gL ⟨_, rfl⟩) pa_nil))) (pa_cons (pe_tup (pa_cons (pv 1) (pa_cons (pe_tup pa_nil) pa_nil))) pa_nil))))))), ?_⟩
    have vis : ∀ {y : Str} {vs : List V} (x : Str) (σ : L2.St) (H' : Hp), σ[0]? = some (some (.ref p)) → H' p = some (.tup (.str y :: vs)) → Ans (tTest (tOp rEq (tOp (rIxT K) (tVar 0) (tC (.int 0))) (tC (.str x)))) σ H' (decide (y = x)) := fun x σ H' h0 hp Q2 q2 => by
      refine (ans_eq2 (val_ixT (val_var h0) val_c (SqT.of hp) (atI_nat (j := 0) rfl)) val_c rfl) _ ?_
      rw [dec_str]
      exact q2
    have fin : ∀ (v : Int) (H1 : Hp) (e : Addr), R = (.gives v, cells, none) → Same H H1 → H1 e = some (.tup [.str "gives", .int v]) → (tTup (tCons (tVar 1) (tCons (tTup tNil) tNil))) [some (.ref p), some (.ref c), some (.int it), some (.int hd), none, none, none, none, none] H1 fun x H2 => 2 ≤ sizeLine ∧ ∀ q, H2 q = none → Q (.ref q) (upd H2 q (.tup [.ref e, x])) := by
      intro v H1 e eR s1 he
      subst eR
      dsimp only [tTup, tCons, tNil]
      refine (val_var rfl) _ ?_
      refine ⟨by show 0 ≤ sizeLine; decide, fun q2 n2 => ?_⟩
      have s2 := same_upd (o := .tup []) n2
      refine ⟨by show 2 ≤ sizeLine; decide, fun q3 n3 => ?_⟩
      have s3 := same_upd (o := .tup [.ref c, .ref q2]) n3
      refine ⟨by decide, fun q4 n4 => ?_⟩
      have s4 := same_upd (o := .tup [.ref e, .ref q3]) n4
      refine k _ q4 (((s1.trans s2).trans s3).trans s4) (tr2 upd_same ?_ ?_)
      · exact tr2 (s4 _ _ (s3 _ _ (s2 _ _ he))) (.str _) (.int _)
      · refine tr2 (s4 _ _ upd_same) ?_ (.tup (s4 _ _ (s3 _ _ upd_same)) .nil)
        have hc4 : ClAt (upd (upd (upd H1 q2 (.tup [])) q3 (.tup [.ref c, .ref q2])) q4 (.tup [.ref e, .ref q3])) c cells := s4 _ _ (s3 _ _ (s2 _ _ (s1 _ _ hc)))
        exact hc4.tr
    dsimp only [tSeq, tIfS]
    cases st with
    | ask po d sr n =>
      obtain ⟨vs, hp, r⟩ := tup_cases hp
      obtain ⟨v0, ws, rfl, r0, r⟩ := trs_cons r
      obtain ⟨v1, ws, rfl, r1, r⟩ := trs_cons r
      obtain ⟨v2, ws, rfl, r2, r⟩ := trs_cons r
      obtain ⟨v3, ws, rfl, r3, r⟩ := trs_cons r
      obtain ⟨v4, ws, rfl, r4, r⟩ := trs_cons r
      obtain rfl := trs_nil r
      obtain rfl := tr_str r0
      obtain rfl := tr_str r1
      obtain rfl := tr_str r2
      obtain ⟨ps, rfl⟩ := tr_ref r3
      obtain rfl := tr_int r4
      refine (vis "ask" _ _ rfl hp) _ (iteT ?_)
      dsimp only [tSeq, tAsg]
      refine (val_var rfl) _ ?_
      refine ⟨p, _, rfl, SqT.of hp, rfl, _, _, rfl, _, _, rfl, _, _, rfl, _, _, rfl, _, _, rfl, rfl, ?_⟩
      try dsimp only [gName, List.set]
      dsimp only [tRet, tTup, tCons, tNil, tC]
      refine (val_var rfl) _ ((val_var rfl) _ ?_)
      obtain ⟨v, ev, rfl⟩ := Option.map_eq_some_iff.mp (show (srcV cells it hd sr).map _ = some R from hR)
      refine (val_call (va_cons (val_var rfl) (va_cons (val_var rfl) (va_cons (val_var rfl) (va_cons (val_var rfl) va_nil)))) fun Q q => ⟨ps, c, sr, cells, it, hd, v, rfl, r3, hc, ev, q⟩) _ ?_
      refine ⟨by show 4 ≤ sizeLine; decide, fun q1 n1 => ?_⟩
      have s1 := same_upd (o := .tup [.str "asks", .str po, .str d, .int v]) n1
      refine (val_var rfl) _ ((val_var rfl) _ ((val_var rfl) _ ?_))
      refine ⟨by show 2 ≤ sizeLine; decide, fun q2 n2 => ?_⟩
      have s2 := same_upd (o := .tup [.int (n : Nat), .int it]) n2
      refine ⟨by show 2 ≤ sizeLine; decide, fun q3 n3 => ?_⟩
      have s3 := same_upd (o := .tup [.ref c, .ref q2]) n3
      refine ⟨by show 2 ≤ sizeLine; decide, fun q4 n4 => ?_⟩
      have s4 := same_upd (o := .tup [.ref q1, .ref q3]) n4
      refine k _ q4 (((s1.trans s2).trans s3).trans s4) (tr2 upd_same ?_ ?_)
      · exact .tup (s4 _ _ (s3 _ _ (s2 _ _ upd_same))) (.cons (.str _) (.cons (.str _) (.cons (.str _) (.cons (.int _) .nil))))
      · refine tr2 (s4 _ _ upd_same) (ClAt.tr (s4 _ _ (s3 _ _ (s2 _ _ (s1 _ _ hc))))) (tr2 (s4 _ _ (s3 _ _ upd_same)) (.int _) (.int _))
    | answer sr =>
      obtain ⟨vs, hp, r⟩ := tup_cases hp
      obtain ⟨v0, ws, rfl, r0, r⟩ := trs_cons r
      obtain ⟨v1, ws, rfl, r1, r⟩ := trs_cons r
      obtain rfl := trs_nil r
      obtain rfl := tr_str r0
      obtain ⟨ps, rfl⟩ := tr_ref r1
      refine (vis "ask" _ _ rfl hp) _ (iteF ?_)
      dsimp only [tNext, tSeq, tIfS]
      refine (vis "answer" _ _ rfl hp) _ (iteT ?_)
      obtain ⟨v, ev, rfl⟩ := Option.map_eq_some_iff.mp (show (srcV cells it hd sr).map _ = some R from hR)
      refine (val_call (va_cons (val_ixT (val_var rfl) val_c (SqT.of hp) (atI_nat (j := 1) rfl)) (va_cons (val_var rfl) (va_cons (val_var rfl) (va_cons (val_var rfl) va_nil)))) fun Q q => ⟨ps, c, sr, cells, it, hd, v, rfl, r1, hc, ev, q⟩) _ ?_
      refine ⟨by show 2 ≤ sizeLine; decide, fun q1 n1 => ?_⟩
      exact fin v _ q1 rfl (same_upd n1) upd_same
    | fail =>
      obtain ⟨vs, hp, r⟩ := tup_cases hp
      obtain ⟨v0, ws, rfl, r0, r⟩ := trs_cons r
      obtain rfl := trs_nil r
      obtain rfl := tr_str r0
      refine (vis "ask" _ _ rfl hp) _ (iteF ?_)
      dsimp only [tNext, tSeq, tIfS]
      refine (vis "answer" _ _ rfl hp) _ (iteF ?_)
      dsimp only [tNext, tRet]
      cases hR
      refine ⟨by show 2 ≤ sizeLine; decide, fun q1 n1 => ?_⟩
      exact fin (-1) _ q1 rfl (same_upd n1) upd_same
    | _ => cases hR
end
end K5
namespace K5
open PySem PySem.Spec PyProof.Rows L2
/-! ### places -/
abbrev Place := Nat × List Int
def plD (p : Place) : PyData := .tuple [.int (p.1 : Nat), cellsD p.2]
def nextOf (wn at_ : Nat) (cells : List Int) (it hd : Int) : Stp → Option (List Place)
  | .jump t => some [(t, cells)]
  | .unl c t => (cndV cells it hd c).map fun b => [(if b = true then at_ + 1 else t, cells)]
  | .draw k => if k < cells.length then some ((List.range wn).map fun v => (at_ + 1, cells.set k ((v : Nat) : Int))) else none
  | .set k s => if k < cells.length then (srcV cells it hd s).map fun v => [(at_ + 1, cells.set k v)] else none
  | .add k s => if k < cells.length then (srcV cells it hd s).map fun v => [(at_ + 1, cells.set k ((cells.getD k 0 + v) % (wn : Int)))] else none
  | _ => none
/-- the part at a has these steps -/
structure PrAt (Pt da : Addr) (H : Hp) (a : Addr) (wn : Nat) (y : V) (D : PD) (pr : List Stp) : Prop where
  p : PtAt Pt da H a (.int (wn : Nat)) y D
  ds : D.ds = pr.map Stp.d
  w2 : 2 ≤ wn
  w4 : wn ≤ 4
theorem PtF.mono {Pt da : Addr} {H H' : Hp} {a : Addr} {x y : V} {D : PD} {ct pt sd dt stp ak : Addr} {ts : List Addr} {xs : List V} {kvs : List (Key × V)} (h : PtF Pt da H a x y D ct pt sd dt stp ak ts xs kvs) (e : Same H H') : PtF Pt da H' a x y D ct pt sd dt stp ak ts xs kvs where
  o := e _ _ h.o
  ct := e _ _ h.ct
  ts := pairs_to h.ts fun b zs q => e _ _ q
  pt := e _ _ h.pt
  sd := e _ _ h.sd
  dt := e _ _ h.dt
  stp := e _ _ h.stp
  sx := h.sx.mono e
  ak := e _ _ h.ak
  ax := h.ax.keep fun _ _ q => e _ _ q
theorem PrAt.mono {Pt da : Addr} {H H' : Hp} {a : Addr} {wn : Nat} {y : V} {D : PD} {pr : List Stp} (h : PrAt Pt da H a wn y D pr) (e : Same H H') : PrAt Pt da H' a wn y D pr := by
  obtain ⟨⟨ct, pt, sd, dt, stp, ak, ts, xs, kvs, f⟩, d, w2, w4⟩ := h
  exact ⟨⟨ct, pt, sd, dt, stp, ak, ts, xs, kvs, f.mono e⟩, d, w2, w4⟩
section
variable {x y : V} {ct pt sd dt stp ak : Addr}
theorem pF_worths : (partF x y ct pt sd dt stp ak).lookup ("worths" : Str) = some x := lk_hd
theorem pF_cells : (partF x y ct pt sd dt stp ak).lookup ("cells" : Str) = some (.ref ct) := (lk_tl (by decide +kernel)).trans ((lk_tl (by decide +kernel)).trans lk_hd)
theorem pF_starts : (partF x y ct pt sd dt stp ak).lookup ("starts" : Str) = some (.ref sd) := (lk_tl (by decide +kernel)).trans ((lk_tl (by decide +kernel)).trans ((lk_tl (by decide +kernel)).trans ((lk_tl (by decide +kernel)).trans lk_hd)))
theorem pF_doors : (partF x y ct pt sd dt stp ak).lookup ("doors" : Str) = some (.ref dt) := (lk_tl (by decide +kernel)).trans ((lk_tl (by decide +kernel)).trans ((lk_tl (by decide +kernel)).trans ((lk_tl (by decide +kernel)).trans ((lk_tl (by decide +kernel)).trans lk_hd))))
theorem pF_steps : (partF x y ct pt sd dt stp ak).lookup ("steps" : Str) = some (.ref stp) := (lk_tl (by decide +kernel)).trans ((lk_tl (by decide +kernel)).trans ((lk_tl (by decide +kernel)).trans ((lk_tl (by decide +kernel)).trans ((lk_tl (by decide +kernel)).trans ((lk_tl (by decide +kernel)).trans lk_hd)))))
theorem pF_asks : (partF x y ct pt sd dt stp ak).lookup ("asks" : Str) = some (.ref ak) := (lk_tl (by decide +kernel)).trans ((lk_tl (by decide +kernel)).trans ((lk_tl (by decide +kernel)).trans ((lk_tl (by decide +kernel)).trans ((lk_tl (by decide +kernel)).trans ((lk_tl (by decide +kernel)).trans ((lk_tl (by decide +kernel)).trans lk_hd))))))
end
theorem ClT.at {K : PySem.W.Frag} {C : Addr} (c : ClT K C) {x : Str} (h : x ∈ (["worths", "text", "cells", "ports", "starts", "doors", "steps", "asks"] : List Str)) : NoAttr K C x := c.na x h
def spBehind (Pt : Addr) : Sp := fun vs H Q _ => ∃ (a c da : Addr) (at_ wn : Nat) (y : V) (D : PD) (pr : List Stp) (st : Stp) (cells : List Int) (it hd : Int) (L : List Place), vs = [.ref a, .int (at_ : Nat), .ref c, .int it, .int hd] ∧ PrAt Pt da H a wn y D pr ∧ pr[at_]? = some st ∧ ClAt H c cells ∧ cells.length ≤ 1000 ∧
  nextOf wn at_ cells it hd st = some L ∧ ∀ (H' : Hp) (l : Addr) (ts : List Addr), Same H H' → H' l = some (.lst (ts.map V.ref)) → H l = none → Trs H' (ts.map V.ref) (L.map plD) → Q (.ref l) H'
abbrev s_places_behind : Stmt := topS 25
abbrev nmBeh : List Str := ["part", "at", "cells", "it", "heard", "step", "cell", "worth"]
theorem sc_places_behind : FnScope nmBeh ["part", "at", "cells", "it", "heard"] (defScope s_places_behind) := ⟨rfl, rfl, rfl, by decide +kernel, rfl, by decide +kernel, by decide +kernel⟩
section
variable {P : Program} {w : World} {K : PySem.W.Frag} {mg : Str → Option Value} {base : Heap} {Pt : Addr}
theorem ok_places_behind {f fW fP fH : Addr} {fd dW dP dH : FuncData} (B : Bt mg) (CC : ClT K Pt) (gL : ∃ t, mg "LOST" = some (.int (-1) t)) (gB : ∃ t, mg "BUSY" = some (.int (-2) t)) (D : Df K mg "places_behind" s_places_behind f fd ["part", "at", "cells", "it", "heard"]) (DW : Df K mg "worth_of" s_worth_of fW dW ["source", "cells", "it", "heard"]) (DP : Df K mg "put" s_put fP dP ["row", "at", "worth"]) (DH : Df K mg "holds" s_holds fH dH ["test", "cells", "it", "heard"]) :
    FnOk P w K mg base CX0 3 f fd ["part", "at", "cells", "it", "heard"] (spBehind Pt) := by
  have GW : FnOk P w K mg base CX0 1 fW dW ["source", "cells", "it", "heard"] spWorthOf := ok_worth_of B DW
  have GH : FnOk P w K mg base CX0 2 fH dH ["test", "cells", "it", "heard"] spHolds := ok_holds B gL gB DH DW
  have GP : FnOk P w K mg base CX0 1 fP dP ["row", "at", "worth"] spPut := ok_put DP
  refine D.F.ok sc_places_behind (fun vs H Q E h => ?_) (fun cdv A outer s H vs Q E hr h => ?_)
  · obtain ⟨a, c, da, at_, wn, y, DD, pr, st, cells, it, hd, L, rfl, _⟩ := h
    rfl
  · obtain ⟨a, c, da, at_, wn, y, DD, pr, st, cells, it, hd, L, rfl, pa, hst, hc, lc, hL, k⟩ := h
    have S := sc_places_behind
    refine ⟨_, (pss_cons (ps_set (i := 5) S.nd rfl (.inl rfl) (pe_ix ix_tup (pe_fld (pv 0) rfl) (pv 1) (fun _ _ => rfl)))
      (pss_cons (ps_if (pt_cmpR op_eq (pe_ix ix_tup (pv 5) pe_int (fun _ _ => rfl)) pe_str (nomark _))
        (pss_one (ps_ret (pe_lst (pa_cons (pe_tup (pa_cons (pe_ix ix_tup (pv 5) pe_int (fun _ _ => rfl)) (pa_cons (pv 2) pa_nil))) pa_nil)))) pss_nil)
      (pss_cons (ps_if (pt_cmpR op_eq (pe_ix ix_tup (pv 5) pe_int (fun _ _ => rfl)) pe_str (nomark _))
        (pss_one (ps_ret (pe_lst (pa_cons (pe_tup (pa_cons (pe_ifExp (pt_val (pe_call GH (hr.mono (by decide)) (by rfl) DH.g DH.F.kp DH.b .nil pass0 (pa_cons (pe_ix ix_tup (pv 5) pe_int (fun _ _ => rfl)) (pa_cons (pv 2) (pa_cons (pv 3) (pa_cons (pv 4) pa_nil)))))) (pe_op op_add (pv 1) pe_int) (pe_ix ix_tup (pv 5) pe_int (fun _ _ => rfl))) (pa_cons (pv 2) pa_nil))) pa_nil)))) pss_nil)
      (pss_cons (ps_set (i := 6) S.nd rfl (.inr rfl) (pe_ix ix_tup (pv 5) pe_int (fun _ _ => rfl)))
      (pss_cons (ps_if (pt_cmpR op_eq (pe_ix ix_tup (pv 5) pe_int (fun _ _ => rfl)) pe_str (nomark _))
        (pss_one (ps_ret (pe_lc (own := [("worth", 7)]) (g := gName 7) (tt := tYes) rfl S.nd (pi_range1 (by rfl) B.m_range (pa_cons (pe_fld (pv 0) rfl) pa_nil)) (blkOk_by (own := [("worth", 7)]) (N := nmBeh) (sc := defScope s_places_behind) (by decide +kernel)) (fun _ _ _ _ _ => pg_name (i := 7) S.nd rfl (Or.inl rfl)) (fun _ _ _ _ _ => pts_nil)
          (fun _ _ _ _ _ => pe_tup (pa_cons (pe_op op_add (pv 1) pe_int) (pa_cons (pe_call GP (hr.mono (by decide)) (by rfl) DP.g DP.F.kp DP.b .nil pass0 (pa_cons (pv 2) (pa_cons (pv 6) (pa_cons (pv 7) pa_nil)))) pa_nil)))))) pss_nil)
      (pss_cons (ps_set (i := 7) S.nd rfl (.inl rfl) (pe_call GW (hr.mono (by decide)) (by rfl) DW.g DW.F.kp DW.b .nil pass0 (pa_cons (pe_ix ix_tup (pv 5) pe_int (fun _ _ => rfl)) (pa_cons (pv 2) (pa_cons (pv 3) (pa_cons (pv 4) pa_nil))))))
      (pss_cons (ps_if (pt_cmpR op_eq (pe_ix ix_tup (pv 5) pe_int (fun _ _ => rfl)) pe_str (nomark _))
        (pss_one (ps_set (i := 7) S.nd rfl (.inl rfl) (pe_op op_mod (pe_op op_add (pe_ix ix_tup (pv 2) (pv 6) (fun _ _ => rfl)) (pv 7)) (pe_fld (pv 0) rfl)))) pss_nil)
      (pss_one (ps_ret (pe_lst (pa_cons (pe_tup (pa_cons (pe_op op_add (pv 1) pe_int) (pa_cons (pe_call GP (hr.mono (by decide)) (by rfl) DP.g DP.F.kp DP.b .nil pass0 (pa_cons (pv 2) (pa_cons (pv 6) (pa_cons (pv 7) pa_nil)))) pa_nil))) pa_nil))))))))))), ?_⟩
    obtain ⟨⟨ct, pt, sd, dt, stp, ak, ts0, xs, kvs, F⟩, eds, w2, w4⟩ := id pa
    obtain ⟨v0, hx, tr0⟩ := F.sx.get (j := at_) (d := st.d) (by rw [eds, List.getElem?_map, hst]; rfl)
    obtain ⟨ps, rfl⟩ : ∃ ps, v0 = .ref ps := by
      cases st <;> exact tr_ref tr0
    dsimp only [tNext, tSeq, tAsg]
    refine (val_ixT (val_fld (val_var rfl) F.o CC.cl (CC.at (by decide +kernel)) pF_steps) (val_var rfl) (SqT.of F.stp) (atI_nat hx)) _ ?_
    dsimp only [gName]
    have vis : ∀ {y : Str} {vs : List V} (x : Str) (σ : L2.St) (H' : Hp), σ[5]? = some (some (.ref ps)) → H' ps = some (.tup (.str y :: vs)) → Ans (tTest (tOp rEq (tOp (rIxT K) (tVar 5) (tC (.int 0))) (tC (.str x)))) σ H' (decide (y = x)) := fun x σ H' h0 hp Q2 q2 => by
      refine (ans_eq2 (val_ixT (val_var h0) val_c (SqT.of hp) (atI_nat (j := 0) rfl)) val_c rfl) _ ?_
      rw [dec_str]
      exact q2
    have fin : ∀ (n : Nat) (cl : List Int) (c' : Addr) (H1 : Hp), L = [(n, cl)] → Same H H1 → ClAt H1 c' cl → 2 ≤ sizeLine ∧ ∀ q, H1 q = none → (1 ≤ sizeLine ∧ ∀ l, (upd H1 q (.tup [.int (n : Nat), .ref c'])) l = none → Q (.ref l) (upd (upd H1 q (.tup [.int (n : Nat), .ref c'])) l (.lst [.ref q]))) := by
      intro n cl c' H1 eL s1 h1
      subst eL
      refine ⟨by decide, fun q nq => ⟨by decide, fun l nl => ?_⟩⟩
      have s2 := same_upd (o := .tup [.int (n : Nat), .ref c']) nq
      have s3 := same_upd (o := .lst [V.ref q]) nl
      refine k _ l [q] ((s1.trans s2).trans s3) upd_same ((s1.trans s2).free nl) (.cons ?_ .nil)
      exact tr2 (s3 _ _ upd_same) (.int _) (ClAt.tr (s3 _ _ (s2 _ _ h1)))
    dsimp only [tSeq, tIfS]
    cases st with
    | jump t =>
      obtain ⟨vs, hp, r⟩ := tup_cases tr0
      obtain ⟨v0, ws, rfl, r0, r⟩ := trs_cons r
      obtain ⟨v1, ws, rfl, r1, r⟩ := trs_cons r
      obtain rfl := trs_nil r
      obtain rfl := tr_str r0
      obtain rfl := tr_int r1
      refine (vis "jump" _ _ rfl hp) _ (iteT ?_)
      cases hL
      dsimp only [tRet, tLst, tTup, tCons, tNil]
      refine (val_ixT (val_var rfl) val_c (SqT.of hp) (atI_nat (j := 1) rfl)) _ ((val_var rfl) _ ?_)
      exact fin t cells c H rfl (Same.refl _) hc
    | unl t1 t2 =>
      obtain ⟨vs, hp, r⟩ := tup_cases tr0
      obtain ⟨v0, ws, rfl, r0, r⟩ := trs_cons r
      obtain ⟨v1, ws, rfl, r1, r⟩ := trs_cons r
      obtain ⟨v2, ws, rfl, r2, r⟩ := trs_cons r
      obtain rfl := trs_nil r
      obtain rfl := tr_str r0
      obtain ⟨pc, rfl⟩ : ∃ pc, v1 = .ref pc := by
        cases t1 <;> exact tr_ref r1
      obtain rfl := tr_int r2
      refine (vis "jump" _ _ rfl hp) _ (iteF ?_)
      dsimp only [tNext, tSeq, tIfS]
      refine (vis "unless" _ _ rfl hp) _ (iteT ?_)
      obtain ⟨b, eb, rfl⟩ := Option.map_eq_some_iff.mp (show (cndV cells it hd t1).map _ = some L from hL)
      dsimp only [tRet, tLst, tTup, tCons, tNil, tIf]
      refine (val_call (va_cons (val_ixT (val_var rfl) val_c (SqT.of hp) (atI_nat (j := 1) rfl)) (va_cons (val_var rfl) (va_cons (val_var rfl) (va_cons (val_var rfl) va_nil)))) fun Q q => ⟨pc, c, t1, cells, it, hd, b, rfl, r1, hc, eb, q⟩) _ ⟨_, rfl, ?_⟩
      cases b with
      | true =>
        refine iteT ((val_i0 (val_var rfl) val_c) _ ((val_var rfl) _ ?_))
        exact fin (at_ + 1) cells c H rfl (Same.refl _) hc
      | false =>
        refine iteF ((val_ixT (val_var rfl) val_c (SqT.of hp) (atI_nat (j := 2) rfl)) _ ((val_var rfl) _ ?_))
        exact fin t2 cells c H rfl (Same.refl _) hc
    | draw kk =>
      obtain ⟨vs, hp, r⟩ := tup_cases tr0
      obtain ⟨v0, ws, rfl, r0, r⟩ := trs_cons r
      obtain ⟨v1, ws, rfl, r1, r⟩ := trs_cons r
      obtain rfl := trs_nil r
      obtain rfl := tr_str r0
      obtain rfl := tr_int r1
      refine (vis "jump" _ _ rfl hp) _ (iteF ?_)
      dsimp only [tNext, tSeq, tIfS]
      refine (vis "unless" _ _ rfl hp) _ (iteF ?_)
      dsimp only [tNext, tSeq, tAsg]
      refine (val_ixT (val_var rfl) val_c (SqT.of hp) (atI_nat (j := 1) rfl)) _ ?_
      dsimp only [gName, tSeq, tIfS]
      refine (vis "draw" _ _ rfl hp) _ (iteT ?_)
      have hk : kk < cells.length := by
        by_cases c1 : kk < cells.length
        · exact c1
        · rw [nextOf, if_neg c1] at hL
          cases hL
      rw [nextOf, if_pos hk] at hL
      cases hL
      dsimp only [tRet, tLc, iRng1]
      refine (val_fld (val_var rfl) F.o CC.cl (CC.at (by decide +kernel)) pF_worths) _ ?_
      refine ⟨_, rfl, by omega, by omega, fun M nM => ?_⟩
      refine lc_range (lo := 0) (n := wn) (fun t H2 => Same H H2 ∧ ∃ ts : List Addr, H2 M = some (.lst (ts.map V.ref)) ∧ Trs H2 (ts.map V.ref) (((List.range t).map fun v => (at_ + 1, cells.set kk ((v : Nat) : Int))).map plD)) ⟨same_upd nM, [], upd_same, .nil⟩ (fun t H2 ht hI => ?_) fun H2 hI => ?_
      · obtain ⟨s2, ts, hM, tr⟩ := hI
        refine ⟨rfl, ?_⟩
        dsimp only [tYes]
        rw [if_pos rfl]
        rw [show (0 : Int) + ((t : Nat) : Int) = ((t : Nat) : Int) by omega]
        dsimp only [tTup, tCons, tNil]
        refine (val_i0 (val_var rfl) val_c) _ ?_
        dsimp only [tCall]
        refine (va_cons (val_var rfl) (va_cons (val_var rfl) (va_cons (val_var rfl) va_nil))) _ ?_
        refine ⟨c, cells, kk, ((t : Nat) : Int), rfl, s2 _ _ hc, hk, lc, fun H3 c3 s3 h3 => ?_⟩
        refine ⟨by show 2 ≤ sizeLine; decide, fun q nq => ?_⟩
        have s4 := same_upd (o := .tup [.int ((at_ : Int) + 1), .ref c3]) nq
        have lt := tr.len
        rw [List.length_map, List.length_map, List.length_map, List.length_range] at lt
        refine ⟨_, s4 _ _ (s3 _ _ hM), by rw [List.length_map, sizeLine_eq]; omega, fun b o e => ?_, ts ++ [q], ?_, ?_⟩
        · rw [upd_ne (ne_of_none e nM)]
          exact s4 _ _ (s3 _ _ (s2 _ _ e))
        · rw [upd_same, List.map_append]
          rfl
        · have nt : ∀ b zs, (upd H3 q (.tup [.int ((at_ : Int) + 1), .ref c3])) b = some (.tup zs) → (upd (upd H3 q (.tup [.int ((at_ : Int) + 1), .ref c3])) M (.lst (ts.map V.ref ++ [V.ref q]))) b = some (.tup zs) := fun b zs e => by
            rw [upd_ne (ne_of e (s4 _ _ (s3 _ _ hM)) (fun z => nomatch z))]
            exact e
          rw [List.map_append, List.range_succ, List.map_append, List.map_append]
          refine (((tr.mono s3).mono s4).keep nt).app (.cons (Tr.keep nt ?_) .nil)
          exact tr2 upd_same (.int _) (ClAt.tr (s4 _ _ h3))
      · obtain ⟨s2, ts, hM, tr⟩ := hI
        exact k H2 M ts s2 hM nM tr
    | set kk sr =>
      obtain ⟨vs, hp, r⟩ := tup_cases tr0
      obtain ⟨v0, ws, rfl, r0, r⟩ := trs_cons r
      obtain ⟨v1, ws, rfl, r1, r⟩ := trs_cons r
      obtain ⟨v2, ws, rfl, r2, r⟩ := trs_cons r
      obtain rfl := trs_nil r
      obtain rfl := tr_str r0
      obtain rfl := tr_int r1
      obtain ⟨pc, rfl⟩ := tr_ref r2
      refine (vis "jump" _ _ rfl hp) _ (iteF ?_)
      dsimp only [tNext, tSeq, tIfS]
      refine (vis "unless" _ _ rfl hp) _ (iteF ?_)
      dsimp only [tNext, tSeq, tAsg]
      refine (val_ixT (val_var rfl) val_c (SqT.of hp) (atI_nat (j := 1) rfl)) _ ?_
      dsimp only [gName, tSeq, tIfS]
      refine (vis "draw" _ _ rfl hp) _ (iteF ?_)
      have hk : kk < cells.length := by
        by_cases c1 : kk < cells.length
        · exact c1
        · rw [nextOf, if_neg c1] at hL
          cases hL
      rw [nextOf, if_pos hk] at hL
      obtain ⟨v, ev, rfl⟩ := Option.map_eq_some_iff.mp hL
      dsimp only [tNext, tSeq, tAsg]
      refine (val_call (va_cons (val_ixT (val_var rfl) val_c (SqT.of hp) (atI_nat (j := 2) rfl)) (va_cons (val_var rfl) (va_cons (val_var rfl) (va_cons (val_var rfl) va_nil)))) fun Q q => ⟨pc, c, sr, cells, it, hd, v, rfl, r2, hc, ev, q⟩) _ ?_
      dsimp only [gName, tSeq, tIfS]
      refine (vis "add" _ _ rfl hp) _ (iteF ?_)
      dsimp only [tNext, tRet, tLst, tTup, tCons, tNil]
      refine (val_i0 (val_var rfl) val_c) _ ?_
      dsimp only [tCall]
      refine (va_cons (val_var rfl) (va_cons (val_var rfl) (va_cons (val_var rfl) va_nil))) _ ?_
      refine ⟨c, cells, kk, v, rfl, hc, hk, lc, fun H3 c3 s3 h3 => ?_⟩
      exact fin (at_ + 1) _ c3 H3 rfl s3 h3
    | add kk sr =>
      obtain ⟨vs, hp, r⟩ := tup_cases tr0
      obtain ⟨v0, ws, rfl, r0, r⟩ := trs_cons r
      obtain ⟨v1, ws, rfl, r1, r⟩ := trs_cons r
      obtain ⟨v2, ws, rfl, r2, r⟩ := trs_cons r
      obtain rfl := trs_nil r
      obtain rfl := tr_str r0
      obtain rfl := tr_int r1
      obtain ⟨pc, rfl⟩ := tr_ref r2
      refine (vis "jump" _ _ rfl hp) _ (iteF ?_)
      dsimp only [tNext, tSeq, tIfS]
      refine (vis "unless" _ _ rfl hp) _ (iteF ?_)
      dsimp only [tNext, tSeq, tAsg]
      refine (val_ixT (val_var rfl) val_c (SqT.of hp) (atI_nat (j := 1) rfl)) _ ?_
      dsimp only [gName, tSeq, tIfS]
      refine (vis "draw" _ _ rfl hp) _ (iteF ?_)
      have hk : kk < cells.length := by
        by_cases c1 : kk < cells.length
        · exact c1
        · rw [nextOf, if_neg c1] at hL
          cases hL
      rw [nextOf, if_pos hk] at hL
      obtain ⟨v, ev, rfl⟩ := Option.map_eq_some_iff.mp hL
      dsimp only [tNext, tSeq, tAsg]
      refine (val_call (va_cons (val_ixT (val_var rfl) val_c (SqT.of hp) (atI_nat (j := 2) rfl)) (va_cons (val_var rfl) (va_cons (val_var rfl) (va_cons (val_var rfl) va_nil)))) fun Q q => ⟨pc, c, sr, cells, it, hd, v, rfl, r2, hc, ev, q⟩) _ ?_
      dsimp only [gName, tSeq, tIfS]
      refine (vis "add" _ _ rfl hp) _ (iteT ?_)
      dsimp only [tNext, tSeq, tAsg]
      have eg : (cells.map V.int)[kk]? = some (.int (cells.getD kk 0)) := by
        rw [List.getElem?_map, List.getD_eq_getElem?_getD, List.getElem?_eq_getElem hk]
        rfl
      refine (val_iC (val_i0 (val_ixT (val_var rfl) (val_var rfl) (SqT.of hc) (atI_nat eg)) (val_var rfl)) (val_fld (val_var rfl) F.o CC.cl (CC.at (by decide +kernel)) pF_worths) (by omega)) _ ?_
      dsimp only [gName, tNext, tRet, tLst, tTup, tCons, tNil]
      refine (val_i0 (val_var rfl) val_c) _ ?_
      dsimp only [tCall]
      refine (va_cons (val_var rfl) (va_cons (val_var rfl) (va_cons (val_var rfl) va_nil))) _ ?_
      refine ⟨c, cells, kk, _, rfl, hc, hk, lc, fun H3 c3 s3 h3 => ?_⟩
      exact fin (at_ + 1) _ c3 H3 rfl s3 h3
    | _ => cases hL
end
end K5
namespace K5
open PySem PySem.Spec PyProof.Rows L2
theorem ints_inj : ∀ {a b : List Int}, a.map PyData.int = b.map PyData.int → a = b
  | [], [], _ => rfl
  | [], _ :: _, h => by cases h
  | _ :: _, [], h => by cases h
  | x :: a, y :: b, h => by
    rw [List.map_cons, List.map_cons] at h
    injection h with h1 h2
    injection h1 with h1
    rw [h1, ints_inj h2]
theorem cellsD_inj {a b : List Int} (h : cellsD a = cellsD b) : a = b := by
  unfold cellsD at h
  injection h with h
  exact ints_inj h
theorem plD_inj : Inj plD := fun k l h => by
  unfold plD at h
  injection h with h
  injection h with h1 h2
  injection h2 with h2 _
  injection h1 with h1
  exact Prod.ext (by omega) (cellsD_inj h2)
theorem waitD_inj {a b : Option (Nat × Int)} (h : waitD a = waitD b) : a = b := by
  cases a with
  | none => cases b with
    | none => rfl
    | some q => simp [waitD] at h
  | some p => cases b with
    | none => simp [waitD] at h
    | some q =>
      simp only [waitD, PyData.tuple.injEq, List.cons.injEq, PyData.int.injEq, and_true] at h
      rw [show p = q from Prod.ext (by omega) h.2]
theorem deedD_inj {a b : Deed} (h : a.d = b.d) : a = b := by
  cases a with
  | gives v => cases b with
    | gives u =>
      simp only [Deed.d, PyData.tuple.injEq, List.cons.injEq, PyData.int.injEq, and_true, true_and] at h
      rw [h]
    | asks p d u => simp [Deed.d] at h
  | asks p d v => cases b with
    | gives u => simp [Deed.d] at h
    | asks p' d' u =>
      simp only [Deed.d, PyData.tuple.injEq, List.cons.injEq, PyData.int.injEq, PyData.str.injEq, and_true, true_and] at h
      rw [h.1, h.2.1, h.2.2]
theorem itemD_inj : Inj itemD := fun k l h => by
  unfold itemD innD at h
  injection h with h
  injection h with h1 h2
  injection h2 with h2 _
  injection h2 with h2
  injection h2 with h3 h4
  injection h4 with h4 _
  exact Prod.ext (deedD_inj h1) (Prod.ext (cellsD_inj h3) (waitD_inj h4))
theorem nk_ints : ∀ l : List Int, NestedKey.depthAll (nksOf (l.map PyData.int)) = 0
  | [] => by simp [nksOf, NestedKey.depthAll]
  | x :: l => by
    rw [List.map_cons, nksOf, NestedKey.depthAll, nk_ints l]
    simp [nkOf, NestedKey.depth]
theorem nk_cells (l : List Int) : (nkOf (cellsD l)).depth = 1 := by
  unfold cellsD
  rw [nkOf, NestedKey.depth, nk_ints]
theorem nk_pl (p : Place) : (nkOf (plD p)).depth ≤ 8 := by
  unfold plD
  simp only [nkOf, nksOf, NestedKey.depth, NestedKey.depthAll, nk_cells]
  decide
theorem nk_wait (o : Option (Nat × Int)) : (nkOf (waitD o)).depth ≤ 1 := by
  cases o <;> simp [waitD, nkOf, nksOf, NestedKey.depth, NestedKey.depthAll]
theorem nk_deed (d : Deed) : (nkOf d.d).depth ≤ 1 := by
  cases d <;> simp [Deed.d, nkOf, nksOf, NestedKey.depth, NestedKey.depthAll]
theorem nk_item (r : Item) : (nkOf (itemD r)).depth ≤ 8 := by
  have h1 := nk_wait r.2.2
  have h2 := nk_deed r.1
  have h3 := nk_cells r.2.1
  unfold itemD innD
  simp only [nkOf, nksOf, NestedKey.depth, NestedKey.depthAll]
  omega
theorem dp_item (r : Item) : (itemD r).depth ≤ 8 := by
  have h1 : (waitD r.2.2).depth ≤ 1 := by
    cases r.2.2 <;> simp [waitD, PyData.depth, PyData.depthAll]
  have h2 : r.1.d.depth ≤ 1 := by
    cases r.1 <;> simp [Deed.d, PyData.depth, PyData.depthAll]
  have h3 : (cellsD r.2.1).depth ≤ 1 := by
    unfold cellsD
    rw [PyData.depth, PySem.W.depth_ints]
    decide
  unfold itemD innD
  simp only [PyData.depth, PyData.depthAll]
  omega
/-! ### all deeds from a place on -/
def dfs (pr : List Stp) (wn : Nat) (it hd : Int) : Nat → List Place → List Place → List Item → Option (List Item)
  | 0, _, _, _ => none
  | f + 1, [], met, found => some found
  | f + 1, pl :: st, met, found =>
    if pl ∈ met then dfs pr wn it hd f st met found
    else match pr[pl.1]? with
      | none => none
      | some s => match endOf pl.2 it hd s with
        | some R => dfs pr wn it hd f st (met ++ [pl]) (addK found R)
        | none => match nextOf wn pl.1 pl.2 it hd s with
          | some L => dfs pr wn it hd f (L.reverse ++ st) (met ++ [pl]) found
          | none => none
theorem next_len {wn n : Nat} {cells : List Int} {it hd : Int} {s : Stp} {L : List Place} (h : nextOf wn n cells it hd s = some L) (w4 : wn ≤ 4) : L.length ≤ 4 ∧ ∀ p ∈ L, p.2.length = cells.length := by
  cases s with
  | jump t => cases h; exact ⟨by simp, fun p hp => by rw [List.mem_singleton.mp hp]⟩
  | unl c t =>
    obtain ⟨b, _, rfl⟩ := Option.map_eq_some_iff.mp (show (cndV cells it hd c).map _ = some L from h)
    exact ⟨by simp, fun p hp => by rw [List.mem_singleton.mp hp]⟩
  | draw k =>
    rw [nextOf] at h
    split at h
    · cases h
      refine ⟨by rw [List.length_map, List.length_range]; exact w4, fun p hp => ?_⟩
      obtain ⟨v, _, rfl⟩ := List.mem_map.mp hp
      exact List.length_set
    · cases h
  | set k s =>
    rw [nextOf] at h
    split at h
    · obtain ⟨b, _, rfl⟩ := Option.map_eq_some_iff.mp h
      exact ⟨by simp, fun p hp => by rw [List.mem_singleton.mp hp]; exact List.length_set⟩
    · cases h
  | add k s =>
    rw [nextOf] at h
    split at h
    · obtain ⟨b, _, rfl⟩ := Option.map_eq_some_iff.mp h
      exact ⟨by simp, fun p hp => by rw [List.mem_singleton.mp hp]; exact List.length_set⟩
    · cases h
  | _ => cases h
theorem addK_len {β : Type} [DecidableEq β] (ks : List β) (d : β) : (addK ks d).length ≤ ks.length + 1 := by
  unfold addK
  split
  · exact Nat.le_succ _
  · rw [List.length_append]
    exact Nat.le_refl _
def spDeeds (Pt : Addr) : Sp := fun vs H Q _ => ∃ (a c da : Addr) (start wn F0 : Nat) (y : V) (D : PD) (pr : List Stp) (cells : List Int) (it hd : Int) (R : List Item), vs = [.ref a, .int (start : Nat), .ref c, .int it, .int hd] ∧ PrAt Pt da H a wn y D pr ∧ ClAt H c cells ∧ cells.length ≤ 1000 ∧ F0 ≤ 20000 ∧
  dfs pr wn it hd F0 [(start, cells)] [] [] = some R ∧ PySem.W.AllAlike (R.map itemD) ∧ ∀ (H' : Hp) (q : Addr), Same H H' → Tr H' (.ref q) (.tuple ((sortB itemD R).map itemD)) → Q (.ref q) H'
abbrev s_deeds_from : Stmt := topS 23
abbrev nmDfs : List Str := ["part", "start", "cells", "it", "heard", "found", "met", "places", "place", "at", "step"]
theorem sc_deeds_from : FnScope nmDfs ["part", "start", "cells", "it", "heard"] (defScope s_deeds_from) := ⟨rfl, rfl, rfl, by decide +kernel, rfl, by decide +kernel, by decide +kernel⟩
theorem run_in3 {K : PySem.W.Frag} {σ : L2.St} {H : Hp} {ta : TE} {z s1 s2 s3 : Str} {Q : VK} (ha : Val ta σ H (.str z)) (q : ∀ H', Same H H' → Q (.bl (decide (z ∈ [s1, s2, s3]))) H') : tOp (rIn K false) ta (tTup (tCons (tC (.str s1)) (tCons (tC (.str s2)) (tCons (tC (.str s3)) tNil)))) σ H Q := by
  refine ha _ ⟨by show 3 ≤ sizeLine; decide, fun p np => ?_⟩
  refine ⟨p, [.str s1, .str s2, .str s3], rfl, .inr (SqT.of upd_same), rfl, rfl, ?_⟩
  show Q (.bl (inV (.str z) ([s1, s2, s3].map V.str))) _
  rw [inV_strs]
  exact q _ (same_upd np)
theorem Trs.snoc {H : Hp} : ∀ {vs : List V} {ds : List PyData} {d : PyData}, Trs H vs (ds ++ [d]) → ∃ ws v, vs = ws ++ [v] ∧ Trs H ws ds ∧ Tr H v d
  | _, [], d, h => by
    obtain ⟨v, ws, rfl, hv, hw⟩ := trs_cons h
    obtain rfl := trs_nil hw
    exact ⟨[], v, rfl, .nil, hv⟩
  | _, e :: ds, d, h => by
    obtain ⟨v, ws, rfl, hv, hw⟩ := trs_cons h
    obtain ⟨ws', v', rfl, h1, h2⟩ := Trs.snoc (ds := ds) hw
    exact ⟨v :: ws', v', rfl, .cons hv h1, h2⟩
def Stp.tag : Stp → Str
  | .set _ _ => "set"
  | .add _ _ => "add"
  | .draw _ => "draw"
  | .ask _ _ _ _ => "ask"
  | .answer _ => "answer"
  | .fail => "fail"
  | .unl _ _ => "unless"
  | .jump _ => "jump"
theorem Stp.head (s : Stp) : ∃ ds, s.d = .tuple (.str s.tag :: ds) := by
  cases s <;> exact ⟨_, rfl⟩
theorem tag_end {s : Stp} {cells : List Int} {it hd : Int} {R : Item} (h : endOf cells it hd s = some R) : decide (s.tag ∈ (["ask", "answer", "fail"] : List Str)) = true := by
  cases s with
  | ask _ _ _ _ => show decide (("ask" : Str) ∈ (["ask", "answer", "fail"] : List Str)) = true; decide +kernel
  | answer _ => show decide (("answer" : Str) ∈ (["ask", "answer", "fail"] : List Str)) = true; decide +kernel
  | fail => show decide (("fail" : Str) ∈ (["ask", "answer", "fail"] : List Str)) = true; decide +kernel
  | _ => cases h
theorem tag_next {s : Stp} {wn n : Nat} {cells : List Int} {it hd : Int} {L : List Place} (h : nextOf wn n cells it hd s = some L) : decide (s.tag ∈ (["ask", "answer", "fail"] : List Str)) = false := by
  cases s with
  | jump _ => show decide (("jump" : Str) ∈ (["ask", "answer", "fail"] : List Str)) = false; decide +kernel
  | unl _ _ => show decide (("unless" : Str) ∈ (["ask", "answer", "fail"] : List Str)) = false; decide +kernel
  | draw _ => show decide (("draw" : Str) ∈ (["ask", "answer", "fail"] : List Str)) = false; decide +kernel
  | set _ _ => show decide (("set" : Str) ∈ (["ask", "answer", "fail"] : List Str)) = false; decide +kernel
  | add _ _ => show decide (("add" : Str) ∈ (["ask", "answer", "fail"] : List Str)) = false; decide +kernel
  | _ => cases h
theorem hu10 {k : Nat} {A : Around} (hr : Room k A) : A.units + 10 < cLine := by
  have := hr.units
  omega
/-- ahead of each turn, f turns left at most -/
structure DfW (P : Program) (w : World) (pr : List Stp) (wn : Nat) (it hd : Int) (H0 : Hp) (a dF dM l : Addr) (start : Int) (F0 : Nat) (R : List Item) (f : Nat) (σ : L2.St) (H : Hp) (st met : List Place) (found : List Item) (xs : List V) (xF xM : NX) : Prop where
  fF : f ≤ F0
  sv : ∃ x2 y8 y9 y10, σ = [some (.ref a), some (.int start), x2, some (.int it), some (.int hd), some (.ref dF), some (.ref dM), some (.ref l), y8, y9, y10]
  s0 : Same H0 H
  F0n : H0 dF = none
  M0n : H0 dM = none
  l0n : H0 l = none
  nFM : dF ≠ dM
  nFl : dF ≠ l
  nMl : dM ≠ l
  dF : DN P w itemD H dF found xF
  dM : DN P w plD H dM met xM
  hl : H l = some (.lst xs)
  tr : Trs H xs (st.reverse.map plD)
  cl : ∀ p ∈ st, p.2.length ≤ 1000
  b1 : met.length + f ≤ F0
  b2 : found.length + f ≤ F0
  b3 : st.length + 4 * f ≤ 4 * F0 + 1
  k : dfs pr wn it hd f st met found = some R
section
variable {P : Program} {w : World} {K : PySem.W.Frag} {mg : Str → Option Value} {base : Heap} {Pt : Addr}
theorem ok_deeds_from {f fD fB fW fP fH : Addr} {fd dD dB dW dP dH : FuncData} (B : Bt mg) (ms : mg "sorted" = none) (CC : ClT K Pt) (gL : ∃ t, mg "LOST" = some (.int (-1) t)) (gB : ∃ t, mg "BUSY" = some (.int (-2) t)) (D : Df K mg "deeds_from" s_deeds_from f fd ["part", "start", "cells", "it", "heard"]) (DD : Df K mg "deed_of" s_deed_of fD dD ["step", "cells", "it", "heard"]) (DB : Df K mg "places_behind" s_places_behind fB dB ["part", "at", "cells", "it", "heard"])
    (DW : Df K mg "worth_of" s_worth_of fW dW ["source", "cells", "it", "heard"]) (DP : Df K mg "put" s_put fP dP ["row", "at", "worth"]) (DH : Df K mg "holds" s_holds fH dH ["test", "cells", "it", "heard"]) :
    FnOk P w K mg base (L2.CX P w) 4 f fd ["part", "start", "cells", "it", "heard"] (spDeeds Pt) := by
  have GD : FnOk P w K mg base CX0 2 fD dD ["step", "cells", "it", "heard"] spDeedOf := ok_deed_of B gL DD DW
  have GB : FnOk P w K mg base CX0 3 fB dB ["part", "at", "cells", "it", "heard"] (spBehind Pt) := ok_places_behind B CC gL gB DB DW DP DH
  refine D.F.okX sc_deeds_from (fun vs H Q E h => ?_) (fun cdv A outer s H vs Q E hr h => ?_)
  · obtain ⟨a, c, da, start, wn, F0, y, DD, pr, cells, it, hd, R, rfl, _⟩ := h
    rfl
  · obtain ⟨a, c, da, start, wn, F0, y, PDD, pr, cells, it, hd, R, rfl, pa, hc, lc, hF0, hdfs, hal, k⟩ := h
    have S := sc_deeds_from
    have hu := hr.units
    refine ⟨_, (pss_cons (ps_set (i := 5) S.nd rfl (.inl rfl) pe_dnewN)
      (pss_cons (ps_set (i := 6) S.nd rfl (.inl rfl) pe_dnewN)
      (pss_cons (ps_set (i := 7) S.nd rfl (.inl rfl) (pe_lst (pa_cons (pe_tup (pa_cons (pv 1) (pa_cons (pv 2) pa_nil))) pa_nil)))
      (pss_cons (ps_while (passes_of rfl) (pt_truth (pv 7) (by intro _; rfl))
        (pss_cons (ps_set (i := 8) S.nd rfl (.inl rfl) (pe_bm0 PySem.F.plainAttrs_list PySem.F.slot_list_pop PySem.F.type_list_pop mt_pop (pv 7)))
        (pss_cons (ps_if (pt_cmp (pc_dinN plD_inj (hu10 hr) (pv 8) (pv 6))) (pss_one ps_continue) pss_nil)
        (pss_cons (ps_dputN plD_inj (hu10 hr) (pv 6) (pv 8) pe_bl rfl)
        (pss_cons (ps_asg (pv 8) (pg_tup (by rfl) (pgs_cons (pg_name (i := 9) S.nd rfl (.inl rfl)) (pgs_cons (pg_name (i := 2) S.nd rfl (.inl rfl)) pgs_nil))))
        (pss_cons (ps_set (i := 10) S.nd rfl (.inl rfl) (pe_ix ix_tup (pe_fld (pv 0) rfl) (pv 9) (fun _ _ => rfl)))
        (pss_one (ps_if (pt_cmpR op_in_seq (pe_ix ix_tup (pv 10) pe_int (fun _ _ => rfl)) (pe_tup (pa_cons pe_str (pa_cons pe_str (pa_cons pe_str pa_nil)))) (by rfl))
          (pss_one (ps_dputN itemD_inj (hu10 hr) (pv 5) (pe_call GD (hr.mono (by decide)) (by rfl) DD.g DD.F.kp DD.b .nil pass0 (pa_cons (pv 10) (pa_cons (pv 2) (pa_cons (pv 3) (pa_cons (pv 4) pa_nil))))) pe_bl rfl))
          (pss_one (ps_expr (pe_bm PySem.F.plainAttrs_list PySem.F.slot_list_extend PySem.F.type_list_extend mt_extend (pv 7) (pa_cons (pe_call GB (hr.mono (by decide)) (by rfl) DB.g DB.F.kp DB.b .nil pass0 (pa_cons (pv 0) (pa_cons (pv 9) (pa_cons (pv 2) (pa_cons (pv 3) (pa_cons (pv 4) pa_nil)))))) pa_nil))))))))))))
      (pss_one (ps_ret (pe_tupleOf (by rfl) B.m_tuple (pe_callB (call_sortedN (enc := itemD) rfl hr.units) (by rfl) ms (by decide +kernel) (pa_cons (pv 5) pa_nil))))))))), ?_⟩
    dsimp only [tNext, tSeq, tAsg]
    refine fun dF H1 nF s1 eF neF => ?_
    dsimp only [gName]
    refine fun dM H2 nM s2 eM neM => ?_
    dsimp only [gName]
    dsimp only [tSeq, tAsg, tLst, tTup, tCons, tNil]
    refine (val_var rfl) _ ((val_var rfl) _ ?_)
    refine ⟨by show 2 ≤ sizeLine; decide, fun q nq => ?_⟩
    refine ⟨by show 1 ≤ sizeLine; decide, fun l nl => ?_⟩
    dsimp only [gName]
    have dF1 : DN P w itemD H1 dF [] [] := dn_new eF neF
    have dM2 : DN P w plD H2 dM [] [] := dn_new eM neM
    have nFM : dF ≠ dM := ne_of_none dF1.o nM
    have M0 : H dM = none := s1.free nM
    have s3 := same_upd (o := .tup [.int (start : Nat), .ref c]) nq
    have hq : Tr (upd H2 q (.tup [.int (start : Nat), .ref c])) (.ref q) (plD (start, cells)) := tr2 upd_same (.int _) (ClAt.tr (s3 _ _ (s2 _ _ (s1 _ _ hc))))
    generalize (upd H2 q (.tup [.int (start : Nat), .ref c])) = H3 at s3 hq nl ⊢
    have s4 := same_upd (o := .lst [V.ref q]) nl
    have hl4 : (upd H3 l (.lst [V.ref q])) l = some (.lst [V.ref q]) := upd_same
    have s03 := (s1.trans s2).trans s3
    have nFl : dF ≠ l := ne_of_none (s3 _ _ (s2 _ _ dF1.o)) nl
    have nMl : dM ≠ l := ne_of_none (s3 _ _ dM2.o) nl
    have l0 : H l = none := s03.free nl
    generalize (upd H3 l (.lst [V.ref q])) = H4 at s4 hl4 ⊢
    refine ⟨fun f σ H' => ∃ st met found xs xF xM, DfW P w pr wn it hd H a dF dM l (start : Nat) F0 R f σ H' st met found xs xF xM, ⟨F0, [(start, cells)], [], [], [.ref q], [], [], {
      fF := Nat.le_refl _
      sv := ⟨_, _, _, _, rfl⟩
      s0 := s03.trans s4
      F0n := nF
      M0n := M0
      l0n := l0
      nFM := nFM
      nFl := nFl
      nMl := nMl
      dF := dF1.mono ((s2.trans s3).trans s4)
      dM := dM2.mono (s3.trans s4)
      hl := hl4
      tr := .cons (hq.mono s4) .nil
      cl := fun p hp => by rw [List.mem_singleton.mp hp]; exact lc
      b1 := by simp
      b2 := by simp
      b3 := by simp; omega
      k := hdfs }⟩, fun f σ H5 h => ?_⟩
    clear hdfs hq hl4 dF1 dM2 s1 s2 s3 s4 s03
    obtain ⟨st, met, found, xs, xF, xM, W⟩ := h
    obtain ⟨fF, ⟨x2, y8, y9, y10, rfl⟩, s0, _, _, _, _, _, _, hdF, hdM, hl, tr, cl, b1, b2, b3, kd⟩ := W
    refine (val_var (v := .ref l) rfl) _ ⟨_, .inl ⟨_, SqL.of hl, rfl⟩, ?_⟩
    cases f with
    | zero => cases kd
    | succ f =>
      cases st with
      | nil =>
        obtain rfl := trs_nil tr
        refine iteF ?_
        cases kd
        dsimp only [tNext, tRet, tThen]
        refine (va_cons (val_var rfl) va_nil) _ ⟨dF, R, xF, rfl, hdF, hal, fun b => ⟨_, _, rfl⟩, fun b _ => dp_item b, fun ts p trs np => ?_⟩
        refine .inl ⟨p, _, rfl, SqL.of upd_same, fun q nq => ?_⟩
        have s6 := same_upd (o := .lst (ts.map V.ref)) np
        have s7 := same_upd (o := .tup (ts.map V.ref)) nq
        exact k _ q ((s0.trans s6).trans s7) (.tup upd_same ((trs.mono s6).mono s7))
      | cons pl st =>
        rw [List.reverse_cons, List.map_append] at tr
        obtain ⟨ws, v, rfl, trw, trv⟩ := tr.snoc
        obtain ⟨t, rfl⟩ := tr_ref trv
        have ne : (!(ws ++ [V.ref t]).isEmpty) = true := by cases ws <;> rfl
        rw [ne]
        refine iteT ⟨fun σ' H' => ∃ st met found xs xF xM, DfW P w pr wn it hd H a dF dM l (start : Nat) F0 R f σ' H' st met found xs xF xM, fun σ' H' h => ⟨f, Nat.lt_succ_self f, h⟩, ?_⟩
        dsimp only [tSeq, tAsg]
        refine (val_var (v := .ref l) rfl) _ ⟨.inl ⟨rfl, _, SqL.of hl⟩, l, _, .ref t, rfl, rfl, hl, by simp, ?_⟩
        dsimp only [gName]
        rw [List.dropLast_concat]
        have nt6 : ∀ b zs, H5 b = some (.tup zs) → (upd H5 l (.lst ws)) b = some (.tup zs) := fun b zs e => by
          rw [upd_ne (ne_of e hl (fun z => nomatch z))]
          exact e
        have s06 : Same H (upd H5 l (.lst ws)) := fun b o e => by
          rw [upd_ne (ne_of_none e l0)]
          exact s0 _ _ e
        have dF6 := hdF.keep (H' := upd H5 l (.lst ws)) (upd_ne nFl) nt6
        have dM6 := hdM.keep (H' := upd H5 l (.lst ws)) (upd_ne nMl) nt6
        have hl6 : (upd H5 l (.lst ws)) l = some (.lst ws) := upd_same
        have trw := trw.keep nt6
        have trv := trv.keep nt6
        generalize (upd H5 l (.lst ws)) = H6 at s06 dF6 dM6 hl6 trw trv ⊢
        clear nt6 hl hdF hdM s0
        dsimp only [tSeq, tIfS, tB, tDInN]
        refine (val_var rfl) _ ((val_var rfl) _ ⟨dM, t, pl, met, xM, rfl, rfl, dM6, trv, nk_pl pl, ⟨_, rfl, ?_⟩⟩)
        rw [dfs] at kd
        have lst1 : st.length + 1 + 4 * (f + 1) ≤ 4 * F0 + 1 := b3
        refine ite2 (fun hm => ?_) (fun hm => ?_)
        · have hm : pl ∈ met := by simpa using hm
          rw [if_pos hm] at kd
          exact ⟨st, met, found, ws, xF, xM, {
            fF := by omega
            sv := ⟨_, _, _, _, rfl⟩
            s0 := s06
            F0n := nF
            M0n := M0
            l0n := l0
            nFM := nFM
            nFl := nFl
            nMl := nMl
            dF := dF6
            dM := dM6
            hl := hl6
            tr := trw
            cl := fun p hp => cl p (List.mem_cons_of_mem _ hp)
            b1 := by omega
            b2 := by omega
            b3 := by omega
            k := kd }⟩
        · have hm : ¬ pl ∈ met := by simpa using hm
          rw [if_neg hm] at kd
          dsimp only [tNext, tSeq]
          refine val_c _ ((val_var rfl) _ ((val_var rfl) _ ⟨dM, t, pl, met, xM, rfl, rfl, dM6, trv, nk_pl pl, by omega, fun xM' H7 u7 dM7 => ?_⟩))
          rw [show addK met pl = met ++ [pl] from if_neg hm] at dM7
          have nt7 : ∀ b zs, H6 b = some (.tup zs) → H7 b = some (.tup zs) := fun b zs e => by
            rw [u7 b (ne_of e dM6.o (fun z => nomatch z))]
            exact e
          have s07 : Same H H7 := fun b o e => by
            rw [u7 b (ne_of_none e M0)]
            exact s06 _ _ e
          have dF7 := dF6.keep (u7 _ nFM) nt7
          have hl7 : H7 l = some (.lst ws) := by rw [u7 _ nMl.symm]; exact hl6
          have trw := trw.keep nt7
          have trv := trv.keep nt7
          clear nt7 hl6 dF6 dM6 s06 u7
          obtain ⟨vs, ht, r⟩ := tup_cases (ds := [.int (pl.1 : Nat), cellsD pl.2]) trv
          obtain ⟨v0, ws0, rfl, r0, r⟩ := trs_cons r
          obtain ⟨v1, ws0, rfl, r1, r⟩ := trs_cons r
          obtain rfl := trs_nil r
          obtain rfl := tr_int r0
          obtain ⟨cc, rfl⟩ := tr_ref r1
          have hcc : ClAt H7 cc pl.2 := by
            obtain ⟨us, h1, h2⟩ := tup_cases r1
            have e : ∀ (us : List V) (l : List Int), Trs H7 us (l.map PyData.int) → us = l.map V.int := by
              intro us l
              induction l generalizing us with
              | nil => intro h; exact trs_nil h
              | cons i l ih =>
                intro h
                obtain ⟨u, us', rfl, hu, h⟩ := trs_cons h
                rw [tr_int hu, ih _ h]
                rfl
            rw [e _ _ h2] at h1
            exact h1
          dsimp only [tSeq, tAsg]
          refine (val_var rfl) _ ?_
          refine ⟨t, _, rfl, SqT.of ht, rfl, _, _, rfl, _, _, rfl, rfl, ?_⟩
          try dsimp only [gName, List.set]
          cases es : pr[pl.1]? with
          | none => rw [es] at kd; cases kd
          | some s1 =>
            rw [es] at kd
            dsimp only at kd
            have pa7 := pa.mono s07
            obtain ⟨⟨ct, pt, sd, dt, stp, ak, ts0, xs0, kvs0, F⟩, eds, w2, w4⟩ := id pa7
            obtain ⟨v0, hx, tr0⟩ := F.sx.get (j := pl.1) (d := s1.d) (by rw [eds, List.getElem?_map, es]; rfl)
            obtain ⟨dsh, eh⟩ := s1.head
            obtain ⟨ps, rfl⟩ : ∃ ps, v0 = .ref ps := by
              rw [eh] at tr0
              exact tr_ref tr0
            dsimp only [tSeq, tAsg]
            refine (val_ixT (val_fld (val_var rfl) F.o CC.cl (CC.at (by decide +kernel)) pF_steps) (val_var rfl) (SqT.of F.stp) (atI_nat hx)) _ ?_
            dsimp only [gName]
            have hps : ∃ us, H7 ps = some (.tup (.str s1.tag :: us)) := by
              have h := tr0
              rw [eh] at h
              obtain ⟨us, h1, h2⟩ := tup_cases h
              obtain ⟨u, us', rfl, hu, _⟩ := trs_cons h2
              rw [tr_str hu] at h1
              exact ⟨us', h1⟩
            obtain ⟨us, hps⟩ := hps
            refine run_in3 (val_ixT (val_var rfl) val_c (SqT.of hps) (atI_nat (j := 0) rfl)) fun H8 s8 => ⟨_, rfl, ?_⟩
            have s08 := s07.trans s8
            have dF8 := dF7.mono s8
            have dM8 := dM7.mono s8
            have hl8 := s8 _ _ hl7
            have trw8 := trw.mono s8
            have hcc8 : ClAt H8 cc pl.2 := s8 _ _ hcc
            cases ee : endOf pl.2 it hd s1 with
            | some R1 =>
              rw [ee] at kd
              dsimp only at kd
              rw [tag_end ee]
              refine iteT ?_
              refine val_c _ ((val_var rfl) _ ?_)
              dsimp only [tCall]
              refine (va_cons (val_var rfl) (va_cons (val_var rfl) (va_cons (val_var rfl) (va_cons (val_var rfl) va_nil)))) _ ?_
              refine ⟨ps, cc, s1, pl.2, it, hd, R1, rfl, tr0.mono s8, hcc8, ee, fun H9 q9 s9 tr9 => ?_⟩
              refine ⟨dF, q9, R1, found, xF, rfl, rfl, dF8.mono s9, tr9, nk_item R1, by omega, fun xF' HA uA dF10 => ?_⟩
              have nt10 : ∀ b zs, H9 b = some (.tup zs) → HA b = some (.tup zs) := fun b zs e => by
                rw [uA b (ne_of e (dF8.mono s9).o (fun z => nomatch z))]
                exact e
              have ak1 := addK_len found R1
              exact ⟨st, met ++ [pl], addK found R1, ws, xF', xM', {
                fF := by omega
                sv := ⟨_, _, _, _, rfl⟩
                s0 := fun b o e => by
                  rw [uA b (ne_of_none e nF)]
                  exact s9 _ _ (s08 _ _ e)
                F0n := nF
                M0n := M0
                l0n := l0
                nFM := nFM
                nFl := nFl
                nMl := nMl
                dF := dF10
                dM := (dM8.mono s9).keep (uA _ nFM.symm) nt10
                hl := by rw [uA _ nFl.symm]; exact s9 _ _ hl8
                tr := (trw8.mono s9).keep nt10
                cl := fun p hp => cl p (List.mem_cons_of_mem _ hp)
                b1 := by rw [List.length_append]; show met.length + 1 + f ≤ F0; omega
                b2 := by omega
                b3 := by omega
                k := kd }⟩
            | none =>
              rw [ee] at kd
              dsimp only at kd
              cases en : nextOf wn pl.1 pl.2 it hd s1 with
              | none => rw [en] at kd; cases kd
              | some L =>
                rw [en] at kd
                dsimp only at kd
                rw [tag_next en]
                refine iteF ?_
                obtain ⟨nl1, nl2⟩ := next_len en w4
                have lp := cl pl (List.mem_cons_self ..)
                have trl := trw8.len
                rw [List.length_map, List.length_reverse] at trl
                dsimp only [tDrop]
                refine (val_var (v := .ref l) rfl) _ ⟨.inl ⟨rfl, _, SqL.of hl8⟩, ?_⟩
                dsimp only [tCons, tNil, tCall]
                refine (val_var rfl) _ ((val_var rfl) _ ((val_var rfl) _ ((val_var rfl) _ ((val_var rfl) _ ?_))))
                refine ⟨a, cc, da, pl.1, wn, y, PDD, pr, s1, pl.2, it, hd, L, rfl, pa7.mono s8, es, hcc8, lp, en, fun H9 l9 ts9 s9 h9 n9 tr9 => ?_⟩
                have hl9 := s9 _ _ hl8
                have trl9 := tr9.len
                rw [List.length_map, List.length_map] at trl9
                refine ⟨l, l9, ws, ts9.map V.ref, rfl, rfl, hl9, h9, by rw [List.length_map, sizeLine_eq]; omega, ?_⟩
                have nt10 : ∀ b zs, H9 b = some (.tup zs) → (upd H9 l (.lst (ws ++ ts9.map V.ref))) b = some (.tup zs) := fun b zs e => by
                  rw [upd_ne (ne_of e hl9 (fun z => nomatch z))]
                  exact e
                exact ⟨L.reverse ++ st, met ++ [pl], found, ws ++ ts9.map V.ref, xF, xM', {
                  fF := by omega
                  sv := ⟨_, _, _, _, rfl⟩
                  s0 := fun b o e => by
                    rw [upd_ne (ne_of_none e l0)]
                    exact s9 _ _ (s08 _ _ e)
                  F0n := nF
                  M0n := M0
                  l0n := l0
                  nFM := nFM
                  nFl := nFl
                  nMl := nMl
                  dF := (dF8.mono s9).keep (upd_ne nFl) nt10
                  dM := (dM8.mono s9).keep (upd_ne nMl) nt10
                  hl := upd_same
                  tr := by
                    rw [List.reverse_append, List.reverse_reverse, List.map_append]
                    exact ((trw8.mono s9).keep nt10).app (tr9.keep nt10)
                  cl := fun p hp => by
                    rcases List.mem_append.mp hp with h | h
                    · rw [nl2 p (List.mem_reverse.mp h)]
                      exact lp
                    · exact cl p (List.mem_cons_of_mem _ h)
                  b1 := by rw [List.length_append]; show met.length + 1 + f ≤ F0; omega
                  b2 := by omega
                  b3 := by rw [List.length_append, List.length_reverse]; omega
                  k := kd }⟩
end
end K5
namespace K5
open PySem PySem.Spec PyProof.Rows L2
section
variable {X : Cx} {pins : List (Addr × Obj)} {σ : L2.St} {H : Hp} {s : Shared}
/-- the generator g over the first things of the pairs cs -/
def ReadyQ (X : Cx) (pins : List (Addr × Obj)) (σ : L2.St) (H1 : Hp) (P : Addr) (cs : List (Str × Int)) (g : Addr) (s5 : Shared) : Prop :=
  ∃ (fps wrs : List Addr) (G : Array GenState → Array GenState → Prop) (F : Nat → Value → Prop) (St : Nat → Shared → Prop),
    WalksS X.prog X.w X.A.in1.in1.in1 g fps wrs G cs.length F St ∧ St 0 s5 ∧ (∀ c ∈ fps, c < s5.heap.objs.size) ∧ g ∈ fps ∧ (∀ i sS, St i sS → sS.TypeIs (.ref g) "generator") ∧
    (∀ j v, F j v → ∃ (q : Str × Int) (t : Tok), cs[j]? = some q ∧ v = .int q.2 t) ∧
    ∀ s', Moved wrs G s5 s' → ∃ H2, GxR.Tabbed P H1 H2 ∧ Inv X pins σ H2 s'
theorem gen_snd {c P : Addr} {iter : Expr} {xa xb : Str} {px pa pb pt gpos : Pos} {kt : Nat} {scope : Scope} {te : TE} {k : Nat} {Z : Value → Shared → Prop} {R : List (Str × Int) → Hp → Prop}
    (hr : Room k X.A) (TB : GxR.TabB X.base X.mg c P) (code1 : X.env.code = .ref c) (S : GxR.GenS X.env scope xa) (loc2 : scope.names.lookup xb = some .local) (ab : xa ≠ xb) (nd : (xb == ("__debug__" : Str)) = false) (it : PE X iter te)
    (fold : ∀ v, genFold iter X.env v = pure v) (I : Inv X pins σ H s) (h : te σ H fun v H1 => ∃ (yl : Addr) (ts : List Addr) (cs : List (Str × Int)), v = .ref yl ∧ H1 yl = some (.tup (ts.map V.ref)) ∧ Pairs H1 ts cs ∧ GxR.TabG H1 P ∧ R cs H1)
    (hZ : ∀ cs H1 g s5, R cs H1 → ReadyQ X pins σ H1 P cs g s5 → Z (.ref g) s5) :
    wpAny (model X.prog X.w) X.A (eval (.GeneratorExp (.Name xb px) [⟨.Tuple [.Name xa pa, .Name xb pb] kt pt, iter, [], 0⟩] scope gpos) X.env) Z X.xe s := by
  refine wpAny_GeneratorExp_walksQT hr.hd S.co (closure_ok S.free) S.cell S.dot S.loc loc2 ab S.kind (by have := hr.dp; omega) ?_ fold
  refine thn (it.run pins s σ H _ I h) fun xv sA ⟨v, H1, IA, r1, q1⟩ => ?_
  obtain ⟨yl, ts, cs, rfl, hy, prs, ⟨tb0, hP, ht⟩, q1⟩ := q1
  obtain rfl : xv = Value.ref yl := r1
  obtain ⟨its, rv, pl, hz⟩ := IA.tuple (SqT.of hy)
  obtain rfl := vals_ref rv
  have lts : ts.length = cs.length := Paired.length prs
  have n1 : (ts.map Value.ref).toArray.size = cs.length := by rw [List.size_toArray, List.length_map, lts]
  have tat : ∀ j, j < cs.length → ∃ (q : Str × Int) (t u : Tok), ts[j]? = some (ts.getD j 0) ∧ cs[j]? = some q ∧ IsTup sA.heap (ts.getD j 0) #[.str q.1 t, .int q.2 u] := fun j lt => by
    obtain ⟨a, q, e1, e2, e3⟩ := prs.get lt
    obtain ⟨us, r2, p2, _⟩ := IA.tuple (SqT.of e3)
    have ed : ts.getD j 0 = a := by rw [List.getD_eq_getElem?_getD, e1]; rfl
    cases r2 with
    | cons ra rb =>
      cases rb with
      | cons rb rc =>
        cases rc
        obtain ⟨t, rfl⟩ := ra
        obtain ⟨u, rfl⟩ := rb
        exact ⟨q, t, u, by rw [ed]; exact e1, e2, by rw [ed]; exact p2⟩
  have ylt : yl < sA.heap.objs.size := IsTup.lt pl
  refine wpAny_pyIter_tuple pl ?_
  generalize ho : ({ cls := .type "tuple_iterator", data := .fields #[.ref yl, .int 0 0] } : Obj) = o
  have itr : (sA.heap.push o).IsTupleIter sA.heap.objs.size yl 0 := by
    subst ho
    exact ⟨_, Heap.get?_push_size _ rfl, rfl, rfl⟩
  have tabS : sA.heap.get? P = some { cls := .none, data := .fields tb0 } := IA.hok P _ hP
  have Plt : P < sA.heap.objs.size := Heap.lt_size tabS
  have tabS2 : (sA.heap.push o).get? P = some { cls := .none, data := .fields tb0 } := Heap.get?_push_of_some _ tabS
  have cdh : PySem.W.CodeHd (sA.heap.push o) c P := TB.code.keeps fun b u e => Heap.get?_push_of_some _ (IA.bk b u e)
  have limA : (sA.heap.push o).NoLimit := IA.nolimit.push o
  refine ⟨limA, ?_⟩
  have goOn : ∀ (code : Value) (hC : Heap) (tk : Nat) (tb1 : Array Value), Heap.ExtBut P (sA.heap.push o) hC → (sA.heap.push o).objs.size ≤ hC.objs.size → hC.get? P = some { cls := .none, data := .fields tb1 } → (∃ more, tb1 = tb0 ++ more) → TriplesOk tb1.toList →
      wpAny (model X.prog X.w) X.A (builtinsFor X.env.globals X.env.builtins) (fun bi sQ =>
        ∃ I fps wrs n₀ Pt St₀ Mid pz F, Value.ref sA.heap.objs.size = .ref I ∧ (∀ A' : Around, A'.handled = none → WalksU X.prog X.w A' I fps wrs n₀ Pt St₀ Mid) ∧ (∀ i vals, Pt i vals → ∃ va vb, vals = #[va, vb]) ∧ St₀ 0 sQ.heap ∧ (∀ b ∈ fps, b < sQ.heap.objs.size) ∧ sQ.heap.NoLimit ∧ cStatics ∉ wrs ∧
          (∀ hRef : Heap, (∀ b o, sQ.heap.get? b = some o → hRef.get? b = some o) →
            QuietGenT X.prog X.w (genEnv scope (cloFrom X.env.cells scope.names []) sQ.heap.objs.size code bi X.env) xa xb [] (.Name xb px) (List.range sQ.heap.objs.size) wrs Pt pz F hRef) ∧
          (∀ a hR tk gN, gN.bare = true → sQ.heap.objs.size < a → hR.objs.size = a + 1 → (∀ b o, sQ.heap.get? b = some o → hR.get? b = some o) →
            WalksS X.prog X.w X.A.in4 a (a :: sQ.heap.objs.size :: List.range sQ.heap.objs.size) (sQ.heap.objs.size :: wrs) (GenOnlyQ sQ.gens.size) (passing pz n₀ 0).length
              (fun j y => ∃ i, (passing pz n₀ 0)[j]? = some i ∧ F i y) (GenAt X.prog X.w X.A.in4 a sQ.gens.size sQ.heap.objs.size (List.range sQ.heap.objs.size) wrs pz n₀ F) →
            GenAt X.prog X.w X.A.in4 a sQ.gens.size sQ.heap.objs.size (List.range sQ.heap.objs.size) wrs pz n₀ F 0 { sQ with gens := sQ.gens.push gN, toks := tk, heap := hR } →
            Z (.ref a) { sQ with gens := sQ.gens.push gN, toks := tk, heap := hR })) X.xe { sA with heap := hC, toks := tk } := by
    intro code hC tk tb1 hx hsz tabC moreP triC
    obtain ⟨mm, mo, e1, e2, e3, q4, q5, e6, e7, e8⟩ := TB.bm
    have nP : cStatics ≠ P := fun e => by
      obtain ⟨_, nsx, _⟩ := IA.nolimit
      obtain ⟨o', es, ep, ho, hd, _⟩ := nsx
      rw [e, tabS] at ho
      cases ho
      cases hd
    have stl : cStatics < sA.heap.objs.size := let ⟨_, nsx, _⟩ := IA.nolimit; nsx.lt
    have szA : (sA.heap.push o).objs.size = sA.heap.objs.size + 1 := Heap.size_push ..
    have kC : ∀ b u, b ≠ P → sA.heap.get? b = some u → hC.get? b = some u := fun b u inb e => hx b u inb (Heap.get?_push_of_some _ e)
    refine wpAny_builtinsFor (m := X.mg) (by rw [IA.ok.glob]; exact ((IA.mod.glob.keeps IA.bk).push o).extBut hx TB.gP) e1 e2 (kC _ _ q4 (IA.bk _ _ q5)) e6 e7 e8 ?_
    have tupP : ∀ {a : Addr} {vs : Array Value}, IsTup sA.heap a vs → a ≠ P := fun y z => by
      obtain ⟨_, e, hc1, _, hd1⟩ := y
      rw [z, tabS] at e
      cases e
      cases hd1
    have tup3 : ∀ {a : Addr} {vs : Array Value}, IsTup sA.heap a vs → hC.IsTuple a vs := fun y => by
      have np := tupP y
      obtain ⟨u, e, rr⟩ := y
      exact ⟨u, kC _ _ np e, rr⟩
    have itr3 : hC.IsTupleIter sA.heap.objs.size yl 0 := itr.at fun u e => hx _ u (Nat.ne_of_gt Plt) e
    have tl : ∀ j, j < cs.length → ts.getD j 0 < sA.heap.objs.size := fun j lt => by
      obtain ⟨q, t, u, _, _, z⟩ := tat j lt
      exact IsTup.lt z
    have Wk : ∀ A' : Around, A'.handled = none → WalksU X.prog X.w A' sA.heap.objs.size (sA.heap.objs.size :: yl :: (List.range (ts.map Value.ref).toArray.size).map fun j => ts.getD j 0) [sA.heap.objs.size] (ts.map Value.ref).toArray.size
        (fun j v => v = if j < cs.length then seqOf sA.heap (ts.getD j 0) else #[.none, .none])
        (fun j h => h.IsTupleIter sA.heap.objs.size yl j ∧ h.IsTuple yl (ts.map Value.ref).toArray ∧ ∀ k, k < (ts.map Value.ref).toArray.size → h.IsTuple (ts.getD k 0) (if k < cs.length then seqOf sA.heap (ts.getD k 0) else #[.none, .none]))
        (fun j a h => (j < (ts.map Value.ref).toArray.size ∧ a = ts.getD j 0) ∧ h.IsTupleIter sA.heap.objs.size yl (j + 1) ∧ h.IsTuple yl (ts.map Value.ref).toArray ∧ ∀ k, k < (ts.map Value.ref).toArray.size → h.IsTuple (ts.getD k 0) (if k < cs.length then seqOf sA.heap (ts.getD k 0) else #[.none, .none])) := fun A' hA => by
      refine walk_pairs hA _ _ (Nat.ne_of_lt ylt) _ (fun j => ts.getD j 0) (fun j => if j < cs.length then seqOf sA.heap (ts.getD j 0) else #[.none, .none]) (fun j lt => ?_) fun j lt => ?_
      · obtain ⟨q, t, u, e9, _⟩ := tat j (by omega)
        rw [List.getElem?_toArray, List.getElem?_map, e9]
        rfl
      · exact Nat.ne_of_lt (tl j (by omega))
    refine ⟨sA.heap.objs.size, _, [sA.heap.objs.size], _, _, _, _, (fun _ => true), (fun i y => i < cs.length → ∃ (q : Str × Int) (t : Tok), cs[i]? = some q ∧ y = .int q.2 t), rfl, Wk, fun i vals hv => ?_, ?_, ?_, limA.extBut hx nP, ?_, ?_, ?_⟩
    · rw [hv]
      by_cases lt : i < cs.length
      · obtain ⟨q, t, u, _, _, z⟩ := tat i lt
        rw [if_pos lt, seqOf_at z]
        exact ⟨_, _, rfl⟩
      · rw [if_neg lt]
        exact ⟨_, _, rfl⟩
    · refine ⟨itr3, tup3 pl, fun k lt => ?_⟩
      have lt2 : k < cs.length := by omega
      obtain ⟨q, t, u, _, _, z⟩ := tat k lt2
      rw [if_pos lt2, seqOf_at z]
      exact tup3 z
    · intro b inb
      show b < hC.objs.size
      have z3 : sA.heap.objs.size < hC.objs.size := by omega
      rcases List.mem_cons.mp inb with z | z
      · rw [z]
        exact z3
      · rcases List.mem_cons.mp z with z | z
        · rw [z]
          exact Nat.lt_trans ylt z3
        · obtain ⟨j, ltJ, e9⟩ := List.mem_map.mp z
          have z4 := tl j (by have := List.mem_range.mp ltJ; omega)
          rw [← e9]
          exact Nat.lt_trans z4 z3
    · intro z
      rcases List.mem_cons.mp z with z | z
      · exact Nat.ne_of_lt stl z
      · cases z
    · intro hRef keepR
      refine ⟨fun A' E' i va vb s₂ m₂ hA hPv hn hm hm2 hk => ?_, fun A' E' i va vb s₂ m₂ hA hPv hp hn hm hm2 hk => ?_⟩
      · simp only [List.forIn_nil]
        exact wpAny_pure ⟨rfl, GxR.keeps_refl _⟩
      · refine wpAny_Name (wpAny_loadName_local S.kind loc2 hn hm2 ?_) nd
        refine ⟨fun lt => ?_, GxR.keeps_refl _⟩
        obtain ⟨q, t, u, _, e9, z⟩ := tat i lt
        rw [if_pos lt, seqOf_at z] at hPv
        refine ⟨q, u, e9, ?_⟩
        injection hPv with e10
        injection e10 with e10 e11
        injection e11 with e11
    · intro g hD tkD gN bareG ltG szD kpD WD atG
      simp only [GxR.passing_true, List.length_range] at WD
      rw [n1] at WD atG
      refine hZ cs H1 g _ q1 ⟨_, _, _, _, _, WD.in4_3, atG, ?_, List.mem_cons_self, fun i sS zS => ?_, ?_, fun s' hm => ?_⟩
      · intro b inb
        show b < hD.objs.size
        have y5 : hD.objs.size = g + 1 := szD
        have y8 : hC.objs.size < g := ltG
        rw [y5]
        rcases List.mem_cons.mp inb with z | z
        · rw [z]
          exact Nat.lt_succ_self g
        · rcases List.mem_cons.mp z with z | z
          · rw [z]
            exact Nat.lt_succ_of_lt y8
          · have y7 : b < hC.objs.size := List.mem_range.mp z
            exact Nat.lt_succ_of_lt (Nat.lt_trans y7 y8)
      · obtain ⟨z, _⟩ := zS
        exact z.typeIs
      · intro j v hv
        obtain ⟨i, atI1, e9⟩ := hv
        obtain ⟨ltJ, atE⟩ := List.getElem?_eq_some_iff.mp atI1
        rw [List.getElem_range] at atE
        subst atE
        exact e9 (by rw [List.length_range] at ltJ; exact ltJ)
      · obtain ⟨more, eM⟩ := moreP
        have nowr : ∀ b u, sA.heap.get? b = some u → b ∉ hC.objs.size :: [sA.heap.objs.size] := fun b u e inb => by
          have hl := Heap.lt_size e
          have z3 : sA.heap.objs.size < hC.objs.size := by omega
          rcases List.mem_cons.mp inb with z | z
          · rw [z] at hl
            exact Nat.lt_irrefl _ (Nat.lt_trans hl z3)
          · rcases List.mem_cons.mp z with z | z
            · rw [z] at hl
              exact Nat.lt_irrefl _ hl
            · cases z
        have J := GxR.inv_tab (more := more) (h' := s'.heap) (g' := s'.gens) (d' := s'.drawn) (t' := s'.toks) IA hP (fun b u nb e => hm.heap b u (nowr b u e) (kpD b u (kC b u nb e)))
          (by rw [← eM]; exact hm.heap P _ (nowr P _ tabS) (kpD P _ tabC)) (AllBare.movedS (IA.bare.push bareG) hm)
        rw [GxR.sh_eta sA s' hm.os] at J
        exact ⟨upd H1 P (.tbl (tb0 ++ more)), ⟨⟨tb0 ++ more, upd_same, by rw [← eM]; exact triC⟩, fun b nb => upd_ne nb⟩, J⟩
  cases hf : codeAmong gpos tb0.toList with
  | none =>
    refine wpAny_genexprCodeX code1 (cdh.code tabS2 ht) (cdh.tab tabS2) hf fun c' h' tk hx hge hlt cob _ ctab _ => ?_
    obtain ⟨o1, vs, f1, tf, fl, tg, inq, tx, tt, op, _, _, _, _, _, _, _, _, _, trp, _⟩ := cob
    exact goOn _ h' tk _ hx (Nat.le_trans hge (Nat.le_of_lt hlt)) ctab.2 ⟨_, rfl⟩ trp
  | some cv =>
    refine wpAny_genexprCode_hit code1 (cdh.code tabS2 ht) hf ?_
    exact goOn cv (sA.heap.push o) sA.toks tb0 (Heap.ExtBut.refl _ _) (Nat.le_refl _) tabS2 ⟨#[], by simp⟩ ht
/-- tuple(b for a, b in te) -/
def tTupSnd (P : Addr) (te : TE) : TE := fun σ H Q => te σ H fun v H1 => ∃ (yl : Addr) (ts : List Addr) (cs : List (Str × Int)), v = .ref yl ∧ H1 yl = some (.tup (ts.map V.ref)) ∧ Pairs H1 ts cs ∧ GxR.TabG H1 P ∧
  cs.length ≤ 1000 ∧ ∀ (H2 H3 : Hp) (p : Addr), GxR.Tabbed P H1 H2 → Same H2 H3 → H3 p = some (.tup (cs.map fun q => V.int q.2)) → Q (.ref p) H3
end
section
variable {X : Cx}
theorem pe_tupSnd {c P : Addr} {iter : Expr} {xa xb : Str} {px pa pb pt gpos p pos : Pos} {kt : Nat} {scope : Scope} {te : TE} {k : Nat}
    (hr : Room k X.A) (TB : GxR.TabB X.base X.mg c P) (code1 : X.env.code = .ref c) (S : GxR.GenS X.env scope xa) (loc2 : scope.names.lookup xb = some .local) (ab : xa ≠ xb) (nd : (xb == ("__debug__" : Str)) = false) (it : PE X iter te)
    (fold : ∀ v, genFold iter X.env v = pure v) (hg : Gl X "tuple") (hm : X.mg "tuple" = none)
    (star1 : starEach [.GeneratorExp (.Name xb px) [⟨.Tuple [.Name xa pa, .Name xb pb] kt pt, iter, [], 0⟩] scope gpos] X.env = (false, eval (.GeneratorExp (.Name xb px) [⟨.Tuple [.Name xa pa, .Name xb pb] kt pt, iter, [], 0⟩] scope gpos) X.env) :: starEach [] X.env := by rfl) :
    PE X (.Call (.Name "tuple" p) [.GeneratorExp (.Name xb px) [⟨.Tuple [.Name xa pa, .Name xb pb] kt pt, iter, [], 0⟩] scope gpos] [] pos) (tTupSnd P te) := by
  refine ⟨fun pins s σ H Q I hh0 => ?_⟩
  refine wpAny_Call_Name_kw (ld_blt I hg hm boot_tuple ?_)
  refine PyProof.Rows.callWith_type1 ?_ star1 rfl
  rw [star1]
  show wpAny _ _ (spliced ((false, eval (.GeneratorExp (.Name xb px) [⟨.Tuple [.Name xa pa, .Name xb pb] kt pt, iter, [], 0⟩] scope gpos) X.env) :: backTo pos (starEach [] X.env))) _ _ s
  refine Calls.spliced_cons (gen_snd (R := fun cs H1 => cs.length ≤ 1000 ∧ ∀ (H2 H3 : Hp) (p : Addr), GxR.Tabbed P H1 H2 → Same H2 H3 → H3 p = some (.tup (cs.map fun (q : Str × Int) => V.int q.2)) → Q (.ref p) H3) hr TB code1 S loc2 ab nd it fold I hh0 fun cs H1 g s5 hR hG => ?_)
  refine Calls.spliced_nil ?_
  obtain ⟨fp, wr, G, F, St, W, hst, hfp, hgf, hT, hF, hinv⟩ := hG
  obtain ⟨few, q⟩ := hR
  have few2 : cs.length ≤ sizeLine := Nat.le_trans few (by decide)
  refine call_tuple_gen (n := cs.length) W hT hst hfp hgf (fun s' acc hm2 hio => ?_) (hsz := few2)
  obtain ⟨H2, tb, J⟩ := hinv s' hm2
  have rv : Vals (cs.map fun q => V.int q.2) acc.toList := by
    refine vals_of_at (by rw [List.length_map, Array.length_toList]; exact hio.1.symm) fun j x u e1 e2 => ?_
    obtain ⟨q0, t, e3, e4⟩ := hF j u (hio.2 j u (by rw [← Array.getElem?_toList]; exact e2))
    rw [List.getElem?_map, e3] at e1
    cases e1
    exact ⟨t, e4⟩
  have nf : H2 s'.heap.objs.size = none := J.hok.fresh (Nat.le_refl _)
  have new : Inv X pins σ (upd H2 s'.heap.objs.size (.tup (cs.map fun q => V.int q.2))) { s' with heap := s'.heap.push { cls := .type "tuple", data := .seq acc } } := by
    refine J.laid (t' := s'.toks) (fun c o e => Heap.get?_push_of_some _ e) (Nat.le_refl _) ?_
    refine ⟨by rw [List.length_map]; exact few2, acc.toList, rv, ?_⟩
    rw [Array.toArray_toList]
    exact IsTup.new _ _
  exact ⟨.ref s'.heap.objs.size, _, new, rfl, q _ _ _ tb (same_upd nf) upd_same⟩
end
/-- what stands is kept, but the table at P -/
def KeepT (P : Addr) (H H' : Hp) : Prop := ∀ b o, b ≠ P → H b = some o → H' b = some o
def spFirst (TB Pt : Addr) : Sp := fun vs H Q _ => ∃ (a da : Addr) (wn : Nat) (y : V) (D : PD) (pr : List Stp), vs = [.ref a] ∧ PrAt Pt da H a wn y D pr ∧ D.cs.length ≤ 3 ∧ GxR.TabG H TB ∧
  ∀ (H' : Hp) (q : Addr), KeepT TB H H' → GxR.TabG H' TB → Tr H' (.ref q) (innD (D.cs.map (·.2), none)) → Q (.ref q) H'
abbrev s_first_inner : Stmt := topS 18
theorem sc_first_inner : FnScope ["part", "_", "worth"] ["part"] (defScope s_first_inner) := ⟨rfl, rfl, rfl, by decide +kernel, rfl, by decide +kernel, by decide +kernel⟩
section
variable {P : Program} {w : World} {K : PySem.W.Frag} {mg : Str → Option Value} {base : Heap} {Pt c TB : Addr}
theorem ok_first_inner {f : Addr} {fd : FuncData} (B : Bt mg) (CC : ClT K Pt) (F : FunT K "first_inner" "first_inner" s_first_inner f fd c) (TB1 : GxR.TabB base mg c TB) : FnOk P w K mg base (L2.CX P w) 1 f fd ["part"] (spFirst TB Pt) := by
  refine F.okC sc_first_inner (fun vs H Q E h => ?_) (fun A0 outer s H vs Q E hr h => ?_)
  · obtain ⟨a, da, wn, y, D, pr, rfl, _⟩ := h
    rfl
  · obtain ⟨a, da, wn, y, D, pr, rfl, pa, lc, tab, k⟩ := h
    have S := sc_first_inner
    refine ⟨_, (pss_one (ps_ret (pe_tup (pa_cons (pe_tupSnd hr TB1 rfl ⟨rfl, rfl, by decide +kernel, by decide +kernel, by decide +kernel, fun y hy e => absurd e ((show ∀ y ∈ ([(".0", .local), ("_", .local), ("worth", .local)] : List (Str × NameKind)), y.2 ≠ .free by decide +kernel) y hy)⟩ (by decide +kernel) (by decide +kernel) (by decide +kernel) (pe_fld (pv 0) rfl) (fun _ => rfl) (by rfl) B.m_tuple) (pa_cons (pe_tup pa_nil) pa_nil))))), ?_⟩
    obtain ⟨⟨ct, pt, sd, dt, stp, ak, ts0, xs, kvs, F0⟩, eds, w2, w4⟩ := id pa
    dsimp only [tRet, tTup, tCons, tNil, tTupSnd]
    refine (val_fld (val_var rfl) F0.o CC.cl (CC.at (by decide +kernel)) pF_cells) _ ?_
    refine ⟨ct, ts0, D.cs, rfl, F0.ct, F0.ts, tab, by omega, fun H2 H3 p tb s23 hp => ?_⟩
    refine ⟨by show 0 ≤ sizeLine; decide, fun q nq => ?_⟩
    have s4 := same_upd (o := .tup []) nq
    refine ⟨by show 2 ≤ sizeLine; decide, fun q2 nq2 => ?_⟩
    have s5 := same_upd (o := .tup [.ref p, .ref q]) nq2
    refine k _ q2 (fun b o n e => s5 _ _ (s4 _ _ (s23 _ _ (by rw [tb.2 b n]; exact e)))) ?_ (tr2 upd_same ?_ (.tup (s5 _ _ upd_same) .nil))
    · obtain ⟨⟨qq, h1, h2⟩, _⟩ := tb
      exact ⟨qq, s5 _ _ (s4 _ _ (s23 _ _ h1)), h2⟩
    · have hp5 : ClAt (upd (upd H3 q (.tup [])) q2 (.tup [.ref p, .ref q])) p (D.cs.map (·.2)) := by
        refine s5 _ _ (s4 _ _ ?_)
        rw [List.map_map]
        exact hp
      exact hp5.tr
end
end K5
namespace K5
open PySem PySem.Spec PyProof.Rows L2
/-! ### forms of inners -/
def belowV (m : Int) : V → Bool
  | .int i => decide (0 ≤ i) && decide (i < m)
  | _ => false
def answerV (m : Int) : V → Bool
  | .int i => decide (-2 ≤ i) && decide (i < m)
  | _ => false
def spBelow : Sp := fun vs H Q _ => ∃ (x : V) (T : String) (m : Int), vs = [x, .int m] ∧ Kd H x T ∧ Q (.bl (belowV m x)) H
def spAnswer : Sp := fun vs H Q _ => ∃ (x : V) (T : String) (m : Int), vs = [x, .int m] ∧ Kd H x T ∧ Q (.bl (answerV m x)) H
/-- is_tuple of a tuple -/
def spIsTup : Sp := fun vs H Q _ => ∃ (p : Addr) (xs : List V) (n : Nat), vs = [.ref p, .int (n : Nat)] ∧ H p = some (.tup xs) ∧ Q (.bl (decide (xs.length = n))) H
abbrev s_is_below : Stmt := topS 9
theorem sc_is_below : FnScope ["value", "many"] ["value", "many"] (defScope s_is_below) := ⟨rfl, rfl, rfl, by decide +kernel, rfl, by decide +kernel, by decide +kernel⟩
abbrev s_is_answer : Stmt := topS 11
theorem sc_is_answer : FnScope ["value", "worths"] ["value", "worths"] (defScope s_is_answer) := ⟨rfl, rfl, rfl, by decide +kernel, rfl, by decide +kernel, by decide +kernel⟩
abbrev s_is_tuple : Stmt := topS 14
theorem sc_is_tuple : FnScope ["value", "size"] ["value", "size"] (defScope s_is_tuple) := ⟨rfl, rfl, rfl, by decide +kernel, rfl, by decide +kernel, by decide +kernel⟩
abbrev s_is_wait : Stmt := topS 22
theorem sc_is_wait : FnScope ["part", "value", "line", "it"] ["part", "value"] (defScope s_is_wait) := ⟨rfl, rfl, rfl, by decide +kernel, rfl, by decide +kernel, by decide +kernel⟩
abbrev s_is_inner : Stmt := topS 21
abbrev nmInn : List Str := ["part", "value", "cells", "wait", "worth"]
theorem sc_is_inner : FnScope nmInn ["part", "value"] (defScope s_is_inner) := ⟨rfl, rfl, rfl, by decide +kernel, rfl, by decide +kernel, by decide +kernel⟩
theorem bt_tuple : bootBuiltins "tuple" = some (.type "tuple") := by decide +kernel
theorem kit_tt : kitB "tuple" "tuple" = some true := by decide +kernel
/-- the asks by their lines -/
def askAt (as : List (Nat × PyData)) (n : Nat) : Option PyData := (as.find? fun q => decide (q.1 = n)).map (·.2)
theorem AkAt.get {H : Hp} {n : Nat} : ∀ {kvs : List (Key × V)} {as : List (Nat × PyData)} {d : PyData}, AkAt H kvs as → askAt as n = some d → ∃ v, valV kvs (.inl (n : Int)) = some v ∧ Tr H v d := by
  intro kvs as d h
  unfold AkAt at h
  induction h with
  | nil => intro e; cases e
  | @cons p q ps qs h t ih =>
    intro e
    by_cases c : q.1 = n
    · have c2 : p.1 = (Sum.inl (n : Int) : Key) := by rw [h.1, c]
      have e2 : askAt (q :: qs) n = some q.2 := by simp [askAt, c]
      rw [e2] at e
      cases e
      exact ⟨p.2, valV_pos c2, h.2⟩
    · have c2 : ¬ p.1 = (Sum.inl (n : Int) : Key) := by
        rw [h.1]
        intro z
        injection z with z
        omega
      have e2 : askAt (q :: qs) n = askAt qs n := by simp [askAt, c]
      rw [e2] at e
      obtain ⟨v, h1, h2⟩ := ih e
      exact ⟨v, (valV_neg c2).trans h1, h2⟩
/-- an inner of this part -/
structure InnOk (wn : Nat) (D : PD) (i : Inn) : Prop where
  len : i.1.length = D.cs.length
  few : D.cs.length ≤ 3
  val : ∀ v ∈ i.1, 0 ≤ v ∧ v < (wn : Int)
  wait : ∀ n v, i.2 = some (n, v) → (∃ d, askAt D.as n = some d) ∧ 0 ≤ v ∧ v < (wn : Int)
def spIsWait (Pt : Addr) : Sp := fun vs H Q _ => ∃ (a p da : Addr) (wn : Nat) (y : V) (D : PD) (pr : List Stp) (n : Nat) (v : Int), vs = [.ref a, .ref p] ∧ PrAt Pt da H a wn y D pr ∧ H p = some (.tup [.int (n : Nat), .int v]) ∧ (∃ d, askAt D.as n = some d) ∧ 0 ≤ v ∧ v < (wn : Int) ∧ Q (.bl true) H
def spIsInner (Pt : Addr) : Sp := fun vs H Q _ => ∃ (a p da : Addr) (wn : Nat) (y : V) (D : PD) (pr : List Stp) (i : Inn), vs = [.ref a, .ref p] ∧ PrAt Pt da H a wn y D pr ∧ Tr H (.ref p) (innD i) ∧ InnOk wn D i ∧ ∀ H', Same H H' → Q (.bl true) H'
theorem inn_at {H : Hp} {p : Addr} {i : Inn} (h : Tr H (.ref p) (innD i)) : ∃ c w, H p = some (.tup [.ref c, .ref w]) ∧ ClAt H c i.1 ∧ Tr H (.ref w) (waitD i.2) := by
  obtain ⟨vs, h1, r⟩ := tup_cases (ds := [cellsD i.1, waitD i.2]) h
  obtain ⟨v0, ws, rfl, r0, r⟩ := trs_cons r
  obtain ⟨v1, ws, rfl, r1, r⟩ := trs_cons r
  obtain rfl := trs_nil r
  obtain ⟨c, rfl⟩ := tr_ref r0
  obtain ⟨w, rfl⟩ : ∃ w, v1 = .ref w := by
    cases hw : i.2 with
    | none => rw [hw] at r1; exact tr_ref r1
    | some q => rw [hw] at r1; exact tr_ref r1
  refine ⟨c, w, h1, ?_, r1⟩
  obtain ⟨us, h2, h3⟩ := tup_cases r0
  have e : ∀ (us : List V) (l : List Int), Trs H us (l.map PyData.int) → us = l.map V.int := by
    intro us l
    induction l generalizing us with
    | nil => intro h; exact trs_nil h
    | cons i l ih =>
      intro h
      obtain ⟨u, us', rfl, hu, h⟩ := trs_cons h
      rw [tr_int hu, ih _ h]
      rfl
  rw [e _ _ h3] at h2
  exact h2
section
variable {P : Program} {w : World} {K : PySem.W.Frag} {mg : Str → Option Value} {base : Heap} {Pt : Addr}
theorem ok_is_below {f fI : Addr} {fd fdI : FuncData} (B : Bt mg) (D : Df K mg "is_below" s_is_below f fd ["value", "many"]) (D_is_integer : Df K mg "is_integer" s_is_integer fI fdI ["value"]) : FnOk P w K mg base CX0 2 f fd ["value", "many"] spBelow := by
  have G_is_integer : FnOk P w K mg base CX0 1 fI fdI ["value"] spIsInt := ok_is_integer B D_is_integer
  refine D.F.ok sc_is_below (fun vs H Q E h => ?_) (fun cdv A outer s H vs Q E hr h => ?_)
  · obtain ⟨x, T, m, rfl, _⟩ := h
    rfl
  · obtain ⟨x, T, m, rfl, hx, k⟩ := h
    have S := sc_is_below
    refine ⟨_, (pss_one (ps_ret (pe_and (pe_call G_is_integer (hr.mono (by decide)) (by rfl) D_is_integer.g D_is_integer.F.kp D_is_integer.b .nil pass0 (pa_cons (pv 0) pa_nil)) (pe_one (pe_chain op_le op_lt pe_int (pv 0) (pv 1)))))), ?_⟩
    refine (val_call (va_cons (val_var rfl) va_nil) fun Q q => ⟨x, T, rfl, hx, q⟩) _ ⟨_, rfl, ?_⟩
    cases hx with
    | int i => exact iteT ((val_chain val_c (val_var rfl) (val_var rfl)) _ k)
    | _ => exact iteF k
theorem ok_is_answer {f fI : Addr} {fd fdI : FuncData} (B : Bt mg) (D : Df K mg "is_answer" s_is_answer f fd ["value", "worths"]) (D_is_integer : Df K mg "is_integer" s_is_integer fI fdI ["value"]) : FnOk P w K mg base CX0 2 f fd ["value", "worths"] spAnswer := by
  have G_is_integer : FnOk P w K mg base CX0 1 fI fdI ["value"] spIsInt := ok_is_integer B D_is_integer
  refine D.F.ok sc_is_answer (fun vs H Q E h => ?_) (fun cdv A outer s H vs Q E hr h => ?_)
  · obtain ⟨x, T, m, rfl, _⟩ := h
    rfl
  · obtain ⟨x, T, m, rfl, hx, k⟩ := h
    have S := sc_is_answer
    refine ⟨_, (pss_one (ps_ret (pe_and (pe_call G_is_integer (hr.mono (by decide)) (by rfl) D_is_integer.g D_is_integer.F.kp D_is_integer.b .nil pass0 (pa_cons (pv 0) pa_nil)) (pe_one (pe_chain op_le op_lt (pe_un un_neg pe_int) (pv 0) (pv 1)))))), ?_⟩
    refine (val_call (va_cons (val_var rfl) va_nil) fun Q q => ⟨x, T, rfl, hx, q⟩) _ ⟨_, rfl, ?_⟩
    cases hx with
    | int i => exact iteT ((val_chain (val_neg val_c) (val_var rfl) (val_var rfl)) _ k)
    | _ => exact iteF k
theorem ok_is_tup {f : Addr} {fd : FuncData} (B : Bt mg) (D : Df K mg "is_tuple" s_is_tuple f fd ["value", "size"]) : FnOk P w K mg base CX0 1 f fd ["value", "size"] spIsTup := by
  refine D.F.ok sc_is_tuple (fun vs H Q E h => ?_) (fun cdv A outer s H vs Q E hr h => ?_)
  · obtain ⟨p, xs, n, rfl, _⟩ := h
    rfl
  · obtain ⟨p, xs, n, rfl, hp, k⟩ := h
    have S := sc_is_tuple
    refine ⟨_, (pss_one (ps_ret (pe_and (pe_callB call_isi (by rfl) B.m_isinstance PyProof.Rows.boot_isinstance (pa_cons (pv 0) (pa_cons (pe_tyN bt_tuple (by rfl) B.m_tuple) pa_nil))) (pe_one (pe_cmpR op_eq (pe_callB call_len_seq (by rfl) B.m_len PySem.boot_len (pa_cons (pv 0) pa_nil)) (pv 1) (nomark _)))))), ?_⟩
    refine (val_isi (val_var rfl) (Kd.tup hp) kit_tt) _ ⟨_, rfl, ?_⟩
    refine iteT ((val_op (z := .bl (decide (xs.length = n))) (val_lenT (val_var rfl) (SqT.of hp)) (val_var rfl) fun Q q => ⟨rfl, ?_⟩) _ k)
    have e : decide (V.int (xs.length : Nat) = V.int (n : Nat)) = decide (xs.length = n) := decide_eq_decide.mpr ⟨fun e => by injection e with e; omega, fun e => by rw [e]⟩
    rw [e]
    exact q
theorem below_in {v : Int} {wn : Nat} (h0 : 0 ≤ v) (h1 : v < (wn : Int)) : belowV (wn : Int) (.int v) = true := by
  show (decide ((0 : Int) ≤ v) && decide (v < (wn : Int))) = true
  rw [decide_eq_true h0, decide_eq_true h1]
  rfl
theorem ok_is_wait {f fT fI fB : Addr} {fd dT dI dB : FuncData} (B : Bt mg) (CC : ClT K Pt) (D : Df K mg "is_wait" s_is_wait f fd ["part", "value"]) (DT : Df K mg "is_tuple" s_is_tuple fT dT ["value", "size"]) (DI : Df K mg "is_integer" s_is_integer fI dI ["value"]) (DB : Df K mg "is_below" s_is_below fB dB ["value", "many"]) : FnOk P w K mg base CX0 3 f fd ["part", "value"] (spIsWait Pt) := by
  have GT : FnOk P w K mg base CX0 1 fT dT ["value", "size"] spIsTup := ok_is_tup B DT
  have GI : FnOk P w K mg base CX0 1 fI dI ["value"] spIsInt := ok_is_integer B DI
  have GB : FnOk P w K mg base CX0 2 fB dB ["value", "many"] spBelow := ok_is_below B DB DI
  refine D.F.ok sc_is_wait (fun vs H Q E h => ?_) (fun cdv A outer s H vs Q E hr h => ?_)
  · obtain ⟨a, p, da, wn, y, DD, pr, n, v, rfl, _⟩ := h
    rfl
  · obtain ⟨a, p, da, wn, y, DD, pr, n, v, rfl, pa, hp, ⟨d, ha⟩, v0, v1, k⟩ := h
    have S := sc_is_wait
    refine ⟨_, (pss_cons (ps_if (pt_not (pt_val (pe_call GT (hr.mono (by decide)) (by rfl) DT.g DT.F.kp DT.b .nil pass0 (pa_cons (pv 1) (pa_cons pe_int pa_nil))))) (pss_one (ps_ret pe_bl)) pss_nil)
      (pss_cons (ps_asg (pv 1) (pg_tup (by rfl) (pgs_cons (pg_name (i := 2) S.nd rfl (.inl rfl)) (pgs_cons (pg_name (i := 3) S.nd rfl (.inl rfl)) pgs_nil))))
      (pss_one (ps_ret (pe_and (pe_call GI (hr.mono (by decide)) (by rfl) DI.g DI.F.kp DI.b .nil pass0 (pa_cons (pv 2) pa_nil)) (pe_and (pe_cmp (pc_din (hu_of hr) (pv 2) (pe_fld (pv 0) rfl)) rfl) (pe_one (pe_call GB (hr.mono (by decide)) (by rfl) DB.g DB.F.kp DB.b .nil pass0 (pa_cons (pv 3) (pa_cons (pe_fld (pv 0) rfl) pa_nil)))))))))), ?_⟩
    obtain ⟨⟨ct, pt, sd, dt, stp, ak, ts0, xs, kvs, F⟩, eds, w2, w4⟩ := id pa
    dsimp only [tSeq, tIfS, tNot, tB]
    refine (val_call (va_cons (val_var rfl) (va_cons val_c va_nil)) fun Q q => ⟨p, _, 2, rfl, hp, q⟩) _ ⟨_, rfl, ?_⟩
    refine iteF ?_
    dsimp only [tNext, tSeq, tAsg]
    refine (val_var rfl) _ ?_
    refine ⟨p, _, rfl, SqT.of hp, rfl, _, _, rfl, _, _, rfl, rfl, ?_⟩
    try dsimp only [gName, List.set]
    dsimp only [tRet]
    obtain ⟨u, hu, _⟩ := F.ax.get ha
    refine (val_call (va_cons (val_var rfl) va_nil) fun Q q => ⟨_, _, rfl, Kd.int _, q⟩) _ ⟨_, rfl, iteT ?_⟩
    have vA : Val (tDIn (tVar 2) (tFld K (tVar 0) "asks")) [some (.ref a), some (.ref p), some (.int (n : Nat)), some (.int v)] H (.bl true) := fun Q q => by
      refine (val_var rfl) _ ((val_fld (val_var rfl) F.o CC.cl (CC.at (by decide +kernel)) pF_asks) _ ⟨ak, _, rfl, DGet.k (k := .inl (n : Int)) F.ak, ?_⟩)
      rw [hu]
      exact q
    refine (val_andV vA fun _ => val_call (va_cons (val_var rfl) (va_cons (val_fld (val_var rfl) F.o CC.cl (CC.at (by decide +kernel)) pF_worths) va_nil)) fun Q q => ⟨.int v, _, (wn : Nat), rfl, Kd.int _, q⟩) _ ?_
    rw [below_in v0 v1]
    exact k
end
end K5
namespace K5
open PySem PySem.Spec PyProof.Rows L2
theorem wait_eqv (w : Option (Nat × Int)) : PyData.eqv (waitD w) (.tuple []) = decide (w = none) := by
  cases w <;> simp [waitD, PyData.eqv, PyData.eqvAll]
theorem wait_shaped (w : Option (Nat × Int)) : SeqAt.shaped (waitD w) = true := by
  cases w <;> rfl
section
variable {P : Program} {w : World} {K : PySem.W.Frag} {mg : Str → Option Value} {base : Heap} {Pt : Addr}
theorem ok_is_inner {f fT fI fB fW : Addr} {fd dT dI dB dW : FuncData} (B : Bt mg) (m_all : mg "all" = none) (CC : ClT K Pt) (D : Df K mg "is_inner" s_is_inner f fd ["part", "value"]) (DT : Df K mg "is_tuple" s_is_tuple fT dT ["value", "size"]) (DI : Df K mg "is_integer" s_is_integer fI dI ["value"]) (DB : Df K mg "is_below" s_is_below fB dB ["value", "many"]) (DW : Df K mg "is_wait" s_is_wait fW dW ["part", "value"]) : FnOk P w K mg base CX0 4 f fd ["part", "value"] (spIsInner Pt) := by
  have GT : FnOk P w K mg base CX0 1 fT dT ["value", "size"] spIsTup := ok_is_tup B DT
  have GB : FnOk P w K mg base CX0 2 fB dB ["value", "many"] spBelow := ok_is_below B DB DI
  have GW : FnOk P w K mg base CX0 3 fW dW ["part", "value"] (spIsWait Pt) := ok_is_wait B CC DW DT DI DB
  refine D.F.ok sc_is_inner (fun vs H Q E h => ?_) (fun cdv A outer s H vs Q E hr h => ?_)
  · obtain ⟨a, p, da, wn, y, DD, pr, i, rfl, _⟩ := h
    rfl
  · obtain ⟨a, p, da, wn, y, DD, pr, i, rfl, pa, hp, ok, k⟩ := h
    have S := sc_is_inner
    have hu := hr.units
    refine ⟨_, (pss_cons (ps_if (pt_not (pt_val (pe_call GT (hr.mono (by decide)) (by rfl) DT.g DT.F.kp DT.b .nil pass0 (pa_cons (pv 1) (pa_cons pe_int pa_nil))))) (pss_one (ps_ret pe_bl)) pss_nil)
      (pss_cons (ps_asg (pv 1) (pg_tup (by rfl) (pgs_cons (pg_name (i := 2) S.nd rfl (.inl rfl)) (pgs_cons (pg_name (i := 3) S.nd rfl (.inl rfl)) pgs_nil))))
      (pss_cons (ps_if (PW.pt (pw_or (pt_not (pt_val (pe_call GT (hr.mono (by decide)) (by rfl) DT.g DT.F.kp DT.b .nil pass0 (pa_cons (pv 2) (pa_cons (pe_callB call_len_seq (by rfl) B.m_len PySem.boot_len (pa_cons (pe_fld (pv 0) rfl) pa_nil)) pa_nil)))))
          (pw_or1 (pt_not (pt_val (pe_callB (cr_all rfl) (by rfl) m_all (by decide +kernel) (pa_cons (pe_lc (own := [("worth", 4)]) (g := gName 4) (tt := tYes) rfl S.nd (pi_tup (pv 2)) (blkOk_by (own := [("worth", 4)]) (N := nmInn) (sc := defScope s_is_inner) (by decide +kernel)) (fun _ _ _ _ _ => pg_name (i := 4) S.nd rfl (Or.inl rfl)) (fun _ _ _ _ _ => pts_nil)
            (te := tCall spBelow [] E0 (tCons (tVar 4) (tCons (tFld K (tVar 0) "worths") tNil))) (fun _ _ _ _ _ => pe_call GB (hr.mono (by decide)) (by rfl) DB.g DB.F.kp DB.b .nil pass0 (pa_cons (pv 4) (pa_cons (pe_fld (pv 0) rfl) pa_nil)))) pa_nil))))))) (pss_one (ps_ret pe_bl)) pss_nil)
      (pss_one (ps_ret (pe_or (pe_cmpR (op_eqD (by exact hu)) (pv 3) (pe_tup pa_nil) (nomark _)) (pe_one (pe_call GW (hr.mono (by decide)) (by rfl) DW.g DW.F.kp DW.b .nil pass0 (pa_cons (pv 0) (pa_cons (pv 3) pa_nil)))))))))), ?_⟩
    obtain ⟨⟨ct, pt, sd, dt, stp, ak, ts0, xs, kvs, F⟩, eds, w2, w4⟩ := id pa
    obtain ⟨c, wt, hp2, hc, tw⟩ := inn_at hp
    obtain ⟨ln, few, val, wai⟩ := ok
    dsimp only [tSeq, tIfS, tNot, tB]
    refine (val_call (va_cons (val_var rfl) (va_cons val_c va_nil)) fun Q q => ⟨p, _, 2, rfl, hp2, q⟩) _ ⟨_, rfl, ?_⟩
    refine iteF ?_
    dsimp only [tNext, tSeq, tAsg]
    refine (val_var rfl) _ ?_
    refine ⟨p, _, rfl, SqT.of hp2, rfl, _, _, rfl, _, _, rfl, rfl, ?_⟩
    try dsimp only [gName, List.set]
    dsimp only [tSeq, tIfS, tNot, tB]
    have lts : ts0.length = DD.cs.length := Paired.length F.ts
    refine (val_call (va_cons (val_var rfl) (va_cons (val_lenT (val_fld (val_var rfl) F.o CC.cl (CC.at (by decide +kernel)) pF_cells) (SqT.of F.ct)) va_nil)) fun Q q => ⟨c, _, _, rfl, hc, q⟩) _ ⟨_, rfl, ?_⟩
    rw [show decide ((i.1.map V.int).length = (ts0.map V.ref).length) = true from decide_eq_true (by rw [List.length_map, List.length_map]; omega)]
    refine iteF ?_
    dsimp only [tNot, tB, tCB, tCons, tNil, tLc, iTup]
    refine (val_var rfl) _ ⟨c, rfl, ⟨_, SqT.of hc⟩, fun M nM => ?_⟩
    refine lc_tup (xs := i.1.map V.int) (fun j H2 => Same H H2 ∧ H2 M = some (.lst ((List.replicate j true).map V.bl))) ⟨same_upd nM, upd_same⟩ (fun j H2 _ ⟨s2, _⟩ => SqT.of (s2 _ _ hc)) (fun j x H2 hj hI => ?_) fun H2 hI => ?_
    · obtain ⟨s2, hM⟩ := hI
      obtain ⟨v, ev, rfl⟩ : ∃ v, i.1[j]? = some v ∧ x = .int v := by
        rw [List.getElem?_map] at hj
        cases e : i.1[j]? with
        | none => rw [e] at hj; cases hj
        | some i => rw [e] at hj; exact ⟨i, rfl, (Option.some.inj hj).symm⟩
      have jlt := (List.getElem?_eq_some_iff.mp ev).1
      have bv := val v (List.mem_of_getElem? ev)
      refine ⟨rfl, ?_⟩
      dsimp only [tYes]
      rw [if_pos rfl]
      refine (val_call (va_cons (val_var rfl) (va_cons (val_fld (val_var rfl) (s2 _ _ F.o) CC.cl (CC.at (by decide +kernel)) pF_worths) va_nil)) fun Q q => ⟨.int v, _, (wn : Nat), rfl, Kd.int _, q⟩) _ ?_
      rw [below_in bv.1 bv.2]
      refine ⟨_, hM, by rw [List.length_map, List.length_replicate]; exact Nat.lt_of_lt_of_le (show j < 100 by omega) (by decide), fun b o e => ?_, ?_⟩
      · rw [upd_ne (ne_of_none e nM)]
        exact s2 _ _ e
      · rw [upd_same, List.replicate_succ', List.map_append]
        rfl
    · obtain ⟨s2, hM⟩ := hI
      have al : ∀ n : Nat, (List.replicate n true).all id = true := fun n => by
        rw [List.all_eq_true]
        intro b hb
        rw [(List.mem_replicate.mp hb).2]
        rfl
      refine ⟨M, _, rfl, SqL.of hM, ?_⟩
      rw [al]
      refine ⟨true, rfl, iteF ?_⟩
      dsimp only [tNext, tRet, tOrV, tOp, tTup, tNil]
      refine (val_var rfl) _ ?_
      refine ⟨by show 0 ≤ sizeLine; decide, fun q nq => ?_⟩
      have s3 := same_upd (o := .tup []) nq
      have s03 := s2.trans s3
      refine ⟨waitD i.2, .tuple [], (tw.mono s03).dp, .tup (SqT.of upd_same) .nil, wait_shaped _, rfl, ?_⟩
      rw [wait_eqv]
      refine ⟨_, rfl, ?_⟩
      cases hw : i.2 with
      | none => exact iteT (k _ s03)
      | some z =>
        refine iteF ?_
        obtain ⟨n, v⟩ := z
        obtain ⟨w1, w2', w3⟩ := wai n v hw
        rw [hw] at tw
        obtain ⟨us, h1, h2⟩ := tup_cases (ds := [.int (n : Nat), .int v]) tw
        obtain ⟨u0, us, rfl, r0, h2⟩ := trs_cons h2
        obtain ⟨u1, us, rfl, r1, h2⟩ := trs_cons h2
        obtain rfl := trs_nil h2
        obtain rfl := tr_int r0
        obtain rfl := tr_int r1
        dsimp only [tCall]
        refine (va_cons (val_var rfl) (va_cons (val_var rfl) va_nil)) _ ?_
        exact ⟨a, wt, da, wn, y, DD, pr, n, v, rfl, pa.mono s03, s03 _ _ h1, w1, w2', w3, k _ s03⟩
end
end K5
namespace K5
open PySem PySem.Spec PyProof.Rows L2
/-- what is never come to -/
theorem ps_absurd {X : Cx} {st : Stmt} : PS X st (fun _ _ _ => False) := ⟨fun pins s σ H D I h => h.elim⟩
def stAt (cs : List (Str × Int)) (z : Str) : Option Int := (cs.find? fun q => decide (q.1 = z)).map (·.2)
theorem dOf_get {z : Str} {i : Int} : ∀ {cs : List (Str × Int)}, stAt cs z = some i → valV (dOf V.int cs) (.inr z) = some (.int i)
  | [], e => by cases e
  | (y, j) :: r, e => by
    by_cases c : y = z
    · have e2 : stAt ((y, j) :: r) z = some j := by simp [stAt, c]
      rw [e2] at e
      cases e
      exact valV_pos (p := ((Sum.inr y : Key), V.int i)) (r := dOf V.int r) (by rw [c])
    · have e2 : stAt ((y, j) :: r) z = stAt r z := by simp [stAt, c]
      rw [e2] at e
      have h1 : ¬ (Sum.inr y : Key) = .inr z := fun q => by
        injection q with q
        exact c q
      exact (valV_neg (p := ((Sum.inr y : Key), V.int j)) (r := dOf V.int r) h1).trans (dOf_get (cs := r) e)
theorem stAt_mem {z : Str} {i : Int} : ∀ {cs : List (Str × Int)}, stAt cs z = some i → z ∈ cs.map (·.1)
  | [], e => by cases e
  | (y, j) :: r, e => by
    by_cases c : y = z
    · rw [c]
      exact List.mem_cons_self ..
    · have e2 : stAt ((y, j) :: r) z = stAt r z := by simp [stAt, c]
      rw [e2] at e
      exact List.mem_cons_of_mem _ (stAt_mem (cs := r) e)
def itemsD (R : List Item) : PyData := .tuple ((sortB itemD R).map itemD)
/-- what deeds_from tells -/
def Dfs (pr : List Stp) (wn : Nat) (it hd : Int) (start : Int) (cells : List Int) (R : List Item) : Prop := ∃ (s F0 : Nat), start = (s : Int) ∧ F0 ≤ 20000 ∧ dfs pr wn it hd F0 [(s, cells)] [] [] = some R ∧ PySem.W.AllAlike (R.map itemD)
def spCalled (Pt : Addr) : Sp := fun vs H Q _ => ∃ (a p da : Addr) (wn : Nat) (y : V) (D : PD) (pr : List Stp) (i : Inn) (door : Str) (v start : Int), vs = [.ref a, .ref p, .str door, .int v] ∧ PrAt Pt da H a wn y D pr ∧ Tr H (.ref p) (innD i) ∧ InnOk wn D i ∧ stAt D.sts door = some start ∧ 0 ≤ v ∧ v < (wn : Int) ∧
  (i.2 ≠ none → ∀ (H' : Hp) (q : Addr), Same H H' → Tr H' (.ref q) (.tuple [itemD (.gives (-2), i)]) → Q (.ref q) H') ∧
  (i.2 = none → ∃ R, Dfs pr wn v 0 start i.1 R ∧ ∀ (H' : Hp) (q : Addr), Same H H' → Tr H' (.ref q) (itemsD R) → Q (.ref q) H')
def spAnswered (Pt : Addr) : Sp := fun vs H Q _ => ∃ (a p da : Addr) (wn : Nat) (y : V) (D : PD) (pr : List Stp) (cells : List Int) (n : Nat) (it ans start : Int) (po dr : Str) (R : List Item), vs = [.ref a, .ref p, .int ans] ∧ PrAt Pt da H a wn y D pr ∧ Tr H (.ref p) (innD (cells, some (n, it))) ∧ InnOk wn D (cells, some (n, it)) ∧ askAt D.as n = some (.tuple [.int start, .str po, .str dr]) ∧ -2 ≤ ans ∧ ans < (wn : Int) ∧
  Dfs pr wn it ans start cells R ∧ ∀ (H' : Hp) (q : Addr), Same H H' → Tr H' (.ref q) (itemsD R) → Q (.ref q) H'
abbrev s_called : Stmt := topS 19
abbrev nmCal : List Str := ["part", "inner", "door", "worth", "cells", "wait"]
theorem sc_called : FnScope nmCal ["part", "inner", "door", "worth"] (defScope s_called) := ⟨rfl, rfl, rfl, by decide +kernel, rfl, by decide +kernel, by decide +kernel⟩
abbrev s_answered : Stmt := topS 20
abbrev nmAns : List Str := ["part", "inner", "answer", "cells", "line", "it"]
theorem sc_answered : FnScope nmAns ["part", "inner", "answer"] (defScope s_answered) := ⟨rfl, rfl, rfl, by decide +kernel, rfl, by decide +kernel, by decide +kernel⟩
section
variable {P : Program} {w : World} {K : PySem.W.Frag} {mg : Str → Option Value} {base : Heap} {Pt : Addr}
theorem ok_called {f fI fB fG : Addr} {fd dI dB dG : FuncData} (B : Bt mg) (CC : ClT K Pt) (gB : ∃ t, mg "BUSY" = some (.int (-2) t)) (D : Df K mg "called" s_called f fd ["part", "inner", "door", "worth"]) (DI : Df K mg "is_inner" s_is_inner fI dI ["part", "value"]) (GI : FnOk P w K mg base CX0 4 fI dI ["part", "value"] (spIsInner Pt))
    (DB : Df K mg "is_below" s_is_below fB dB ["value", "many"]) (GB : FnOk P w K mg base CX0 2 fB dB ["value", "many"] spBelow) (DG : Df K mg "deeds_from" s_deeds_from fG dG ["part", "start", "cells", "it", "heard"]) (GG : FnOk P w K mg base (L2.CX P w) 4 fG dG ["part", "start", "cells", "it", "heard"] (spDeeds Pt)) :
    FnOk P w K mg base (L2.CX P w) 5 f fd ["part", "inner", "door", "worth"] (spCalled Pt) := by
  obtain ⟨tBu, gB⟩ := gB
  refine D.F.okX sc_called (fun vs H Q E h => ?_) (fun cdv A outer s H vs Q E hr h => ?_)
  · obtain ⟨a, p, da, wn, y, DD, pr, i, door, v, start, rfl, _⟩ := h
    rfl
  · obtain ⟨a, p, da, wn, y, DD, pr, i, door, v, start, rfl, pa, hp, ok, hst, v0, v1, k1, k2⟩ := h
    have S := sc_called
    refine ⟨_, (pss_cons (ps_if (pt_not (pt_val (pe_call GI (hr.mono (by decide)) (by rfl) DI.g DI.F.kp DI.b .nil pass0 (pa_cons (pv 0) (pa_cons (pv 1) pa_nil))))) (pss_one ps_absurd) pss_nil)
      (pss_cons (ps_if (pt_not (PW.pt (pw_and (pt_cmpR op_in_seq (pv 2) (pe_fld (pv 0) rfl) (by rfl)) (pw_and1 (pt_val (pe_call GB (hr.mono (by decide)) (by rfl) DB.g DB.F.kp DB.b .nil pass0 (pa_cons (pv 3) (pa_cons (pe_fld (pv 0) rfl) pa_nil)))))))) (pss_one ps_absurd) pss_nil)
      (pss_cons (ps_asg (pv 1) (pg_tup (by rfl) (pgs_cons (pg_name (i := 4) S.nd rfl (.inl rfl)) (pgs_cons (pg_name (i := 5) S.nd rfl (.inl rfl)) pgs_nil))))
      (pss_cons (ps_if (pt_truth (pv 5) (by intro _; rfl)) (pss_one (ps_ret (pe_tup (pa_cons (pe_tup (pa_cons (pe_tup (pa_cons pe_str (pa_cons (pe_glob (v := .int (-2)) (by rfl) gB ⟨_, rfl⟩) pa_nil))) (pa_cons (pv 1) pa_nil))) pa_nil)))) pss_nil)
      (pss_one (ps_ret (pe_call GG (hr.mono (by decide)) (by rfl) DG.g DG.F.kp DG.b .nil (pxp rfl rfl rfl rfl) (pa_cons (pv 0) (pa_cons (pe_dget (hu_of hr) (pe_fld (pv 0) rfl) (pv 2) (fun _ _ => rfl)) (pa_cons (pv 4) (pa_cons (pv 3) (pa_cons pe_int pa_nil)))))))))))), ?_⟩
    dsimp only [tSeq, tIfS, tNot, tB]
    dsimp only [tCall]
    refine (va_cons (val_var rfl) (va_cons (val_var rfl) va_nil)) _ ⟨a, p, da, wn, y, DD, pr, i, rfl, pa, hp, ok, fun H1 s1 => ⟨_, rfl, iteF ?_⟩⟩
    have pa := pa.mono s1
    have hp := hp.mono s1
    obtain ⟨⟨ct, pt, sd, dt, stp, ak, ts0, xs, kvs, F⟩, eds, w2, w4⟩ := id pa
    obtain ⟨c, wt, hp2, hc, tw⟩ := inn_at hp
    dsimp only [tNext, tSeq, tIfS, tNot]
    refine (val_inT (val_var rfl) (val_fld (val_var rfl) F.o CC.cl (CC.at (by decide +kernel)) pF_doors) (SqT.of F.dt)) _ ⟨_, rfl, ?_⟩
    rw [decide_eq_true (stAt_mem hst)]
    refine iteT ?_
    refine (val_call (va_cons (val_var rfl) (va_cons (val_fld (val_var rfl) F.o CC.cl (CC.at (by decide +kernel)) pF_worths) va_nil)) fun Q q => ⟨.int v, _, (wn : Nat), rfl, Kd.int _, q⟩) _ ⟨_, rfl, ?_⟩
    rw [below_in v0 v1]
    refine iteF ?_
    dsimp only [tNext, tSeq, tAsg]
    refine (val_var rfl) _ ?_
    refine ⟨p, _, rfl, SqT.of hp2, rfl, _, _, rfl, _, _, rfl, rfl, ?_⟩
    try dsimp only [gName, List.set]
    dsimp only [tSeq, tIfS]
    cases hw : i.2 with
    | some z =>
      rw [hw] at tw
      obtain ⟨us, h1, h2⟩ := tup_cases (ds := [.int (z.1 : Nat), .int z.2]) tw
      obtain ⟨u0, us, rfl, r0, h2⟩ := trs_cons h2
      refine (val_var (v := .ref wt) rfl) _ ⟨_, .inr (.inl ⟨_, SqT.of h1, rfl⟩), iteT ?_⟩
      dsimp only [tRet, tTup, tCons, tNil, tC]
      refine ⟨by show 2 ≤ sizeLine; decide, fun q1 n1 => ?_⟩
      have s2 := same_upd (o := .tup [.str "gives", .int (-2)]) n1
      refine (val_var rfl) _ ?_
      refine ⟨by show 2 ≤ sizeLine; decide, fun q2 n2 => ?_⟩
      have s3 := same_upd (o := .tup [.ref q1, .ref p]) n2
      refine ⟨by show 1 ≤ sizeLine; decide, fun q3 n3 => ?_⟩
      have s4 := same_upd (o := .tup [.ref q2]) n3
      refine k1 (by rw [hw]; exact fun e => nomatch e) _ q3 (((s1.trans s2).trans s3).trans s4) (tr1 upd_same ?_)
      refine tr2 (s4 _ _ upd_same) (tr2 (s4 _ _ (s3 _ _ upd_same)) (.str _) (.int _)) (((hp.mono s2).mono s3).mono s4)
    | none =>
      rw [hw] at tw
      obtain ⟨us, h1, h2⟩ := tup_cases (ds := []) tw
      obtain rfl := trs_nil h2
      refine (val_var (v := .ref wt) rfl) _ ⟨_, .inr (.inl ⟨_, SqT.of h1, rfl⟩), iteF ?_⟩
      obtain ⟨R, ⟨s0, F0, rfl, hF, hd, al⟩, kq⟩ := k2 hw
      dsimp only [tNext, tRet]
      have vD : Val (tDGet (tFld K (tVar 0) "starts") (tVar 2)) [some (.ref a), some (.ref p), some (.str door), some (.int v), some (.ref c), some (.ref wt)] H1 (.int (s0 : Nat)) := fun Q q => by
        refine (val_fld (val_var rfl) F.o CC.cl (CC.at (by decide +kernel)) pF_starts) _ ((val_var rfl) _ ⟨sd, _, rfl, ?_, q⟩)
        have := DGet.k (k := .inr door) F.sd
        rw [dOf_get hst] at this
        exact this
      dsimp only [tCall]
      refine (va_cons (val_var rfl) (va_cons vD (va_cons (val_var rfl) (va_cons (val_var rfl) (va_cons val_c va_nil))))) _ ?_
      have lc : i.1.length ≤ 1000 := by
        have h1 := ok.len
        have h2 := ok.few
        omega
      exact ⟨a, c, da, s0, wn, F0, y, DD, pr, i.1, v, 0, R, rfl, pa, hc, lc, hF, hd, al, fun H' q s' tr => kq H' q (s1.trans s') tr⟩
theorem answer_in {v : Int} {wn : Nat} (h0 : -2 ≤ v) (h1 : v < (wn : Int)) : answerV (wn : Int) (.int v) = true := by
  show (decide ((-2 : Int) ≤ v) && decide (v < (wn : Int))) = true
  rw [decide_eq_true h0, decide_eq_true h1]
  rfl
theorem ok_answered {f fI fB fG : Addr} {fd dI dB dG : FuncData} (B : Bt mg) (CC : ClT K Pt) (D : Df K mg "answered" s_answered f fd ["part", "inner", "answer"]) (DI : Df K mg "is_inner" s_is_inner fI dI ["part", "value"]) (GI : FnOk P w K mg base CX0 4 fI dI ["part", "value"] (spIsInner Pt))
    (DB : Df K mg "is_answer" s_is_answer fB dB ["value", "worths"]) (GB : FnOk P w K mg base CX0 2 fB dB ["value", "worths"] spAnswer) (DG : Df K mg "deeds_from" s_deeds_from fG dG ["part", "start", "cells", "it", "heard"]) (GG : FnOk P w K mg base (L2.CX P w) 4 fG dG ["part", "start", "cells", "it", "heard"] (spDeeds Pt)) :
    FnOk P w K mg base (L2.CX P w) 5 f fd ["part", "inner", "answer"] (spAnswered Pt) := by
  refine D.F.okX sc_answered (fun vs H Q E h => ?_) (fun cdv A outer s H vs Q E hr h => ?_)
  · obtain ⟨a, p, da, wn, y, DD, pr, cells, n, it, ans, start, po, dr, R, rfl, _⟩ := h
    rfl
  · obtain ⟨a, p, da, wn, y, DD, pr, cells, n, it, ans, start, po, dr, R, rfl, pa, hp, ok, has, a0, a1, ⟨s0, F0, rfl, hF, hd, al⟩, k⟩ := h
    have S := sc_answered
    have hu := hr.units
    refine ⟨_, (pss_cons (ps_if (PW.pt (pw_or (pt_not (pt_val (pe_call GI (hr.mono (by decide)) (by rfl) DI.g DI.F.kp DI.b .nil pass0 (pa_cons (pv 0) (pa_cons (pv 1) pa_nil))))) (pw_or1 (pt_cmpR (op_eqD (by exact hu)) (pe_ix ix_tup (pv 1) pe_int (fun _ _ => rfl)) (pe_tup pa_nil) (nomark _))))) (pss_one ps_absurd) pss_nil)
      (pss_cons (ps_if (pt_not (pt_val (pe_call GB (hr.mono (by decide)) (by rfl) DB.g DB.F.kp DB.b .nil pass0 (pa_cons (pv 2) (pa_cons (pe_fld (pv 0) rfl) pa_nil))))) (pss_one ps_absurd) pss_nil)
      (pss_cons (ps_asg (pv 1) (pg_tup (by rfl) (pgs_cons (pg_name (i := 3) S.nd rfl (.inl rfl)) (pgs_cons (pg_tup (by rfl) (pgs_cons (pg_name (i := 4) S.nd rfl (.inl rfl)) (pgs_cons (pg_name (i := 5) S.nd rfl (.inl rfl)) pgs_nil))) pgs_nil))))
      (pss_one (ps_ret (pe_call GG (hr.mono (by decide)) (by rfl) DG.g DG.F.kp DG.b .nil (pxp rfl rfl rfl rfl) (pa_cons (pv 0) (pa_cons (pe_ix ix_tup (pe_dget (hu_of hr) (pe_fld (pv 0) rfl) (pv 4) (fun _ _ => rfl)) pe_int (fun _ _ => rfl)) (pa_cons (pv 3) (pa_cons (pv 5) (pa_cons (pv 2) pa_nil))))))))))), ?_⟩
    dsimp only [tSeq, tIfS, tNot, tB]
    refine (show tCall (spIsInner Pt) [] E0 (tCons (tVar 0) (tCons (tVar 1) tNil)) _ _ _ from ?_)
    dsimp only [tCall]
    refine (va_cons (val_var rfl) (va_cons (val_var rfl) va_nil)) _ ⟨a, p, da, wn, y, DD, pr, _, rfl, pa, hp, ok, fun H1 s1 => ⟨_, rfl, iteF ?_⟩⟩
    have pa := pa.mono s1
    have hp := hp.mono s1
    obtain ⟨⟨ct, pt, sd, dt, stp, ak, ts0, xs, kvs, F⟩, eds, w2, w4⟩ := id pa
    obtain ⟨c, wt, hp2, hc, tw⟩ := inn_at hp
    obtain ⟨us, h1, h2⟩ := tup_cases (ds := [.int (n : Nat), .int it]) tw
    obtain ⟨u0, us, rfl, r0, h2⟩ := trs_cons h2
    obtain ⟨u1, us, rfl, r1, h2⟩ := trs_cons h2
    obtain rfl := trs_nil h2
    obtain rfl := tr_int r0
    obtain rfl := tr_int r1
    try dsimp only [tTest, tOp, tTup, tNil]
    refine (val_ixT (val_var rfl) val_c (SqT.of hp2) (atI_nat (j := 1) rfl)) _ ?_
    refine ⟨by show 0 ≤ sizeLine; decide, fun q nq => ?_⟩
    have s2 := same_upd (o := .tup []) nq
    refine ⟨waitD (some (n, it)), .tuple [], (tw.mono s2).dp, .tup (SqT.of upd_same) .nil, wait_shaped _, rfl, ?_⟩
    rw [wait_eqv]
    refine ⟨_, rfl, iteF ?_⟩
    generalize (upd H1 q (.tup [])) = H2 at s2
    have F2 := F.mono s2
    dsimp only [tNext, tSeq, tIfS, tNot, tB]
    refine (val_call (va_cons (val_var rfl) (va_cons (val_fld (val_var rfl) F2.o CC.cl (CC.at (by decide +kernel)) pF_worths) va_nil)) fun Q q => ⟨.int ans, _, (wn : Nat), rfl, Kd.int _, q⟩) _ ⟨_, rfl, ?_⟩
    rw [answer_in a0 a1]
    refine iteF ?_
    dsimp only [tNext, tSeq, tAsg]
    refine (val_var rfl) _ ?_
    refine ⟨p, _, rfl, SqT.of (s2 _ _ hp2), rfl, _, _, rfl, _, _, rfl, wt, _, rfl, SqT.of (s2 _ _ h1), rfl, _, _, rfl, _, _, rfl, rfl, rfl, ?_⟩
    try dsimp only [gName, List.set]
    dsimp only [tRet]
    obtain ⟨u, hu2, tru⟩ := F2.ax.get has
    obtain ⟨ua, rfl⟩ := tr_ref tru
    obtain ⟨us, h3, h4⟩ := tup_cases tru
    obtain ⟨u0, us, rfl, r0, h4⟩ := trs_cons h4
    obtain rfl := tr_int r0
    have vD : Val (tOp (rIxT K) (tDGet (tFld K (tVar 0) "asks") (tVar 4)) (tC (.int 0))) [some (.ref a), some (.ref p), some (.int ans), some (.ref c), some (.int (n : Nat)), some (.int it)] H2 (.int (s0 : Nat)) := by
      refine val_ixT (p := ua) (fun Q q => ?_) val_c (SqT.of h3) (atI_nat (j := 0) rfl)
      refine (val_fld (val_var rfl) F2.o CC.cl (CC.at (by decide +kernel)) pF_asks) _ ((val_var rfl) _ ⟨ak, _, rfl, ?_, q⟩)
      have := DGet.k (k := .inl (n : Int)) F2.ak
      rw [hu2] at this
      exact this
    refine (show tCall (spDeeds Pt) [] _ _ _ _ _ from ?_)
    dsimp only [tCall]
    refine (va_cons (val_var rfl) (va_cons vD (va_cons (val_var rfl) (va_cons (val_var rfl) (va_cons (val_var rfl) va_nil))))) _ ?_
    have lc : cells.length ≤ 1000 := by
      have h1 := ok.len
      have h2 := ok.few
      dsimp only at h1
      omega
    exact ⟨a, c, da, s0, wn, F0, y, DD, pr, cells, it, ans, R, rfl, pa.mono s2, s2 _ _ hc, lc, hF, hd, al, fun H' q s' tr => k H' q ((s1.trans s2).trans s') tr⟩
end
end K5
namespace K5
open PySem PySem.Spec PyProof.Rows L2
/-! ### the sorted list is one -/
mutual
theorem toks_one : ∀ (x y : PyData) (l m : List (Int ⊕ List Nat)), PySem.W.alike x y = true → keyD x = true → keyD y = true → PySem.W.keyToks x ++ l = PySem.W.keyToks y ++ m → x = y ∧ l = m
  | .int a, y, l, m, al, _, hy, e => by
    cases y with
    | int b =>
      simp only [PySem.W.keyToks, List.cons_append, List.nil_append] at e
      injection e with e1 e2
      injection e1 with e1
      exact ⟨by rw [e1], e2⟩
    | str _ => simp [PySem.W.alike] at al
    | tuple _ => simp [PySem.W.alike] at al
    | _ => simp [keyD] at hy
  | .str a, y, l, m, al, _, hy, e => by
    cases y with
    | str b =>
      simp only [PySem.W.keyToks, List.cons_append, List.nil_append] at e
      injection e with e1 e2
      injection e1 with e1
      exact ⟨by rw [PySem.W.str_of_cps e1], e2⟩
    | int _ => simp [PySem.W.alike] at al
    | tuple _ => simp [PySem.W.alike] at al
    | _ => simp [keyD] at hy
  | .tuple xs, y, l, m, al, hx, hy, e => by
    cases y with
    | tuple ys =>
      simp only [PySem.W.keyToks] at e
      rw [PySem.W.alike] at al
      rw [keyD] at hx hy
      obtain ⟨h1, h2⟩ := toksAll_one xs ys l m al hx hy e
      exact ⟨by rw [h1], h2⟩
    | int _ => simp [PySem.W.alike] at al
    | str _ => simp [PySem.W.alike] at al
    | _ => simp [keyD] at hy
  | .none, _, _, _, _, hx, _, _ => by simp [keyD] at hx
  | .bool _, _, _, _, _, hx, _, _ => by simp [keyD] at hx
  | .list _, _, _, _, _, hx, _, _ => by simp [keyD] at hx
  | .dict _, _, _, _, _, hx, _, _ => by simp [keyD] at hx
theorem toksAll_one : ∀ (xs ys : List PyData) (l m : List (Int ⊕ List Nat)), PySem.W.alikeAll xs ys = true → keyDs xs = true → keyDs ys = true → PySem.W.keyToksAll xs ++ l = PySem.W.keyToksAll ys ++ m → xs = ys ∧ l = m
  | [], [], l, m, _, _, _, e => by
    simp only [PySem.W.keyToksAll, List.cons_append, List.nil_append] at e
    injection e with e1 e2
    exact ⟨rfl, e2⟩
  | [], y :: ys, l, m, _, _, _, e => by
    simp only [PySem.W.keyToksAll, List.cons_append, List.nil_append] at e
    injection e with e1 e2
    injection e1 with e1
    exact absurd e1 (by decide)
  | x :: xs, [], l, m, _, _, _, e => by
    simp only [PySem.W.keyToksAll, List.cons_append, List.nil_append] at e
    injection e with e1 e2
    injection e1 with e1
    exact absurd e1 (by decide)
  | x :: xs, y :: ys, l, m, al, hx, hy, e => by
    rw [PySem.W.alikeAll, Bool.and_eq_true] at al
    rw [keyDs, Bool.and_eq_true] at hx hy
    simp only [PySem.W.keyToksAll, List.cons_append, List.append_assoc] at e
    injection e with e1 e2
    obtain ⟨h1, h2⟩ := toks_one x y _ _ al.1 hx.1 hy.1 e2
    obtain ⟨h3, h4⟩ := toksAll_one xs ys _ _ al.2 hx.2 hy.2 h2
    exact ⟨by rw [h1, h3], h4⟩
end
theorem sorted_one {γ : Type} {le : γ → γ → Bool} : ∀ {l m : List γ}, l.Perm m → l.Pairwise (fun a b => le a b = true) → m.Pairwise (fun a b => le a b = true) → (∀ a ∈ l, ∀ b ∈ l, le a b = true → le b a = true → a = b) → l = m
  | [], m, h, _, _, _ => by rw [List.nil_perm.mp h]
  | a :: l, [], h, _, _, _ => by cases List.perm_nil.mp h
  | a :: l, b :: m, h, p1, p2, anti => by
    have e : a = b := by
      have ha : a ∈ b :: m := h.mem_iff.mp List.mem_cons_self
      have hb : b ∈ a :: l := h.mem_iff.mpr List.mem_cons_self
      rcases List.mem_cons.mp ha with e | ha
      · exact e
      · rcases List.mem_cons.mp hb with e | hb
        · exact e.symm
        · exact anti a List.mem_cons_self b (List.mem_cons_of_mem _ hb) (List.rel_of_pairwise_cons p1 hb) (List.rel_of_pairwise_cons p2 ha)
    subst e
    rw [sorted_one (List.perm_cons a |>.mp h) (List.pairwise_cons.mp p1).2 (List.pairwise_cons.mp p2).2 fun x hx y hy => anti x (List.mem_cons_of_mem _ hx) y (List.mem_cons_of_mem _ hy)]
theorem sortB_one {β : Type} {enc : β → PyData} (inj : Inj enc) (kd : ∀ k, keyD (enc k) = true) {l m : List β} (h : l.Perm m) (al : PySem.W.AllAlike (l.map enc)) : sortB enc l = sortB enc m := by
  have T := PySem.W.sortLe_total (PyProof.Rows.listOrd PyProof.Rows.itemOrd) false fun b : β => PySem.W.keyToks (enc b)
  have s1 : (sortB enc l).Pairwise fun a b => PySem.W.dataLe false enc a b = true := PySem.W.sort_pairwise T l
  have s2 : (sortB enc m).Pairwise fun a b => PySem.W.dataLe false enc a b = true := PySem.W.sort_pairwise T m
  refine sorted_one (((List.mergeSort_perm l _).trans h).trans (List.mergeSort_perm m _).symm) s1 s2 fun a ha b hb h1 h2 => ?_
  have ha := (List.mergeSort_perm l _).mem_iff.mp ha
  have hb := (List.mergeSort_perm l _).mem_iff.mp hb
  have e : PySem.W.keyToks (enc a) = PySem.W.keyToks (enc b) := by
    have f1 : (PyProof.Rows.listOrd PyProof.Rows.itemOrd).blt (PySem.W.keyToks (enc b)) (PySem.W.keyToks (enc a)) = false := by
      have := (show (!(PyProof.Rows.listOrd PyProof.Rows.itemOrd).blt (PySem.W.keyToks (enc b)) (PySem.W.keyToks (enc a))) = true from h1)
      simpa using this
    have f2 : (PyProof.Rows.listOrd PyProof.Rows.itemOrd).blt (PySem.W.keyToks (enc a)) (PySem.W.keyToks (enc b)) = false := by
      have := (show (!(PyProof.Rows.listOrd PyProof.Rows.itemOrd).blt (PySem.W.keyToks (enc a)) (PySem.W.keyToks (enc b))) = true from h2)
      simpa using this
    exact (PyProof.Rows.listOrd PyProof.Rows.itemOrd).total _ _ f2 f1
  exact inj _ _ (toks_one (enc a) (enc b) [] [] (al _ (List.mem_map.mpr ⟨a, ha, rfl⟩) _ (List.mem_map.mpr ⟨b, hb, rfl⟩)) (kd a) (kd b) (by rw [e])).1
end K5
namespace K5
open PySem PySem.Spec PyProof.Rows L2
/-! ### _law_told -/
theorem key_ints : ∀ l : List Int, keyDs (l.map PyData.int) = true
  | [] => rfl
  | x :: l => by
    rw [List.map_cons, keyDs, key_ints l]
    rfl
theorem key_item (r : Item) : keyD (itemD r) = true := by
  obtain ⟨d, c, o⟩ := r
  have h1 : keyD d.d = true := by cases d <;> rfl
  have h2 : keyD (waitD o) = true := by cases o <;> rfl
  have h3 : keyD (cellsD c) = true := by
    unfold cellsD
    rw [keyD]
    exact key_ints c
  unfold itemD innD
  simp only [keyD, keyDs, h1, h2, h3]
  rfl
theorem itemD_injN : InjN itemD := fun k l h => itemD_inj _ _ (nkOf_inj _ _ (key_item k) (key_item l) h)
/-- answers alone: they are alike place by place -/
def isGv : Item → Bool
  | (.gives _, _, none) => true
  | _ => false
def isAs : Item → Bool
  | (.asks _ _ _, _, some _) => true
  | _ => false
theorem gv_alike {a b : Item} (ha : isGv a = true) (hb : isGv b = true) : PySem.W.alike (itemD a) (itemD b) = true := by
  match a, b, ha, hb with
  | (.gives v, c, none), (.gives v', c', none), _, _ => simp [itemD, innD, Deed.d, waitD, cellsD, PySem.W.alike, PySem.W.alikeAll, PySem.W.alike_ints]
theorem as_alike {a b : Item} (ha : isAs a = true) (hb : isAs b = true) : PySem.W.alike (itemD a) (itemD b) = true := by
  match a, b, ha, hb with
  | (.asks p d v, c, some q), (.asks p' d' v', c', some q'), _, _ => simp [itemD, innD, Deed.d, waitD, cellsD, PySem.W.alike, PySem.W.alikeAll, PySem.W.alike_ints]
theorem all_alike {R : List Item} (h : R.all isGv = true ∨ R.all isAs = true) : PySem.W.AllAlike (R.map itemD) := by
  intro d hd d' hd'
  obtain ⟨a, ha, rfl⟩ := List.mem_map.mp hd
  obtain ⟨b, hb, rfl⟩ := List.mem_map.mp hd'
  rcases h with h | h
  · exact gv_alike (List.all_eq_true.mp h a ha) (List.all_eq_true.mp h b hb)
  · exact as_alike (List.all_eq_true.mp h a ha) (List.all_eq_true.mp h b hb)
theorem nodup_perm {γ : Type} [DecidableEq γ] : ∀ {l m : List γ}, l.Nodup → m.Nodup → (∀ x, x ∈ l ↔ x ∈ m) → l.Perm m
  | [], m, _, _, h => by
    cases m with
    | nil => exact .nil
    | cons y m => exact absurd ((h y).mpr List.mem_cons_self) (by simp)
  | x :: l, m, n1, n2, h => by
    have hx : x ∈ m := (h x).mp List.mem_cons_self
    obtain ⟨h1, h2⟩ := List.nodup_cons.mp n1
    have p := List.perm_cons_erase hx
    have n3 := p.nodup_iff.mp n2
    obtain ⟨h3, h4⟩ := List.nodup_cons.mp n3
    refine (List.Perm.cons x (nodup_perm h2 h4 fun y => ?_)).trans p.symm
    constructor
    · intro hy
      have ne : y ≠ x := fun e => h1 (by rw [← e]; exact hy)
      exact (List.mem_erase_of_ne ne).mpr ((h y).mp (List.mem_cons_of_mem _ hy))
    · intro hy
      have hy2 := List.mem_of_mem_erase hy
      have ne : y ≠ x := fun e => by
        subst e
        exact h3 hy
      exact ((List.mem_cons.mp ((h y).mpr hy2)).resolve_left ne)
def spTold : Sp := fun vs H Q _ => ∃ (l : Addr) (ts : List Addr) (ks : List Item), vs = [.ref l] ∧ H l = some (.lst (ts.map V.ref)) ∧ Trs H (ts.map V.ref) (ks.map itemD) ∧ ks.length ≤ 16 ∧ PySem.W.AllAlike (ks.map itemD) ∧
  ∀ (dd : List Item) (H' : Hp) (q : Addr), dd.Nodup → (∀ k, k ∈ dd ↔ k ∈ ks) → Same H H' → Tr H' (.ref q) (itemsD dd) → Q (.ref q) H'
abbrev s__law_told : Stmt := topS 51
theorem sc__law_told : FnScope ["_law_some_here"] ["_law_some_here"] (defScope s__law_told) := ⟨rfl, rfl, rfl, by decide +kernel, rfl, by decide +kernel, by decide +kernel⟩
section
variable {P : Program} {w : World} {K : PySem.W.Frag} {mg : Str → Option Value} {base : Heap}
theorem ok_told {f : Addr} {fd : FuncData} (B : Bt mg) (ms : mg "sorted" = none) (mset : mg "set" = none) (D : Df K mg "_law_told" s__law_told f fd ["_law_some_here"]) : FnOk P w K mg base CX0 1 f fd ["_law_some_here"] spTold := by
  refine D.F.ok sc__law_told (fun vs H Q E h => ?_) (fun cdv A outer s H vs Q E hr h => ?_)
  · obtain ⟨l, ts, ks, rfl, _⟩ := h
    rfl
  · obtain ⟨l, ts, ks, rfl, hl, tr, few, al, k⟩ := h
    have S := sc__law_told
    refine ⟨_, (pss_one (ps_ret (pe_tupleOf (by rfl) B.m_tuple (pe_sortedSetN (enc := itemD) itemD_injN rfl hr.units (by rfl) ms (by rfl) mset (pv 0))))), ?_⟩
    dsimp only [tRet, tThen]
    refine (val_var rfl) _ ⟨l, ts, ks, rfl, SqL.of hl, tr, few, fun k _ => nk_item k, al, fun b => ⟨_, _, rfl⟩, fun k _ => dp_item k, fun dd ts' p nd mem np tr' => ?_⟩
    refine .inl ⟨p, _, rfl, SqL.of upd_same, fun q nq => ?_⟩
    have s1 := same_upd (o := .lst (ts'.map V.ref)) np
    have s2 := same_upd (o := .tup (ts'.map V.ref)) nq
    exact k dd _ q nd mem (s1.trans s2) (.tup upd_same ((tr'.mono s1).mono s2))
end
end K5
namespace K5
open PySem PySem.Spec PyProof.Rows L2
/-! ### promises of defs that show things: they are called while nothing is being shown -/
structure FnG (P : Program) (w : World) (K : PySem.W.Frag) (mg : Str → Option Value) (base : Heap) (cx : CXT) (lv : Nat) (g : Addr) (rec : FuncData) (ns : List Str) (pr : Sp) : Prop where
  many : ∀ xs G R T, pr xs G R T → xs.length = ns.length
  does : ∀ (B : Around) (out : List Env) (st : Shared) (G : Hp) (as : Args) (zs : List Value) (xs : List V) (R : VK) (T : XK), B.guards = some [] → Room lv B →
    Env0 P w K mg base B out st G → BindsTo st rec as (ns.zip zs) → Vals xs zs → pr xs G R T → codeAny (model P w) B (.call (.ref g) as) (CR cx out P w G st R T) st
section
variable {P : Program} {w : World} {K : PySem.W.Frag} {mg : Str → Option Value} {base : Heap}
theorem okG {x qual : Str} {d : Stmt} {g : Addr} {rec : FuncData} {N ns : List Str} {lv : Nat} {pr : Sp} {cx : CXT} (F : Fun K x qual d g rec) (S : FnScope N ns (defScope d)) (many : ∀ xs G R T, pr xs G R T → xs.length = ns.length)
    (runs : ∀ (cd : Value) (B : Around) (out : List Env) (st : Shared) (G : Hp) (xs : List V) (R : VK) (T : XK), B.guards = some [] → Room lv (B.deeper (envOfC qual (defScope d) st.heap.objs.size g cd)) → pr xs G R T →
      ∃ t, PSs (cxOf cx P w K mg base N qual (defScope d) g cd B out st G T) (defBody d) t ∧ t { nx := fun _ G' => R .non G', rt := R } (start N xs) G) : FnG P w K mg base cx (lv + 1) g rec ns pr := by
  obtain ⟨oc, od, kV, doc, pm, an, cd, ct, sl, rfl, lk, hcd⟩ := F.ex
  constructor
  · exact many
  intro B out st G as zs xs R T gu room e bind rel p
  have size := many _ _ _ _ p
  have still : ∀ b o, base.get? b = some o → st.heap.get? b = some o := fun b o z => (e.bs b o z).1
  have inK : K.In st.heap := e.mod.kin.keeps still
  have nol : st.heap.NoLimit := e.mod.nolimit.keeps still
  have kinds : ∀ y ∈ ns.zip zs, (defScope d).names.lookup y.1 = some .local ∨ ((defScope d).names.lookup y.1 = some .cell ∧ ((cellsFrom (st.heap.objs.size + 1) (defScope d).names []).lookup y.1).isSome = true) := by
    rintro ⟨n, v⟩ hy
    have q := S.par n (List.of_mem_zip hy).1
    exact q.imp id fun c => ⟨c, PySem.W.cellsFrom_some _ _ _ (.inl c)⟩
  apply codeAny_call_function room.depth (inK _ _ lk) rfl S.co S.gen rfl (PySem.W.codeRec_of inK hcd)
  refine bind _ _ _ _ (wpAny_newFunctionEnv_cells S.kind kinds ?_)
  intro env he s1 ic
  subst he
  obtain ⟨t, ht, hq⟩ := runs cd B out st G xs R T gu (room.deeper _) p
  have I0 := inv_start (CX := cx) (P := P) (w := w) (K := K) (mg := mg) (base := base) (qual := qual) (cd := cd) (f := g) (E := T) S room.hd e size rel ic
  refine ⟨nol.keeps ic.toInCall.keep, codeAny_func (wpAny_mono (ht.run [] s1 (start N xs) G _ I0 hq) ?_ fun _ _ z => z)⟩
  intro fl s2 hs
  have ends : ∀ {σ2 : L2.St} {G2 : Hp} {v : V} {u : Value}, Inv (cxOf cx P w K mg base N qual (defScope d) g cd B out st G T) [] σ2 G2 s2 → RelV v u → R v G2 → CE out P w G st R u s2 := by
    intro σ2 G2 v u J r q
    exact ⟨v, G2, J.os, J.bare, J.base, J.hok, r, q⟩
  match fl, hs with
  | .ret u, ⟨v, σ2, G2, J, r, q⟩ => exact ends J r q
  | .next, ⟨σ2, G2, J, q⟩ => exact ends (v := V.non) (u := Value.none) J rfl q
  | .brk, ⟨_, _, _, q⟩ => exact q.elim
  | .cont, ⟨_, _, _, q⟩ => exact q.elim
end
section
variable {X : Cx} {cx : CXT} {k : Nat} {f : Addr} {fd : FuncData} {ps : List Str} {sp : Sp} {x : Str} {E : XK} {p pos : Pos} {e : Expr} {es : List Expr} {t : TA}
theorem pe_callG (F : FnG X.prog X.w X.K X.mg X.base cx k f fd ps sp) (gu : X.A.guards = some []) (room : Room k X.A) (gl : Gl X x) (hm : X.mg x = some (.ref f)) (kp : PySem.W.keepIn X.K (.ref f) = true) (hb : Binds X.K fd ps []) (out : Passes cx X E)
    (ha : PA X (e :: es) t) (hdb : (x == ("__debug__" : Str)) = false := by decide) (he : starEach (e :: es) X.env = (false, eval e X.env) :: starEach es X.env := by rfl) (hpl : (backTo pos (starEach es X.env)).any (·.1) = false := by rfl) :
    PE X (.Call (.Name x p) (e :: es) [] pos) (tCall sp [] E t) := by
  constructor
  intro pins s σ H Q I h
  apply wpAny_Call_Name_kw
  apply ld_glob I gl hm _ hdb
  apply PySem.W.callWith_K (h₀ := X.base) I.ok.mod.kin kp _ he hpl
  refine thn (ha.run pos pins s σ H _ I h) ?_
  rintro us s1 ⟨vs, H1, I1, r, q⟩
  rw [List.append_nil] at q
  refine ⟨I1.kIn, wpAny_call (codeAny_mono (F.does X.A X.stack s1 H1 ⟨us, []⟩ us vs Q E gu room I1.env0 ?_ r q) ?_)⟩
  · have z := hb s1 us I1.kIn (by rw [List.append_nil, ← r.length]; exact F.many _ _ _ _ q)
    rw [List.append_nil] at z
    exact z
  · intro res s2 hq
    match res, hq with
    | .error v, hq => exact out pins σ H1 s1 v s2 I1 hq
    | .ok (.ret u), hq => exact I1.after hq
    | .ok .next, hq => exact hq.elim
    | .ok .brk, hq => exact hq.elim
    | .ok .cont, hq => exact hq.elim
end
/-! ### repr of such data -/
structure ShOk (d : PyData) : Prop where
  s : d.showable = true
  z : d.shown.length ≤ sizeLine
  d : d.depth ≤ 50
def rReprT : List V → Hp → VK → Prop := fun xs H Q => ∃ (a : Addr) (ds : List PyData), xs = [.ref a] ∧ Tr H (.ref a) (.tuple ds) ∧ ShOk (.tuple ds) ∧ Q (.str (PyData.tuple ds).shown) H
theorem call_reprT {X : Cx} (gu : X.A.guards = some []) (hu : X.A.units + 64 < cLine) : CallR X (.builtin "repr") rReprT := by
  intro pins s σ H xs us Q I r h
  obtain ⟨a, ds, rfl, hd, sh, q⟩ := h
  obtain ⟨u, rfl, ru⟩ := r.one
  cases ru
  have rd := Tr.readsIn I (fun b o e => e) hd (show RelV (.ref a) (.ref a) from rfl)
  exact repr_of_reads' rd sh.s (fun e => by simp) gu (by have := sh.d; omega) (fun _ _ e => e) (fun h' u tk hk => ⟨.str _, H, I.kept hk, ⟨u, rfl⟩, q⟩) sh.z
/-! ### how much data is told -/
structure Sm (w p : Nat) (d : PyData) : Prop where
  s : d.showable = true
  l : d.leavesShort 13 = true
  w : d.weight ≤ w
  p : d.depth ≤ p
  h : d.hasDict = false
structure SmA (w p : Nat) (ds : List PyData) : Prop where
  s : PyData.showableAll ds = true
  l : PyData.leavesShortAll 13 ds = true
  w : PyData.weightAll ds ≤ w
  p : PyData.depthAll ds ≤ p
  h : PyData.hasDictAll ds = false
theorem Sm.sh {w p : Nat} {d : PyData} (h : Sm w p d) (hw : w ≤ 1000000) (hp : p ≤ 50) : ShOk d := ⟨h.s, PyData.shown_fits (by decide) (by decide) h.l (Nat.le_trans h.w (Nat.le_trans hw (by decide))), Nat.le_trans h.p hp⟩
theorem SmA.nil {p : Nat} : SmA 0 p [] := ⟨rfl, rfl, Nat.le_refl _, Nat.zero_le _, rfl⟩
theorem SmA.cons {w v p : Nat} {d : PyData} {ds : List PyData} (a : Sm w p d) (b : SmA v p ds) : SmA (w + 1 + v) p (d :: ds) := ⟨by
  show (d.showable && PyData.showableAll ds) = true
  rw [a.s, b.s]
  rfl, by
  show (d.leavesShort 13 && PyData.leavesShortAll 13 ds) = true
  rw [a.l, b.l]
  rfl, by
  have := a.w
  have := b.w
  show d.weight + 1 + PyData.weightAll ds ≤ _
  omega, by
  have := a.p
  have := b.p
  show max d.depth (PyData.depthAll ds) ≤ _
  omega, by
  show (d.hasDict || PyData.hasDictAll ds) = false
  rw [a.h, b.h]
  rfl⟩
theorem SmA.tup {w p : Nat} {ds : List PyData} (h : SmA w p ds) : Sm w (p + 1) (.tuple ds) := ⟨h.s, h.l, h.w, Nat.succ_le_succ h.p, h.h⟩
theorem Sm.mono {w p w' p' : Nat} {d : PyData} (h : Sm w p d) (hw : w ≤ w') (hp : p ≤ p') : Sm w' p' d := ⟨h.s, h.l, Nat.le_trans h.w hw, Nat.le_trans h.p hp, h.h⟩
theorem SmA.mono {w p w' p' : Nat} {d : List PyData} (h : SmA w p d) (hw : w ≤ w') (hp : p ≤ p') : SmA w' p' d := ⟨h.s, h.l, Nat.le_trans h.w hw, Nat.le_trans h.p hp, h.h⟩
theorem int_small : ∀ i : Fin 420, (PyData.showable (.int ((i.val : Int) - 10)) && (PyData.leavesShort 13 (.int ((i.val : Int) - 10)) && decide (PyData.weight (.int ((i.val : Int) - 10)) ≤ 10))) = true := by decide +kernel
theorem sm_int {i : Int} (h0 : -10 ≤ i) (h1 : i < 410) : Sm 10 0 (.int i) := by
  have := int_small ⟨(i + 10).toNat, by omega⟩
  rw [show (((i + 10).toNat : Nat) : Int) - 10 = i by omega, Bool.and_eq_true, Bool.and_eq_true] at this
  exact ⟨this.1, this.2.1, of_decide_eq_true this.2.2, Nat.le_refl _, rfl⟩
theorem sm_str {n : Nat} {z : Str} (hl : z.length ≤ n) (ho : PyData.strOk z = true) : Sm n 0 (.str z) := ⟨rfl, PyData.leavesShort_of_canLay0 13 (.str z) ho rfl, hl, Nat.le_refl _, rfl⟩
theorem sm_map {α : Type} {f : α → PyData} {g : α → Nat} {c p : Nat} : ∀ {l : List α}, (∀ x ∈ l, Sm (c * g x) p (f x)) → SmA (c * (l.map g).sum + l.length) p (l.map f)
  | [], _ => SmA.nil
  | x :: l, h => by
    have a := SmA.cons (h x (List.mem_cons_self ..)) (sm_map (l := l) fun y hy => h y (List.mem_cons_of_mem _ hy))
    refine a.mono ?_ (Nat.le_refl _)
    rw [List.map_cons, List.sum_cons, List.length_cons, Nat.mul_add]
    omega
theorem sum_const {α : Type} (c : Nat) : ∀ l : List α, (l.map fun _ => c).sum = c * l.length
  | [] => rfl
  | x :: l => by rw [List.map_cons, List.sum_cons, sum_const c l, List.length_cons, Nat.mul_succ]; omega
theorem sm_ints {l : List Int} (h : ∀ x ∈ l, -10 ≤ x ∧ x < 410) (few : l.length ≤ 3) : Sm 40 1 (cellsD l) := by
  have h1 := sm_map (f := PyData.int) (g := fun _ => 1) (c := 10) (p := 0) (l := l) fun x hx => sm_int (h x hx).1 (h x hx).2
  rw [sum_const] at h1
  exact (SmA.tup h1).mono (by omega) (by decide)
/-- small items -/
structure ItOk (r : Item) : Prop where
  d : ∀ v, r.1 = .gives v → -10 ≤ v ∧ v < 410
  a : ∀ p d v, r.1 = .asks p d v → p.length ≤ 10 ∧ PyData.strOk p = true ∧ d.length ≤ 10 ∧ PyData.strOk d = true ∧ -10 ≤ v ∧ v < 410
  c : ∀ x ∈ r.2.1, -10 ≤ x ∧ x < 410
  l : r.2.1.length ≤ 3
  w : ∀ n v, r.2.2 = some (n, v) → n < 400 ∧ -10 ≤ v ∧ v < 410
theorem sm_item {r : Item} (h : ItOk r) : Sm 200 4 (itemD r) := by
  obtain ⟨d, c, o⟩ := r
  obtain ⟨h1, h2, h3, h4, h5⟩ := h
  have s1 : Sm 60 1 d.d := by
    cases d with
    | gives v =>
      obtain ⟨v0, v1⟩ := h1 v rfl
      exact (SmA.tup (SmA.cons (sm_str (n := 5) (z := "gives") (by decide +kernel) (by decide +kernel)) (SmA.cons (sm_int v0 v1 |>.mono (Nat.le_refl _) (by decide)) SmA.nil))).mono (by decide) (by decide)
    | asks p dd v =>
      obtain ⟨p1, p2, d1, d2, v0, v1⟩ := h2 p dd v rfl
      exact (SmA.tup (SmA.cons (sm_str (n := 4) (z := "asks") (by decide +kernel) (by decide +kernel)) (SmA.cons (sm_str (n := 10) p1 p2) (SmA.cons (sm_str (n := 10) d1 d2) (SmA.cons (sm_int v0 v1) SmA.nil))))).mono (by decide) (by decide)
  have s2 : Sm 30 1 (waitD o) := by
    cases o with
    | none => exact (SmA.tup (SmA.nil (p := 0))).mono (by decide) (by decide)
    | some q =>
      obtain ⟨n1, v0, v1⟩ := h5 q.1 q.2 rfl
      exact (SmA.tup (SmA.cons (sm_int (i := (q.1 : Nat)) (by omega) (by omega)) (SmA.cons (sm_int v0 v1) SmA.nil))).mono (by decide) (by decide)
  have s3 := sm_ints h3 h4
  have s4 : Sm 80 2 (innD (c, o)) := (SmA.tup (SmA.cons s3 (SmA.cons (s2.mono (Nat.le_refl _) (Nat.le_refl _)) SmA.nil))).mono (by decide) (by decide)
  exact (SmA.tup (SmA.cons (s1.mono (p' := 2) (Nat.le_refl _) (by decide)) (SmA.cons s4 SmA.nil))).mono (by decide) (by decide)
theorem sh_items {R : List Item} (h : ∀ r ∈ R, ItOk r) (few : R.length ≤ 1000) : ShOk (itemsD R) := by
  have pm : ∀ r, r ∈ sortB itemD R ↔ r ∈ R := fun r => (List.mergeSort_perm R _).mem_iff
  have e3 : (sortB itemD R).length = R.length := List.length_mergeSort ..
  have h1 := sm_map (f := itemD) (g := fun _ => 1) (c := 200) (p := 4) (l := sortB itemD R) fun r hr => (sm_item (h r ((pm r).mp hr))).mono (by decide) (by decide)
  rw [sum_const, e3] at h1
  exact ((SmA.tup h1).mono (w' := 300000) (p' := 5) (by omega) (by decide)).sh (by decide) (by decide)
/-! ### a text is split as it was joined -/
theorem cut_at {c : Nat} : ∀ {x y a b : List Nat}, c ∉ x → c ∉ y → x ++ c :: a = y ++ c :: b → x = y ∧ a = b
  | [], [], a, b, _, _, h => by
    injection h with _ h
    exact ⟨rfl, h⟩
  | [], z :: y, a, b, _, h2, h => by
    injection h with h _
    exact absurd (by rw [h]; exact List.mem_cons_self ..) h2
  | z :: x, [], a, b, h1, _, h => by
    injection h with h _
    exact absurd (by rw [← h]; exact List.mem_cons_self ..) h1
  | z :: x, w :: y, a, b, h1, h2, h => by
    injection h with e h
    obtain ⟨q1, q2⟩ := cut_at (x := x) (y := y) (fun q => h1 (List.mem_cons_of_mem _ q)) (fun q => h2 (List.mem_cons_of_mem _ q)) h
    exact ⟨by rw [e, q1], q2⟩
theorem str_list {x y : Str} (h : x.cps.toList = y.cps.toList) : x = y := by
  cases x
  cases y
  congr
  exact Array.toList_inj.mp h
theorem join_list (c : Nat) (x z : Str) (r : List Str) : (Str.join ⟨#[c]⟩ (x :: z :: r)).cps.toList = x.cps.toList ++ c :: (Str.join ⟨#[c]⟩ (z :: r)).cps.toList := by
  show (x ++ (⟨#[c]⟩ : Str) ++ Str.join ⟨#[c]⟩ (z :: r)).cps.toList = _
  rw [cps_append, cps_append, List.append_assoc]
  rfl
theorem join_inj {c : Nat} : ∀ {ps qs : List Str}, ps ≠ [] → qs ≠ [] → (∀ p ∈ ps, c ∉ p.cps.toList) → (∀ q ∈ qs, c ∉ q.cps.toList) → (Str.join ⟨#[c]⟩ ps).cps.toList = (Str.join ⟨#[c]⟩ qs).cps.toList → ps = qs
  | [], _, h, _, _, _, _ => absurd rfl h
  | _, [], _, h, _, _, _ => absurd rfl h
  | [x], [y], _, _, _, _, h => by rw [str_list (x := x) (y := y) h]
  | [x], y :: w :: r, _, _, h1, h2, h => by
    rw [join_list] at h
    have hx : c ∈ x.cps.toList := by
      rw [show x.cps.toList = _ from h]
      exact List.mem_append_right _ (List.mem_cons_self ..)
    exact absurd hx (h1 x (List.mem_cons_self ..))
  | x :: w :: r, [y], _, _, h1, h2, h => by
    rw [join_list] at h
    have hy : c ∈ y.cps.toList := by
      rw [show y.cps.toList = _ from h.symm]
      exact List.mem_append_right _ (List.mem_cons_self ..)
    exact absurd hy (h2 y (List.mem_cons_self ..))
  | x :: z :: r, y :: w :: t, _, _, h1, h2, h => by
    rw [join_list, join_list] at h
    obtain ⟨e1, e2⟩ := cut_at (h1 x (List.mem_cons_self ..)) (h2 y (List.mem_cons_self ..)) h
    rw [str_list e1, join_inj (ps := z :: r) (qs := w :: t) (fun q => nomatch q) (fun q => nomatch q) (fun p hp => h1 p (List.mem_cons_of_mem _ hp)) (fun p hp => h2 p (List.mem_cons_of_mem _ hp)) e2]
theorem split_ne (x : Str) (c : Nat) : Txt.split x ⟨#[c]⟩ ≠ [] := by
  unfold Txt.split
  split
  · exact fun e => nomatch e
  · split
    · exact fun e => nomatch e
    · rw [StrLaws.partsBetween_eq]
      obtain ⟨p, r, h⟩ := StrLaws.partsFrom_ne x (⟨#[c]⟩ : Str).length 0 (Builtin.Str.occurrences x ⟨#[c]⟩ 0 x.length (x.length + 1))
      rw [h]
      exact fun e => nomatch e
theorem split_join {c : Nat} {ps : List Str} (ne : ps ≠ []) (free : ∀ p ∈ ps, c ∉ p.cps.toList) : Txt.split (Str.join ⟨#[c]⟩ ps) ⟨#[c]⟩ = ps :=
  join_inj (split_ne _ _) ne (StrLaws.split_free _ c) free (by rw [StrLaws.join_split])
theorem rows_join {ps : List Str} (ne : ps ≠ []) (free : ∀ p ∈ ps, 10 ∉ p.cps.toList) : rowsOf (Str.join "\n" ps) = ps := by
  have e : ("\n" : Str) = ⟨#[10]⟩ := by decide +kernel
  unfold rowsOf
  rw [e]
  exact split_join ne free
theorem tab_ne {H : Hp} {P p : Addr} {o : HO} (t : GxR.TabG H P) (h : H p = some o) (n : ∀ ps, o ≠ .tbl ps) : p ≠ P := fun e => by
  obtain ⟨ps, h1, _⟩ := t
  rw [e, h1] at h
  exact n ps (Option.some.inj h).symm
theorem TabG.keep {H H' : Hp} {P : Addr} (t : GxR.TabG H P) (s : Same H H') : GxR.TabG H' P := by
  obtain ⟨ps, h1, h2⟩ := t
  exact ⟨ps, s _ _ h1, h2⟩
/-- what stands is kept, but the box and the two tables -/
def KeepX (TB TF b : Addr) (H H' : Hp) : Prop := ∀ x o, x ≠ TB → x ≠ TF → x ≠ b → H x = some o → H' x = some o
end K5
namespace K5
open PySem PySem.Spec PyProof.Rows L2
theorem take_box {σ : L2.St} {H : Hp} {b : Addr} {p q n m : Int} {tm : TE} {i : Nat} {Q : VK} (hv : σ[i]? = some (some (.ref b))) (hm : Val tm σ H (.int m)) (hb : H b = some (.lst (bx p q n))) (Bx : Box p q n) (m0 : 0 < m) (m1 : m < 1000000) (hn : n < 1000000)
    (k : ∀ (d p' n' : Int), 0 ≤ d → d < m → Box p' q n' → n' ≤ n + 1 → Q (.int d) (upd H b (.lst (bx p' q n')))) : tCall spTake [] E0 (tCons (tVar i) (tCons tm tNil)) σ H Q := by
  try dsimp only [tCall, tCons, tNil]
  refine (val_var hv) _ ?_
  refine hm _ ?_
  exact ⟨b, m, p, q, n, rfl, hb, Bx, hn, m0, m1, fun d p' n' d0 d1 B le => k d p' n' d0 d1 B le⟩
theorem val_addS {σ : L2.St} {H : Hp} {ta tb : TE} {x y : Str} (ha : Val ta σ H (.str x)) (hb : Val tb σ H (.str y)) (hz : x.length + y.length ≤ 10000000) : Val (tOp rAddS ta tb) σ H (.str (x ++ y)) := val_op ha hb fun Q q => ⟨x, y, rfl, rfl, big_size hz, q⟩
/-! ### one of some -/
abbrev s__law_of : Stmt := topS 49
theorem sc__law_of : FnScope ["_law_box_here", "_law_some_here"] ["_law_box_here", "_law_some_here"] (defScope s__law_of) := ⟨rfl, rfl, rfl, by decide +kernel, rfl, by decide +kernel, by decide +kernel⟩
def spOfB : Sp := fun vs H Q _ => ∃ (b l : Addr) (xs : List V) (p q n : Int), vs = [.ref b, .ref l] ∧ H b = some (.lst (bx p q n)) ∧ Box p q n ∧ n < 1000000 ∧ H l = some (.lst xs) ∧ l ≠ b ∧ 0 < xs.length ∧ xs.length ≤ 20000 ∧
  ∀ (x : V) (p' n' : Int), x ∈ xs → Box p' q n' → n' ≤ n + 1 → Q x (upd H b (.lst (bx p' q n')))
section
variable {P : Program} {w : World} {K : PySem.W.Frag} {mg : Str → Option Value} {base : Heap}
theorem ok_ofB {f fT : Addr} {fd fdT : FuncData} (B : Bt mg) (D : Df K mg "_law_of" s__law_of f fd ["_law_box_here", "_law_some_here"]) (D__law_take : Df K mg "_law_take" sTake fT fdT ["_law_box_here", "_law_many"]) :
    FnOk P w K mg base CX0 2 f fd ["_law_box_here", "_law_some_here"] spOfB := by
  have G__law_take : FnOk P w K mg base CX0 1 fT fdT ["_law_box_here", "_law_many"] spTake := ok_take (CX := CX0) D__law_take.F B.m_int
  refine D.F.ok sc__law_of (fun vs H Q E h => ?_) (fun cdv A outer s H vs Q E hr h => ?_)
  · obtain ⟨b, l, xs, p, q, n, rfl, _⟩ := h
    rfl
  · obtain ⟨b, l, xs, p, q, n, rfl, hb, Bx, hn, hl, nlb, l0, l1, k⟩ := h
    have S := sc__law_of
    refine ⟨_, (pss_one (ps_ret (pe_ix ix_list (pv 1) (pe_call G__law_take (hr.mono (by decide)) (by rfl) D__law_take.g D__law_take.F.kp D__law_take.b .nil pass0 (pa_cons (pv 0) (pa_cons (pe_callB call_len_seq (by rfl) B.m_len PySem.boot_len (pa_cons (pv 1) pa_nil)) pa_nil))) (fun _ _ => rfl)))), ?_⟩
    dsimp only [tRet, tOp]
    refine (val_var rfl) _ ?_
    refine take_box rfl (val_lenL (val_var rfl) (SqL.of hl)) hb Bx (by omega) (by omega) hn fun d p' n' d0 d1 B2 h2 => ?_
    obtain ⟨j, rfl⟩ : ∃ j : Nat, d = (j : Int) := ⟨d.toNat, by omega⟩
    have hj : j < xs.length := by omega
    exact ⟨l, xs, (j : Int), xs[j], rfl, rfl, SqL.of (by rw [upd_ne nlb]; exact hl), atI_nat (List.getElem?_eq_getElem hj), k _ p' n' (List.getElem_mem hj) B2 h2⟩
end
/-! ### a part out of a page -/
section
variable {σ : L2.St} {H : Hp} {Q : VK} {E : XK} {tw tt : TE} {TB Pt CT CW : Addr}
theorem mk_page {wn : Nat} {rows : List Str} {D : PD} (w2 : 2 ≤ wn) (w4 : wn ≤ 4) (hp : partR (wn : Nat) rows = .ok D) (ne : rows ≠ []) (free : ∀ p ∈ rows, 10 ∉ p.cps.toList) (len : (Str.join "\n" rows).length ≤ 14000) (so : PyData.strOk (Str.join "\n" rows) = true) (tab : GxR.TabG H TB) (vw : Val tw σ H (.int (wn : Nat)))
    (vt : ∀ R : VK, (∀ H', Same H H' → R (.str (Str.join "\n" rows)) H') → tt σ H R)
    (k : ∀ (H' : Hp) (a da : Addr), KeepT TB H H' → GxR.TabG H' TB → PtAt Pt da H' a (.int (wn : Nat)) (.str (Str.join "\n" rows)) D → Q (.ref a) H') : tMake Pt (spPart TB Pt CT CW) [] E (tCons tw (tCons tt tNil)) σ H Q := by
  dsimp only [tMake, tCons, tNil]
  refine vw _ (vt _ fun H1 s1 => ?_)
  refine fun a da na nda neq => ?_
  have n0 : (upd H1 da (.own a)) a = none := by
    rw [upd_ne neq.symm]
    exact na
  have sP : Same H1 (upd (upd H1 da (.own a)) a (.ins Pt da [])) := (same_upd nda).trans (same_upd n0)
  have hP : (upd (upd H1 da (.own a)) a (.ins Pt da [])) a = some (.ins Pt da []) := upd_same
  have tbP := TabG.keep (TabG.keep tab s1) sP
  have aT : a ≠ TB := tab_ne tbP hP fun ps e => nomatch e
  have bAx : ∀ x o, H1 x = some o → x ≠ a := fun x o e => ne_of_none e na
  have six : ∀ x o, H1 x = some o → (upd (upd H1 da (.own a)) a (.ins Pt da [])) x = some o := fun x o e => sP _ _ e
  generalize (upd (upd H1 da (.own a)) a (.ins Pt da [])) = HP at sP hP tbP six
  have wok : worthsOk (.int (wn : Nat)) = true := by
    have : wn = 2 ∨ wn = 3 ∨ wn = 4 := by omega
    rcases this with rfl | rfl | rfl <;> decide
  refine ⟨a, da, .int (wn : Nat), .str (Str.join "\n" rows), _, _, rfl, hP, .int _, .str _, tbP, aT, (fun e => absurd (wok.symm.trans e) (by decide)), fun wn' ex ew => ⟨fun e => (nomatch (show true = false from e)), fun z ez => ?_⟩⟩
  cases ex
  cases ez
  refine ⟨len, so, ?_⟩
  rw [rows_join ne free, hp]
  intro H7 kp tb7 pt
  exact ⟨rfl, k H7 a da (fun x o nT e => kp x o nT (bAx _ _ (s1 _ _ e)) (six _ _ (s1 _ _ e))) tb7 pt⟩
end
abbrev s__law_draws_right : Stmt := topS 52
abbrev nmDr : List Str := ["_law_box_here", "_law_many", "_law_names", "_law_one", "_law_other", "_law_page", "_law_dice", "_law_sent", "_law_due", "_law_x", "_law_y", "_law_total", "_law_cells"]
theorem sc__law_draws_right : FnScope nmDr ["_law_box_here"] (defScope s__law_draws_right) := ⟨rfl, rfl, rfl, by decide +kernel, rfl, by decide +kernel, by decide +kernel⟩
/-- what the four tests ask -/
def spTest (TB TF : Addr) : Sp := fun vs H Q _ => ∃ (b : Addr) (p q n : Int), vs = [.ref b] ∧ H b = some (.lst (bx p q n)) ∧ Box p q n ∧ n < 100000 ∧ GxR.TabG H TB ∧ GxR.TabG H TF ∧ TB ≠ TF ∧
  ∀ (H' : Hp) (p' n' : Int), KeepX TB TF b H H' → GxR.TabG H' TB → GxR.TabG H' TF → H' b = some (.lst (bx p' q n')) → Box p' q n' → n' ≤ n + 1000 → Q (.bl true) H'
/-- what they call -/
structure Rk (P : Program) (w : World) (K : PySem.W.Frag) (mg : Str → Option Value) (base : Heap) (TB TF Pt CT CW : Addr) (fT fO fS fC fA fF fL fP : Addr) (dT dO dS dC dA dF dL dP : FuncData) : Prop where
  B : Bt mg
  DT : Df K mg "_law_take" sTake fT dT ["_law_box_here", "_law_many"]
  DO : Df K mg "_law_of" s__law_of fO dO ["_law_box_here", "_law_some_here"]
  DS : Df K mg "_law_some" s__law_some fS dS ["_law_box_here", "_law_items", "_law_many"]
  GS : FnOk P w K mg base CX0 2 fS dS ["_law_box_here", "_law_items", "_law_many"] (spSome K)
  DC : Df K mg "called" s_called fC dC ["part", "inner", "door", "worth"]
  GC : FnOk P w K mg base (L2.CX P w) 5 fC dC ["part", "inner", "door", "worth"] (spCalled Pt)
  DA : Df K mg "answered" s_answered fA dA ["part", "inner", "answer"]
  GA : FnOk P w K mg base (L2.CX P w) 5 fA dA ["part", "inner", "answer"] (spAnswered Pt)
  gF : mg "first_inner" = some (.ref fF)
  kF : PySem.W.keepIn K (.ref fF) = true
  bF : Binds K dF ["part"] []
  GF : FnOk P w K mg base (L2.CX P w) 1 fF dF ["part"] (spFirst TF Pt)
  DL : Df K mg "_law_told" s__law_told fL dL ["_law_some_here"]
  GL : FnOk P w K mg base CX0 1 fL dL ["_law_some_here"] spTold
  MP : Mk K Pt fP
  gP : mg "Part" = some (.ref Pt)
  bP : Binds K dP ["self", "worths", "text"] []
  GP : FnOk P w K mg base (L2.CX P w) 22 fP dP ["self", "worths", "text"] (spPart TB Pt CT CW)
  CC : ClT K Pt
end K5
namespace K5
open PySem PySem.Spec PyProof.Rows L2
/-! ### the dice, purely -/
def dicePr : List Stp := [.draw 0, .draw 1, .add 0 (.cell 1), .unl (.cmp true (.cell 0) .it) 5, .fail, .answer (.cell 1), .answer (.worth 0)]
def dueRow (m sent x : Nat) (k : Nat) : List Item := (List.range k).map fun y => (.gives (if (((x + y) % m : Nat) : Int) = (sent : Nat) then -1 else (y : Nat)), [(((x + y) % m : Nat) : Int), ((y : Nat) : Int)], none)
def dueDice (m sent k : Nat) : List Item := (List.range k).flatMap fun x => dueRow m sent x m
def sameItems (R due : List Item) : Bool := decide R.Nodup && ((R.all fun r => decide (r ∈ due)) && ((due.all fun r => decide (r ∈ R)) && (R.all isGv || R.all isAs)))
def okDfs (pr : List Stp) (m : Nat) (it hd : Int) (s : Nat) (cells : List Int) (F : Nat) (due : List Item) : Bool := match dfs pr m it hd F [(s, cells)] [] [] with
  | some R => sameItems R due
  | none => false
theorem dice_all : ([2, 3, 4].all fun m => (List.range m).all fun sent => (List.range m).all fun x => (List.range m).all fun y => okDfs dicePr m (sent : Nat) 0 0 [((x : Nat) : Int), ((y : Nat) : Int)] 400 (dueDice m sent m)) = true := by decide +kernel
theorem okDfs_use {pr : List Stp} {m : Nat} {it hd : Int} {s : Nat} {cells : List Int} {F : Nat} {due : List Item} (h : okDfs pr m it hd s cells F due = true) (hF : F ≤ 20000) : ∃ R, Dfs pr m it hd (s : Nat) cells R ∧ R.Nodup ∧ (∀ r, r ∈ R ↔ r ∈ due) ∧ (R.all isGv = true ∨ R.all isAs = true) := by
  unfold okDfs at h
  cases e : dfs pr m it hd F [(s, cells)] [] [] with
  | none => rw [e] at h; cases h
  | some R =>
    rw [e] at h
    unfold sameItems at h
    dsimp only at h
    rw [Bool.and_eq_true, Bool.and_eq_true, Bool.and_eq_true] at h
    obtain ⟨h1, h2, h3, h4⟩ := h
    have h4 := Bool.or_eq_true_iff.mp h4
    refine ⟨R, ⟨s, F, rfl, hF, e, all_alike h4⟩, of_decide_eq_true h1, fun r => ⟨fun hr => ?_, fun hr => ?_⟩, h4⟩
    · exact of_decide_eq_true (List.all_eq_true.mp h2 r hr)
    · exact of_decide_eq_true (List.all_eq_true.mp h3 r hr)
theorem range_in {m k : Nat} (h : k < m) : k ∈ List.range m := List.mem_range.mpr h
theorem dice_run {m sent x y : Nat} (m2 : 2 ≤ m) (m4 : m ≤ 4) (hs : sent < m) (hx : x < m) (hy : y < m) : ∃ R, Dfs dicePr m (sent : Nat) 0 ((0 : Nat) : Int) [((x : Nat) : Int), ((y : Nat) : Int)] R ∧ R.Nodup ∧ (∀ r, r ∈ R ↔ r ∈ dueDice m sent m) ∧ (R.all isGv = true ∨ R.all isAs = true) := by
  have hm : m ∈ [2, 3, 4] := by
    have : m = 2 ∨ m = 3 ∨ m = 4 := by omega
    rcases this with rfl | rfl | rfl <;> simp
  have h1 := List.all_eq_true.mp (List.all_eq_true.mp (List.all_eq_true.mp (List.all_eq_true.mp dice_all m hm) sent (range_in hs)) x (range_in hx)) y (range_in hy)
  exact okDfs_use h1 (by decide)
theorem due_ok {m sent k : Nat} (m4 : m ≤ 4) (hs : sent < m) (hk : k ≤ m) : ∀ r ∈ dueDice m sent k, ItOk r := by
  intro r hr
  obtain ⟨x, hx, hr⟩ := List.mem_flatMap.mp hr
  obtain ⟨y, hy, rfl⟩ := List.mem_map.mp hr
  have hx := List.mem_range.mp hx
  have hy := List.mem_range.mp hy
  have ht : (x + y) % m < m := Nat.mod_lt _ (by omega)
  refine ⟨fun v e => ?_, (fun p d v e => by cases e), fun z hz => ?_, by simp, (fun n v e => by cases e)⟩
  · injection e with e
    split at e <;> omega
  · simp only [List.mem_cons, List.not_mem_nil, or_false] at hz
    rcases hz with e | e <;> rw [e] <;> omega
theorem due_gv {m sent k : Nat} : (dueDice m sent k).all isGv = true := by
  rw [List.all_eq_true]
  intro r hr
  obtain ⟨x, hx, hr⟩ := List.mem_flatMap.mp hr
  obtain ⟨y, hy, rfl⟩ := List.mem_map.mp hr
  rfl
theorem due_len (m sent : Nat) : ∀ k, (dueDice m sent k).length = k * m
  | 0 => by simp [dueDice]
  | k + 1 => by
    have ih := due_len m sent k
    unfold dueDice at ih ⊢
    rw [List.range_succ, List.flatMap_append, List.length_append, ih]
    simp [dueRow, Nat.succ_mul]
end K5
namespace K5
open PySem PySem.Spec PyProof.Rows L2
/-! ### the dice, their page -/
def dicePool : List Str := ["a", "n", "set", "zz", "draw"]
def diceRows (a b : Str) : List Str := ["cell " ++ a ++ " 1", "cell " ++ b ++ " 0", "door roll", "  draw " ++ a, "  draw " ++ b] ++ ["  add " ++ a ++ " " ++ b, "  if " ++ a ++ " = it", "    fail", "  answer " ++ b]
def diceD (a b : Str) : PD := ⟨[(a, 1), (b, 0)], [], [("roll", 0)], dicePr.map Stp.d, []⟩
def pageB (rows : List Str) : Bool := (rows.all fun p => !(p.cps.toList.contains 10)) && (decide ((Str.join "\n" rows).length ≤ 14000) && PyData.strOk (Str.join "\n" rows))
theorem dice_page_a {b : Str} (hb : b ∈ dicePool) : pageB (diceRows "a" b) = true := by
  simp only [dicePool, List.mem_cons, List.not_mem_nil, or_false] at hb
  rcases hb with rfl | rfl | rfl | rfl | rfl <;> kernel_rfl
theorem dice_part_a {b : Str} (hb : b ∈ dicePool) (ne : ("a" : Str) ≠ b) {m : Nat} (hm : m = 2 ∨ m = 3 ∨ m = 4) : partR (m : Nat) (diceRows "a" b) = .ok (diceD "a" b) := by
  simp only [dicePool, List.mem_cons, List.not_mem_nil, or_false] at hb
  rcases hb with rfl | rfl | rfl | rfl | rfl <;> first | exact absurd rfl ne | (rcases hm with rfl | rfl | rfl <;> kernel_rfl)
theorem dice_page_n {b : Str} (hb : b ∈ dicePool) : pageB (diceRows "n" b) = true := by
  simp only [dicePool, List.mem_cons, List.not_mem_nil, or_false] at hb
  rcases hb with rfl | rfl | rfl | rfl | rfl <;> kernel_rfl
theorem dice_part_n {b : Str} (hb : b ∈ dicePool) (ne : ("n" : Str) ≠ b) {m : Nat} (hm : m = 2 ∨ m = 3 ∨ m = 4) : partR (m : Nat) (diceRows "n" b) = .ok (diceD "n" b) := by
  simp only [dicePool, List.mem_cons, List.not_mem_nil, or_false] at hb
  rcases hb with rfl | rfl | rfl | rfl | rfl <;> first | exact absurd rfl ne | (rcases hm with rfl | rfl | rfl <;> kernel_rfl)
theorem dice_page_set {b : Str} (hb : b ∈ dicePool) : pageB (diceRows "set" b) = true := by
  simp only [dicePool, List.mem_cons, List.not_mem_nil, or_false] at hb
  rcases hb with rfl | rfl | rfl | rfl | rfl <;> kernel_rfl
theorem dice_part_set {b : Str} (hb : b ∈ dicePool) (ne : ("set" : Str) ≠ b) {m : Nat} (hm : m = 2 ∨ m = 3 ∨ m = 4) : partR (m : Nat) (diceRows "set" b) = .ok (diceD "set" b) := by
  simp only [dicePool, List.mem_cons, List.not_mem_nil, or_false] at hb
  rcases hb with rfl | rfl | rfl | rfl | rfl <;> first | exact absurd rfl ne | (rcases hm with rfl | rfl | rfl <;> kernel_rfl)
theorem dice_page_zz {b : Str} (hb : b ∈ dicePool) : pageB (diceRows "zz" b) = true := by
  simp only [dicePool, List.mem_cons, List.not_mem_nil, or_false] at hb
  rcases hb with rfl | rfl | rfl | rfl | rfl <;> kernel_rfl
theorem dice_part_zz {b : Str} (hb : b ∈ dicePool) (ne : ("zz" : Str) ≠ b) {m : Nat} (hm : m = 2 ∨ m = 3 ∨ m = 4) : partR (m : Nat) (diceRows "zz" b) = .ok (diceD "zz" b) := by
  simp only [dicePool, List.mem_cons, List.not_mem_nil, or_false] at hb
  rcases hb with rfl | rfl | rfl | rfl | rfl <;> first | exact absurd rfl ne | (rcases hm with rfl | rfl | rfl <;> kernel_rfl)
theorem dice_page_draw {b : Str} (hb : b ∈ dicePool) : pageB (diceRows "draw" b) = true := by
  simp only [dicePool, List.mem_cons, List.not_mem_nil, or_false] at hb
  rcases hb with rfl | rfl | rfl | rfl | rfl <;> kernel_rfl
theorem dice_part_draw {b : Str} (hb : b ∈ dicePool) (ne : ("draw" : Str) ≠ b) {m : Nat} (hm : m = 2 ∨ m = 3 ∨ m = 4) : partR (m : Nat) (diceRows "draw" b) = .ok (diceD "draw" b) := by
  simp only [dicePool, List.mem_cons, List.not_mem_nil, or_false] at hb
  rcases hb with rfl | rfl | rfl | rfl | rfl <;> first | exact absurd rfl ne | (rcases hm with rfl | rfl | rfl <;> kernel_rfl)
theorem dice_page {a b : Str} (ha : a ∈ dicePool) (hb : b ∈ dicePool) : pageB (diceRows a b) = true := by
  simp only [dicePool, List.mem_cons, List.not_mem_nil, or_false] at ha
  rcases ha with rfl | rfl | rfl | rfl | rfl
  · exact dice_page_a hb
  · exact dice_page_n hb
  · exact dice_page_set hb
  · exact dice_page_zz hb
  · exact dice_page_draw hb
theorem pageB_use {rows : List Str} (h : pageB rows = true) : (∀ p ∈ rows, 10 ∉ p.cps.toList) ∧ (Str.join "\n" rows).length ≤ 14000 ∧ PyData.strOk (Str.join "\n" rows) = true := by
  unfold pageB at h
  rw [Bool.and_eq_true, Bool.and_eq_true] at h
  refine ⟨fun p hp hc => ?_, of_decide_eq_true h.2.1, h.2.2⟩
  have := List.all_eq_true.mp h.1 p hp
  rw [List.contains_iff_mem.mpr hc] at this
  cases this
theorem dice_part {a b : Str} (ha : a ∈ dicePool) (hb : b ∈ dicePool) (ne : a ≠ b) {m : Nat} (m2 : 2 ≤ m) (m4 : m ≤ 4) : partR (m : Nat) (diceRows a b) = .ok (diceD a b) := by
  have hm : m = 2 ∨ m = 3 ∨ m = 4 := by omega
  simp only [dicePool, List.mem_cons, List.not_mem_nil, or_false] at ha
  rcases ha with rfl | rfl | rfl | rfl | rfl
  · exact dice_part_a hb ne hm
  · exact dice_part_n hb ne hm
  · exact dice_part_set hb ne hm
  · exact dice_part_zz hb ne hm
  · exact dice_part_draw hb ne hm
end K5
namespace K5
open PySem PySem.Spec PyProof.Rows L2
theorem len_app (x y : Str) : (x ++ y).length = x.length + y.length := by
  show (x ++ y).cps.size = x.cps.size + y.cps.size
  exact Array.size_append
def rJoinS (K : PySem.W.Frag) : V → List V → Hp → VK → Prop := fun x xs H Q => ∃ a p, ∃ ys : List Str, x = .str a ∧ xs = [.ref p] ∧ (SqL K H p (ys.map V.str) ∨ SqT K H p (ys.map V.str)) ∧ (ys.map (·.length)).sum + ys.length * a.length ≤ 16777216 ∧ Q (.str (Txt.join a ys)) H
theorem join_read {K : PySem.W.Frag} {σ : L2.St} {H : Hp} {Q : VK} {r : Addr} {rows : List Str} {te : TE} (hv : Val te σ H (.ref r)) (hl : H r = some (.lst (rows.map V.str))) (hz : (rows.map (·.length)).sum + rows.length ≤ 16777216) (k : Q (.str (Str.join "\n" rows)) H) : tBM K "str" (rJoinS K) (tC (.str "\n")) (tCons te tNil) σ H Q := by
  refine bm_run (x := .str "\n") val_c rfl ?_
  dsimp only [tCons, tNil]
  refine hv _ ⟨"\n", r, rows, rfl, rfl, .inl (SqL.of hl), ?_, ?_⟩
  · rw [show ("\n" : Str).length = 1 by decide +kernel, Nat.mul_one]
    exact hz
  · rw [TL.join_eq]
    exact k
/-- what is neither a list nor a table is kept -/
def Kp (H H' : Hp) : Prop := ∀ a o, (∀ xs, o ≠ .lst xs) → (∀ ps, o ≠ .tbl ps) → H a = some o → H' a = some o
theorem Kp.trans {H H1 H2 : Hp} (x : Kp H H1) (y : Kp H1 H2) : Kp H H2 := fun a o n1 n2 h => y a o n1 n2 (x a o n1 n2 h)
theorem Kp.of {H H' : Hp} (s : Same H H') : Kp H H' := fun a o _ _ h => s a o h
theorem Kp.but {H H' : Hp} {b : Addr} {bs : List V} (s : SameBut b H H') (hb : H b = some (.lst bs)) : Kp H H' := fun a o n1 _ h => s a o (fun e => by
  rw [e, hb] at h
  exact n1 bs (Option.some.inj h).symm) h
theorem Kp.tup {H H' : Hp} (k : Kp H H') : ∀ a zs, H a = some (.tup zs) → H' a = some (.tup zs) := fun a zs h => k a _ (fun _ e => nomatch e) (fun _ e => nomatch e) h
theorem PrAt.kp {Pt da : Addr} {H H' : Hp} {a : Addr} {wn : Nat} {y : V} {D : PD} {pr : List Stp} (h : PrAt Pt da H a wn y D pr) (k : Kp H H') : PrAt Pt da H' a wn y D pr := by
  obtain ⟨⟨ct, pt, sd, dt, stp, ak, ts, xs, kvs, f⟩, d, w2, w4⟩ := h
  exact ⟨⟨ct, pt, sd, dt, stp, ak, ts, xs, kvs, ⟨k _ _ (fun _ e => nomatch e) (fun _ e => nomatch e) f.o, k.tup _ _ f.ct, pairs_to f.ts k.tup, k.tup _ _ f.pt, k _ _ (fun _ e => nomatch e) (fun _ e => nomatch e) f.sd, k.tup _ _ f.dt, k.tup _ _ f.stp, f.sx.keep k.tup, k _ _ (fun _ e => nomatch e) (fun _ e => nomatch e) f.ak, f.ax.keep k.tup⟩⟩, d, w2, w4⟩
theorem nodup_len {γ : Type} [DecidableEq γ] : ∀ {l m : List γ}, l.Nodup → (∀ x ∈ l, x ∈ m) → l.length ≤ m.length
  | [], _, _, _ => Nat.zero_le _
  | x :: l, m, n, h => by
    obtain ⟨h1, h2⟩ := List.nodup_cons.mp n
    have hx := h x List.mem_cons_self
    have ih := nodup_len (m := m.erase x) h2 fun y hy => (List.mem_erase_of_ne (fun e => h1 (by rw [← e]; exact hy))).mpr (h y (List.mem_cons_of_mem _ hy))
    rw [List.length_erase_of_mem hx] at ih
    have := List.length_pos_of_mem hx
    rw [List.length_cons]
    omega
theorem if_run {t : TT} {ta tb : TE} {σ : L2.St} {H : Hp} {Q : VK} (h : t σ H fun c H1 => if c = true then ta σ H1 Q else tb σ H1 Q) : tIf t ta tb σ H Q := h
theorem test_run {te : TE} {σ : L2.St} {H : Hp} {Q : Bool → Hp → Prop} {k : Bool} (hv : Val te σ H (.bl k)) (h : Q k H) : tTest te σ H Q := hv _ ⟨k, rfl, h⟩
theorem trs_app {H : Hp} {v : V} {d : PyData} (h : Tr H v d) : ∀ {vs : List V} {ds : List PyData}, Trs H vs ds → Trs H (vs ++ [v]) (ds ++ [d])
  | _, _, .nil => .cons h .nil
  | _, _, .cons a t => .cons a (trs_app h t)
theorem val_if {t : TE} {ta tb : TE} {σ : L2.St} {H : Hp} {k : Bool} {u v : V} (h : Val t σ H (.bl k)) (ha : Val ta σ H u) (hb : Val tb σ H v) : Val (tIf (tTest t) ta tb) σ H (if k = true then u else v) := fun Q q => if_run (test_run h (by
  cases k
  · exact hb _ q
  · exact ha _ q))
theorem tr_item_gv {H : Hp} {q1 q2 q3 q4 q5 : Addr} {v : Int} {cs : List Int} (h1 : H q1 = some (.tup [.str "gives", .int v])) (h2 : H q2 = some (.tup (cs.map V.int))) (h3 : H q3 = some (.tup [])) (h4 : H q4 = some (.tup [.ref q2, .ref q3])) (h5 : H q5 = some (.tup [.ref q1, .ref q4])) : Tr H (.ref q5) (itemD (.gives v, cs, none)) :=
  tr2 h5 (tr2 h1 (.str _) (.int _)) (tr2 h4 (.tup h2 (trs_ints cs)) (.tup h3 .nil))
/-- an answer that is drawn, laid behind a list -/
theorem app_gv {K : PySem.W.Frag} {σ : L2.St} {H : Hp} {Q : VK} {l : Addr} {ts : List Addr} {ds : List PyData} {to tv ta tb : TE} {v t y : Int} (ho : Val to σ H (.ref l)) (hl : H l = some (.lst (ts.map V.ref))) (tr : Trs H (ts.map V.ref) ds) (few : ds.length ≤ 900) (hv : Val tv σ H (.int v)) (ha : ∀ H', Val ta σ H' (.int t)) (hb : ∀ H', Val tb σ H' (.int y))
    (k : ∀ (HE : Hp) (ts : List Addr), SameBut l H HE → HE l = some (.lst (ts.map V.ref)) → Trs HE (ts.map V.ref) (ds ++ [itemD (.gives v, [t, y], none)]) → Q .non HE) :
    tBM K "list" rAppend to (tCons (tTup (tCons (tTup (tCons (tC (.str "gives")) (tCons tv tNil))) (tCons (tTup (tCons (tTup (tCons ta (tCons tb tNil))) (tCons (tTup tNil) tNil))) tNil))) tNil) σ H Q := by
  refine bm_run (x := .ref l) ho (.inl ⟨rfl, _, SqL.of hl⟩) ?_
  dsimp only [tTup, tCons, tNil]
  refine val_c _ (hv _ ⟨by show 2 ≤ sizeLine; decide, fun q1 n1 => ?_⟩)
  refine (ha _) _ ((hb _) _ ⟨by show 2 ≤ sizeLine; decide, fun q2 n2 => ⟨Nat.zero_le _, fun q3 n3 => ⟨by show 2 ≤ sizeLine; decide, fun q4 n4 => ⟨by show 2 ≤ sizeLine; decide, fun q5 n5 => ?_⟩⟩⟩⟩)
  have s1 := same_upd (o := .tup [.str "gives", .int v]) n1
  have s2 := same_upd (o := .tup [.int t, .int y]) n2
  have s3 := same_upd (o := .tup []) n3
  have s4 := same_upd (o := .tup [.ref q2, .ref q3]) n4
  have s5 := same_upd (o := .tup [.ref q1, .ref q4]) n5
  have hT := tr_item_gv (cs := [t, y]) (s5 _ _ (s4 _ _ (s3 _ _ (s2 _ _ upd_same)))) (s5 _ _ (s4 _ _ (s3 _ _ upd_same))) (s5 _ _ (s4 _ _ upd_same)) (s5 _ _ upd_same) upd_same
  have sAll := (((s1.trans s2).trans s3).trans s4).trans s5
  have hlE := sAll _ _ hl
  have trE := tr.mono sAll
  generalize (upd (upd (upd (upd (upd H q1 (.tup [.str "gives", .int v])) q2 (.tup [.int t, .int y])) q3 (.tup [])) q4 (.tup [.ref q2, .ref q3])) q5 (.tup [.ref q1, .ref q4])) = HE at hT sAll hlE trE ⊢
  have nT : ∀ zs, HE l ≠ some (.tup zs) := fun zs e => by
    rw [hlE] at e
    cases e
  refine ⟨l, _, .ref q5, rfl, rfl, hlE, ?_, k _ (ts ++ [q5]) ?_ ?_ ?_⟩
  · have z := trE.len
    exact small1000 (by omega)
  · intro a1 o n h
    rw [upd_ne n]
    exact sAll _ _ h
  · rw [upd_same, List.map_append]
    rfl
  · rw [List.map_append]
    exact trs_app (hT.but nT) (trE.but nT)
section
variable {P : Program} {w : World} {K : PySem.W.Frag} {mg : Str → Option Value} {base : Heap} {TB TF Pt CT CW : Addr} {fT fO fS fC fA fF fL fP : Addr} {dT dO dS dC dA dF dL dP : FuncData}
theorem ok_draws {f : Addr} {fd : FuncData} (R : Rk P w K mg base TB TF Pt CT CW fT fO fS fC fA fF fL fP dT dO dS dC dA dF dL dP) (D : Df K mg "_law_draws_right" s__law_draws_right f fd ["_law_box_here"]) : FnG P w K mg base (L2.CX P w) 24 f fd ["_law_box_here"] (spTest TB TF) := by
  have GT : FnOk P w K mg base CX0 1 fT dT ["_law_box_here", "_law_many"] spTake := ok_take (CX := CX0) R.DT.F R.B.m_int
  have GO : FnOk P w K mg base CX0 2 fO dO ["_law_box_here", "_law_some_here"] spOfB := ok_ofB R.B R.DO R.DT
  refine okG D.F sc__law_draws_right (fun vs H Q E h => ?_) (fun cdv A outer s H vs Q E gu hr h => ?_)
  · obtain ⟨b, p, q, n, rfl, _⟩ := h
    rfl
  · obtain ⟨b, p, q, n, rfl, hb, Bx, few, tabB, tabF, nBF, k⟩ := h
    have S := sc__law_draws_right
    have hu := hr.units
    refine ⟨_, (pss_cons (ps_par (i := 1) (j := 2) (by rfl) S.nd rfl rfl (by decide) rfl rfl (pa_cons (pe_call GO (hr.mono (by decide)) (by rfl) R.DO.g R.DO.F.kp R.DO.b .nil pass0 (pa_cons (pv 0) (pa_cons (pe_lst (pa_cons pe_int (pa_cons pe_int (pa_cons pe_int pa_nil)))) pa_nil))) (pa_cons (pe_call R.GS (hr.mono (by decide)) (by rfl) R.DS.g R.DS.F.kp R.DS.b .nil pass0 (pa_cons (pv 0) (pa_cons (pe_lst (pa_cons pe_str (pa_cons pe_str (pa_cons pe_str (pa_cons pe_str (pa_cons pe_str pa_nil)))))) (pa_cons pe_int pa_nil)))) pa_nil)) (by rfl))
      (pss_cons (ps_asg (pv 2) (pg_unl (by rfl) (pgs_cons (pg_name (i := 3) S.nd rfl (.inl rfl)) (pgs_cons (pg_name (i := 4) S.nd rfl (.inl rfl)) pgs_nil))))
      (pss_cons (ps_set (i := 5) S.nd rfl (.inl rfl) (pe_lst (pa_cons (pe_op op_add_str (pe_op op_add_str pe_str (pv 3)) pe_str) (pa_cons (pe_op op_add_str (pe_op op_add_str pe_str (pv 4)) pe_str) (pa_cons pe_str (pa_cons (pe_op op_add_str pe_str (pv 3)) (pa_cons (pe_op op_add_str pe_str (pv 4)) pa_nil)))))))
      (pss_cons (ps_set (i := 5) S.nd rfl (.inl rfl) (pe_op op_cat (pv 5) (pe_lst (pa_cons (pe_op op_add_str (pe_op op_add_str (pe_op op_add_str pe_str (pv 3)) pe_str) (pv 4)) (pa_cons (pe_op op_add_str (pe_op op_add_str pe_str (pv 3)) pe_str) (pa_cons pe_str (pa_cons (pe_op op_add_str pe_str (pv 4)) pa_nil)))))))
      (pss_cons (ps_set (i := 6) S.nd rfl (.inl rfl) (pe_make R.MP R.GP (hr.mono (by decide)) (by rfl) R.gP R.bP .nil passL (pa_cons (pv 1) (pa_cons (pe_bm PySem.F.plainAttrs_str PySem.F.slot_str_join PySem.F.type_str_join mt_join pe_str (pa_cons (pv 5) pa_nil)) pa_nil))))
      (pss_cons (ps_for (passes_of rfl) rfl (pi_range1 (by rfl) R.B.m_range (pa_cons (pv 1) pa_nil)) (pg_name (i := 7) S.nd rfl (.inl rfl))
        (pss_cons (ps_set (i := 8) S.nd rfl (.inl rfl) (pe_lst pa_nil))
        (pss_cons (ps_for (passes_of rfl) rfl (pi_range1 (by rfl) R.B.m_range (pa_cons (pv 1) pa_nil)) (pg_name (i := 9) S.nd rfl (.inl rfl))
          (pss_one (ps_for (passes_of rfl) rfl (pi_range1 (by rfl) R.B.m_range (pa_cons (pv 1) pa_nil)) (pg_name (i := 10) S.nd rfl (.inl rfl))
            (pss_cons (ps_set (i := 11) S.nd rfl (.inl rfl) (pe_op op_mod (pe_toInt (by rfl) R.B.m_int (pe_op op_add (pv 9) (pv 10))) (pv 1)))
            (pss_one (ps_expr (pe_bm PySem.F.plainAttrs_list PySem.F.slot_list_append PySem.F.type_list_append mt_append (pv 8) (pa_cons (pe_tup (pa_cons (pe_tup (pa_cons pe_str (pa_cons (pe_ifExp (pt_cmpR op_eq (pv 11) (pv 7) (nomark _)) (pe_un un_neg pe_int) (pv 10)) pa_nil))) (pa_cons (pe_tup (pa_cons (pe_tup (pa_cons (pv 11) (pa_cons (pv 10) pa_nil))) (pa_cons (pe_tup pa_nil) pa_nil))) pa_nil))) pa_nil))))))))
        (pss_cons (ps_set (i := 12) S.nd rfl (.inl rfl) (pe_tup (pa_cons (pe_call GT (hr.mono (by decide)) (by rfl) R.DT.g R.DT.F.kp R.DT.b .nil pass0 (pa_cons (pv 0) (pa_cons (pv 1) pa_nil))) (pa_cons (pe_call GT (hr.mono (by decide)) (by rfl) R.DT.g R.DT.F.kp R.DT.b .nil pass0 (pa_cons (pv 0) (pa_cons (pv 1) pa_nil))) pa_nil))))
        (pss_one (ps_if (pt_cmpR op_ne (pe_callB (call_reprT gu hu) (by rfl) R.B.m_repr PyProof.Rows.boot_repr (pa_cons (pe_call R.GC (hr.mono (by decide)) (by rfl) R.DC.g R.DC.F.kp R.DC.b .nil passL (pa_cons (pv 6) (pa_cons (pe_tup (pa_cons (pv 12) (pa_cons (pe_tup pa_nil) pa_nil))) (pa_cons pe_str (pa_cons (pv 7) pa_nil))))) pa_nil)) (pe_callB (call_reprT gu hu) (by rfl) R.B.m_repr PyProof.Rows.boot_repr (pa_cons (pe_call R.GL (hr.mono (by decide)) (by rfl) R.DL.g R.DL.F.kp R.DL.b .nil pass0 (pa_cons (pv 8) pa_nil)) pa_nil)) (nomark _))
          (pss_one (ps_ret pe_bl)) pss_nil))))))
      (pss_one (ps_ret (pe_cmpR (op_eqD (by exact hu)) (pe_call R.GF (hr.mono (by decide)) (by rfl) R.gF R.kF R.bF .nil passL (pa_cons (pv 6) pa_nil)) (pe_tup (pa_cons (pe_tup (pa_cons pe_int (pa_cons pe_int pa_nil))) (pa_cons (pe_tup pa_nil) pa_nil))) (nomark _)))))))))), ?_⟩
    dsimp only [tSeq, tPar, tCons, tNil]
    dsimp only [tCall, tLst, tCons, tNil]
    refine (val_var rfl) _ (val_c _ (val_c _ (val_c _ ⟨by show 3 ≤ sizeLine; decide, fun l0 nl0 => ?_⟩)))
    have s1 := same_upd (o := .lst [V.int 2, V.int 3, V.int 4]) nl0
    have hb1 := s1 _ _ hb
    refine ⟨b, l0, _, p, q, n, rfl, hb1, Bx, by omega, upd_same, (ne_of_none hb nl0).symm, by decide, by decide, fun x p1 n1 hx B1 le1 => ?_⟩
    obtain ⟨m, rfl, m2, m4⟩ : ∃ m : Nat, x = .int (m : Nat) ∧ 2 ≤ m ∧ m ≤ 4 := by
      simp only [List.mem_cons, List.not_mem_nil, or_false] at hx
      rcases hx with e | e | e
      · exact ⟨2, e, by decide, by decide⟩
      · exact ⟨3, e, by decide, by decide⟩
      · exact ⟨4, e, by decide, by decide⟩
    have bB : b ≠ TB := tab_ne tabB hb fun _ e => nomatch e
    have bF : b ≠ TF := tab_ne tabF hb fun _ e => nomatch e
    generalize (upd H l0 (.lst [V.int 2, V.int 3, V.int 4])) = H1 at s1 hb1 ⊢
    have k2 : ∀ x o, x ≠ b → H x = some o → (upd H1 b (.lst (bx p1 q n1))) x = some o := fun x o nx e => by
      rw [upd_ne nx]
      exact s1 _ _ e
    have hb2 : (upd H1 b (.lst (bx p1 q n1))) b = some (.lst (bx p1 q n1)) := upd_same
    generalize (upd H1 b (.lst (bx p1 q n1))) = H2 at k2 hb2 ⊢
    refine (val_var rfl) _ (val_c _ (val_c _ (val_c _ (val_c _ (val_c _ ⟨by show 5 ≤ sizeLine; decide, fun l1 nl1 => ?_⟩)))))
    have s3 := same_upd (o := .lst (dicePool.map V.str)) nl1
    refine val_c _ ?_
    refine ⟨b, l1, dicePool.map V.str, 2, p1, q, n1, rfl, s3 _ _ hb2, B1, SqL.of upd_same, by decide, by decide, by omega, fun H4 r ys rest p2 n2 sb nr hr2 hb4 B2 le2 ly pm => ?_⟩
    have k4 : ∀ x o, x ≠ b → H x = some o → H4 x = some o := fun x o nx e => sb _ _ nx (s3 _ _ (k2 x o nx e))
    clear sb s3 k2 s1 hb1 hb2 nl0 nl1 nr
    obtain ⟨a, c, ha, hc, nac, rfl⟩ : ∃ a c : Str, a ∈ dicePool ∧ c ∈ dicePool ∧ a ≠ c ∧ ys = [.str a, .str c] := by
      match ys, ly with
      | [u, v], _ =>
        have hu' : u ∈ dicePool.map V.str := pm.mem_iff.mp (by simp)
        have hv' : v ∈ dicePool.map V.str := pm.mem_iff.mp (by simp)
        obtain ⟨a, ha, rfl⟩ := List.mem_map.mp hu'
        obtain ⟨c, hc, rfl⟩ := List.mem_map.mp hv'
        refine ⟨a, c, ha, hc, fun e => ?_, rfl⟩
        subst e
        have nd : (dicePool.map V.str).Nodup := by decide +kernel
        have := pm.nodup_iff.mpr nd
        simp at this
    refine ⟨_, _, rfl, ?_⟩
    try dsimp only [gName, List.set]
    dsimp only [tSeq, tAsg]
    refine (val_var rfl) _ ?_
    refine ⟨r, _, rfl, SqL.of hr2, rfl, ?_⟩
    refine ⟨_, _, rfl, ?_⟩
    refine ⟨_, _, rfl, ?_⟩
    refine ⟨rfl, ?_⟩
    try dsimp only [gName, List.set]
    have la : a.length ≤ 8 ∧ c.length ≤ 8 := by
      have h : ∀ z ∈ dicePool, z.length ≤ 8 := by decide +kernel
      exact ⟨h a ha, h c hc⟩
    have lt : ∀ z : Str, z.length ≤ 40 → z.length + a.length ≤ 10000000 ∧ z.length + c.length ≤ 10000000 := fun z h => by omega
    dsimp only [tSeq, tAsg, tLst, tCons, tNil]
    refine (val_addS (val_addS (x := "cell ") (y := a) val_c (val_var rfl) ?_) (y := " 1") val_c ?_) _ ?_
    · exact (lt _ (by decide +kernel)).1
    · rw [len_app]
      exact Nat.le_trans (Nat.add_le_add_right (Nat.add_le_add_left la.1 _) _) (by decide +kernel)
    refine (val_addS (val_addS (x := "cell ") (y := c) val_c (val_var rfl) ?_) (y := " 0") val_c ?_) _ ?_
    · exact (lt _ (by decide +kernel)).2
    · rw [len_app]
      exact Nat.le_trans (Nat.add_le_add_right (Nat.add_le_add_left la.2 _) _) (by decide +kernel)
    refine val_c _ ?_
    refine (val_addS (x := "  draw ") (y := a) val_c (val_var rfl) ?_) _ ?_
    · exact (lt _ (by decide +kernel)).1
    refine (val_addS (x := "  draw ") (y := c) val_c (val_var rfl) ?_) _ ?_
    · exact (lt _ (by decide +kernel)).2
    refine ⟨by show 5 ≤ sizeLine; decide, fun l2 nl2 => ?_⟩
    dsimp only [gName]
    have s5 := same_upd (o := .lst [V.str ("cell " ++ a ++ " 1"), .str ("cell " ++ c ++ " 0"), .str "door roll", .str ("  draw " ++ a), .str ("  draw " ++ c)]) nl2
    have hl2 : (upd H4 l2 (.lst [V.str ("cell " ++ a ++ " 1"), .str ("cell " ++ c ++ " 0"), .str "door roll", .str ("  draw " ++ a), .str ("  draw " ++ c)])) l2 = some (.lst [V.str ("cell " ++ a ++ " 1"), .str ("cell " ++ c ++ " 0"), .str "door roll", .str ("  draw " ++ a), .str ("  draw " ++ c)]) := upd_same
    generalize (upd H4 l2 (.lst [V.str ("cell " ++ a ++ " 1"), .str ("cell " ++ c ++ " 0"), .str "door roll", .str ("  draw " ++ a), .str ("  draw " ++ c)])) = H5 at s5 hl2 ⊢
    try dsimp only [List.set]
    dsimp only [tSeq, tAsg]
    refine (val_var rfl) _ ?_
    dsimp only [tLst, tCons, tNil]
    refine (val_addS (val_addS (val_addS (x := "  add ") (y := a) val_c (val_var rfl) ?_) (y := " ") val_c ?_) (y := c) (val_var (by rfl)) ?_) _ ?_
    · exact (lt _ (by decide +kernel)).1
    · rw [len_app]
      exact Nat.le_trans (Nat.add_le_add_right (Nat.add_le_add_left la.1 _) _) (by decide +kernel)
    · rw [len_app, len_app]
      exact Nat.le_trans (Nat.add_le_add (Nat.add_le_add_right (Nat.add_le_add_left la.1 _) _) la.2) (by decide +kernel)
    refine (val_addS (val_addS (x := "  if ") (y := a) val_c (val_var rfl) ?_) (y := " = it") val_c ?_) _ ?_
    · exact (lt _ (by decide +kernel)).1
    · rw [len_app]
      exact Nat.le_trans (Nat.add_le_add_right (Nat.add_le_add_left la.1 _) _) (by decide +kernel)
    refine val_c _ ?_
    refine (val_addS (x := "  answer ") (y := c) val_c (val_var rfl) ?_) _ ?_
    · exact (lt _ (by decide +kernel)).2
    refine ⟨by show 4 ≤ sizeLine; decide, fun l3 nl3 => ?_⟩
    have s6 := same_upd (o := .lst [V.str ("  add " ++ a ++ " " ++ c), .str ("  if " ++ a ++ " = it"), .str "    fail", .str ("  answer " ++ c)]) nl3
    refine ⟨l2, l3, _, _, rfl, rfl, s6 _ _ hl2, upd_same, by show 9 ≤ sizeLine; decide, fun l4 nl4 => ?_⟩
    have s7 := same_upd (o := .lst ((diceRows a c).map V.str)) nl4
    have hl4 : (upd (upd H5 l3 (.lst [V.str ("  add " ++ a ++ " " ++ c), .str ("  if " ++ a ++ " = it"), .str "    fail", .str ("  answer " ++ c)])) l4 (.lst ((diceRows a c).map V.str))) l4 = some (.lst ((diceRows a c).map V.str)) := upd_same
    change gName 5 (.ref l4) _ (upd (upd H5 l3 (.lst [V.str ("  add " ++ a ++ " " ++ c), .str ("  if " ++ a ++ " = it"), .str "    fail", .str ("  answer " ++ c)])) l4 (.lst ((diceRows a c).map V.str))) _
    generalize (upd (upd H5 l3 (.lst [V.str ("  add " ++ a ++ " " ++ c), .str ("  if " ++ a ++ " = it"), .str "    fail", .str ("  answer " ++ c)])) l4 (.lst ((diceRows a c).map V.str))) = H7 at s7 hl4 ⊢
    have s47 : Same H4 H7 := (s5.trans s6).trans s7
    clear s5 s6 s7 hl2 nl2 nl3 nl4
    dsimp only [gName]
    try dsimp only [List.set]
    dsimp only [tSeq, tAsg]
    obtain ⟨pg1, pg2, pg3⟩ := pageB_use (dice_page ha hc)
    have tabB7 : GxR.TabG H7 TB := by
      obtain ⟨ps, h1, h2⟩ := tabB
      exact ⟨ps, s47 _ _ (k4 _ _ bB.symm h1), h2⟩
    refine mk_page m2 m4 (dice_part ha hc nac m2 m4) (by unfold diceRows; simp) pg1 pg2 pg3 tabB7 (val_var rfl) (fun RR h => ?_) fun H8 pa da kt8 tabB8 pt8 => ?_
    · refine join_read (te := tVar 5) (rows := diceRows a c) (val_var rfl) hl4 ?_ (h _ fun _ _ e => e)
      have h1 : ∀ u ∈ dicePool, ∀ v ∈ dicePool, ((diceRows u v).map (·.length)).sum + (diceRows u v).length ≤ 1000 := by decide +kernel
      exact Nat.le_trans (h1 a ha c hc) (by decide)
    · have PR : PrAt Pt da H8 pa m _ (diceD a c) dicePr := ⟨pt8, rfl, m2, m4⟩
      have hb8 : H8 b = some (.lst (bx p2 q n2)) := kt8 _ _ bB (s47 _ _ hb4)
      refine ⟨.int (m : Nat), rfl, (m : Nat), rfl, by omega, by omega, ?_⟩
      show ∃ W : Nat → Nat → L2.St → Hp → Prop, _
      refine for_range (lo := 0) (n := ((m : Nat) : Int).toNat) (fun i σ H' => ∃ (p' n' : Int) (t7 t8 t9 t10 t11 t12 : Option V), σ = [some (.ref b), some (.int (m : Nat)), some (.ref r), some (.str a), some (.str c), some (.ref l4), some (.ref pa), t7, t8, t9, t10, t11, t12] ∧ SameBut b H8 H' ∧ H' b = some (.lst (bx p' q n')) ∧ Box p' q n' ∧ n' ≤ n2 + 2 * i) ?_ ?_ ?_
      · exact ⟨p2, n2, _, _, _, _, _, _, rfl, fun _ _ _ e => e, hb8, B2, by omega⟩
      · rintro i σ H9 hi ⟨p3, n3, t7, t8, t9, t10, t11, t12, rfl, sb9, hb9, B3, le3⟩
        have hi' : i < m := by omega
        refine ⟨by decide, fun l8 nl8 => ?_⟩
        have hl8 : (upd H9 l8 (.lst [])) l8 = some (.lst (([] : List Addr).map V.ref)) := upd_same
        have sA := same_upd (o := .lst []) nl8
        have nb8 : b ≠ l8 := ne_of_none hb9 nl8
        generalize (upd H9 l8 (.lst [])) = HA at hl8 sA ⊢
        refine ⟨.int (m : Nat), rfl, (m : Nat), rfl, by omega, by omega, ?_⟩
        show ∃ W : Nat → Nat → L2.St → Hp → Prop, _
        refine for_range (lo := 0) (n := ((m : Nat) : Int).toNat) (fun x σ H' => ∃ (ts : List Addr) (t9 t10 t11 : Option V), σ = [some (.ref b), some (.int (m : Nat)), some (.ref r), some (.str a), some (.str c), some (.ref l4), some (.ref pa), some (.int (0 + (i : Nat))), some (.ref l8), t9, t10, t11, t12] ∧ SameBut l8 HA H' ∧ H' l8 = some (.lst (ts.map V.ref)) ∧ Trs H' (ts.map V.ref) ((dueDice m i x).map itemD)) ?_ ?_ ?_
        · exact ⟨[], _, _, _, rfl, fun _ _ _ e => e, hl8, .nil⟩
        · rintro x σ HB hx ⟨ts, t9, t10, t11, rfl, sbB, hlB, trB⟩
          have hx' : x < m := by omega
          refine ⟨.int (m : Nat), rfl, (m : Nat), rfl, by omega, by omega, ?_⟩
          show ∃ W : Nat → Nat → L2.St → Hp → Prop, _
          refine for_range (lo := 0) (n := ((m : Nat) : Int).toNat) (fun y σ H' => ∃ (ts : List Addr) (t10 t11 : Option V), σ = [some (.ref b), some (.int (m : Nat)), some (.ref r), some (.str a), some (.str c), some (.ref l4), some (.ref pa), some (.int (0 + (i : Nat))), some (.ref l8), some (.int (0 + (x : Nat))), t10, t11, t12] ∧ SameBut l8 HA H' ∧ H' l8 = some (.lst (ts.map V.ref)) ∧ Trs H' (ts.map V.ref) ((dueDice m i x ++ dueRow m i x y).map itemD)) ?_ ?_ ?_
          · refine ⟨ts, _, _, rfl, sbB, hlB, ?_⟩
            simpa [dueRow] using trB
          · rintro y σ HC hy ⟨ts, t10, t11, rfl, sbC, hlC, trC⟩
            have hy' : y < m := by omega
            refine (val_op (val_toInt (val_op (val_var rfl) (val_var rfl) fun Q q => ⟨_, _, rfl, rfl, q⟩)) (val_var rfl) fun Q q => ⟨_, _, rfl, rfl, by omega, q⟩) _ ?_
            dsimp only [gName, List.set]
            have e : (0 + (x : Nat) + (0 + (y : Nat))) % ((m : Nat) : Int) = (((x + y) % m : Nat) : Int) := by rw [Int.zero_add, Int.zero_add, Int.natCast_emod, Int.natCast_add]
            refine app_gv (l := l8) (v := if (((x + y) % m : Nat) : Int) = (i : Nat) then -1 else (y : Nat)) (t := (((x + y) % m : Nat) : Int)) (y := (y : Nat)) (val_var rfl) hlC trC ?_ ?_ (fun _ => val_var (congrArg (fun z => some (some (V.int z))) e)) (fun _ => val_var (congrArg (fun z => some (some (V.int z))) (Int.zero_add ((y : Nat) : Int)))) fun HE ts sb hl tr => ⟨ts, _, _, rfl, fun a1 o n h => sb _ _ n (sbC _ _ n h), hl, ?_⟩
            · rw [List.length_map, List.length_append, due_len]
              have z2 : (dueRow m i x y).length = y := by simp [dueRow]
              have z3 : x * m ≤ 3 * 4 := Nat.mul_le_mul (by omega) (by omega)
              omega
            · have hI := val_if (k := decide (V.int ((0 + (x : Nat) + (0 + (y : Nat))) % (m : Nat)) = V.int (0 + (i : Nat)))) (u := .int (-1)) (v := .int (0 + (y : Nat))) (ta := tUn (rU fun i => .int (-i)) (tC (.int 1))) (tb := tVar 10) (val_op (r := rEq) (ta := tVar 11) (tb := tVar 7) (σ := [some (.ref b), some (.int (m : Nat)), some (.ref r), some (.str a), some (.str c), some (.ref l4), some (.ref pa), some (.int (0 + (i : Nat))), some (.ref l8), some (.int (0 + (x : Nat))), some (.int (0 + (y : Nat))), some (.int ((0 + (x : Nat) + (0 + (y : Nat))) % (m : Nat))), t12]) (H := HC) (val_var rfl) (val_var rfl) fun Q q => ⟨rfl, q⟩) (val_neg val_c) (val_var rfl)
              rw [e, Int.zero_add, Int.zero_add, Int.zero_add] at hI
              have e4 : (if decide (V.int (((x + y) % m : Nat) : Int) = V.int (i : Nat)) = true then V.int (-1) else V.int (y : Nat)) = V.int (if (((x + y) % m : Nat) : Int) = (i : Nat) then -1 else (y : Nat)) := by
                by_cases h : (((x + y) % m : Nat) : Int) = (i : Nat)
                · rw [if_pos (decide_eq_true (by rw [h])), if_pos h]
                · rw [if_neg (fun z => h (by have := of_decide_eq_true z; injection this)), if_neg h]
              rw [e4] at hI
              rw [e, Int.zero_add, Int.zero_add, Int.zero_add]
              exact hI
            · have e3 : dueRow m i x (y + 1) = dueRow m i x y ++ [(.gives (if (((x + y) % m : Nat) : Int) = (i : Nat) then -1 else (y : Nat)), [(((x + y) % m : Nat) : Int), ((y : Nat) : Int)], none)] := by
                unfold dueRow
                rw [List.range_succ, List.map_append]
                rfl
              rw [e3, ← List.append_assoc, List.map_append]
              exact tr
          · rintro σ HC ⟨ts, t10, t11, rfl, sbC, hlC, trC⟩
            refine ⟨ts, _, _, _, rfl, sbC, hlC, ?_⟩
            have e : dueDice m i (x + 1) = dueDice m i x ++ dueRow m i x m := by
              unfold dueDice
              rw [List.range_succ, List.flatMap_append]
              simp
            rw [e]
            exact trC
        · rintro σ HB ⟨ts, t9, t10, t11, rfl, sbB, hlB, trB⟩
          have hbB : HB b = some (.lst (bx p3 q n3)) := sbB _ _ nb8 (sA _ _ hb9)
          dsimp only [tSeq, tAsg]
          dsimp only [tTup, tCons, tNil]
          refine take_box rfl (val_var rfl) hbB B3 (by omega) (by omega) (by omega) fun d1 p4 n4 d10 d11 B4 le4 => ?_
          refine take_box rfl (val_var rfl) upd_same B4 (by omega) (by omega) (by omega) fun d2 p5 n5 d20 d21 B5 le5 => ?_
          refine ⟨by show 2 ≤ sizeLine; decide, fun lc nlc => ?_⟩
          have bB9 : SameBut b HB (upd (upd HB b (.lst (bx p4 q n4))) b (.lst (bx p5 q n5))) := fun a1 o n h => by
            rw [upd_ne n, upd_ne n]
            exact h
          have hbD : (upd (upd HB b (.lst (bx p4 q n4))) b (.lst (bx p5 q n5))) b = some (.lst (bx p5 q n5)) := upd_same
          generalize (upd (upd HB b (.lst (bx p4 q n4))) b (.lst (bx p5 q n5))) = HD at bB9 hbD nlc ⊢
          have hcl : (upd HD lc (.tup [.int d1, .int d2])) lc = some (.tup [.int d1, .int d2]) := upd_same
          have sE := same_upd (o := .tup [.int d1, .int d2]) nlc
          generalize (upd HD lc (.tup [.int d1, .int d2])) = HE at hcl sE ⊢
          dsimp only [gName, List.set]
          dsimp only [tIfS, tTest, tOp, tCB, tCall, tTup, tCons, tNil]
          have hlE : HE l8 = some (.lst (ts.map V.ref)) := sE _ _ (bB9 _ _ nb8.symm hlB)
          have trE : Trs HE (ts.map V.ref) ((dueDice m i m).map itemD) := (trB.keep fun a1 zs h => Kp.tup (Kp.but bB9 hbB) a1 zs h).mono sE
          have sb8E : SameBut b H8 HE := fun a1 o n h => by
            have h9 := sb9 _ _ n h
            exact sE _ _ (bB9 _ _ n (sbB _ _ (ne_of_none h9 nl8) (sA _ _ h9)))
          have prE : PrAt Pt da HE pa m _ (diceD a c) dicePr := PR.kp (Kp.but sb8E hb8)
          obtain ⟨x1, rfl⟩ : ∃ z : Nat, d1 = (z : Int) := ⟨d1.toNat, by omega⟩
          obtain ⟨y1, rfl⟩ : ∃ z : Nat, d2 = (z : Int) := ⟨d2.toNat, by omega⟩
          refine (val_var rfl) _ ((val_var rfl) _ ⟨Nat.zero_le _, fun q1 nq1 => ⟨by show 2 ≤ sizeLine; decide, fun q2 nq2 => val_c _ ((val_var rfl) _ ?_)⟩⟩)
          have t1 := same_upd (o := .tup []) nq1
          have t2 := same_upd (o := .tup [.ref lc, .ref q1]) nq2
          obtain ⟨R1, dR, ndR, memR, alR⟩ := dice_run (sent := i) (x := x1) (y := y1) m2 m4 hi' (by omega) (by omega)
          have inE := tr2 (d := cellsD [(x1 : Int), (y1 : Int)]) (e := waitD none) (upd_same (H := upd HE q1 (.tup [])) (a := q2) (o := .tup [.ref lc, .ref q1])) (.tup (t2 _ _ (t1 _ _ hcl)) (trs_ints [(x1 : Int), (y1 : Int)])) (.tup (t2 _ _ upd_same) .nil)
          refine ⟨pa, q2, da, m, _, diceD a c, dicePr, ([(x1 : Int), (y1 : Int)], none), "roll", 0 + (i : Nat), ((0 : Nat) : Int), rfl, (prE.mono t1).mono t2, inE, ⟨rfl, by show 2 ≤ 3; decide, ?_, fun n v e => nomatch e⟩, (by decide +kernel : stAt [("roll", (0 : Int))] "roll" = some ((0 : Nat) : Int)), by omega, by omega, fun h => absurd rfl h, fun _ => ⟨R1, by rw [Int.zero_add]; exact dR, fun HF q3 sF trF => ?_⟩⟩
          · intro v hv
            simp only [List.mem_cons, List.not_mem_nil, or_false] at hv
            rcases hv with rfl | rfl <;> omega
          have sEF := (t1.trans t2).trans sF
          refine ⟨q3, _, rfl, trF, sh_items ?_ ?_, ?_⟩
          · exact fun z hz => due_ok m4 hi' (Nat.le_refl _) z ((memR z).mp hz)
          · have z := nodup_len ndR fun z hz => (memR z).mp hz
            rw [due_len] at z
            have z3 : m * m ≤ 4 * 4 := Nat.mul_le_mul m4 m4
            omega
          have dl : (dueDice m i m).length ≤ 16 := by
            rw [due_len]
            exact Nat.mul_le_mul m4 m4
          refine (val_var rfl) _ ⟨l8, ts, dueDice m i m, rfl, sEF _ _ hlE, trE.mono sEF, dl, all_alike (.inl due_gv), fun dd HG q4 nd4 mem4 sG trG => ⟨q4, _, rfl, trG, sh_items ?_ ?_, rfl, _, rfl, ?_⟩⟩
          · exact fun z hz => due_ok m4 hi' (Nat.le_refl _) z ((mem4 z).mp hz)
          · have z := nodup_len nd4 fun z hz => (mem4 z).mp hz
            omega
          · rw [sortB_one itemD_inj key_item (nodup_perm ndR nd4 fun x => (memR x).trans (mem4 x).symm) (all_alike alR), decide_eq_true rfl]
            refine iteF ?_
            have sEG := sEF.trans sG
            exact ⟨p5, n5, _, _, _, _, _, _, rfl, fun a1 o n h => sEG _ _ (sb8E _ _ n h), sEG _ _ (sE _ _ hbD), B5, by omega⟩
      · rintro σ H9 ⟨p3, n3, t7, t8, t9, t10, t11, t12, rfl, sb9, hb9, B3, le3⟩
        dsimp only [tSeq, tRet]
        dsimp only [tOp, tCall, tTup, tCons, tNil]
        have pr9 : PrAt Pt da H9 pa m _ (diceD a c) dicePr := PR.kp (Kp.but sb9 hb8)
        have k9 : ∀ x o, x ≠ b → x ≠ TB → H x = some o → H9 x = some o := fun x o n1 n2 e => sb9 _ _ n1 (kt8 _ _ n2 (s47 _ _ (k4 _ _ n1 e)))
        have tabF9 : GxR.TabG H9 TF := by
          obtain ⟨ps, h1, h2⟩ := tabF
          exact ⟨ps, k9 _ _ bF.symm nBF.symm h1, h2⟩
        have tabB9 : GxR.TabG H9 TB := by
          obtain ⟨ps, h1, h2⟩ := tabB8
          exact ⟨ps, sb9 _ _ bB.symm h1, h2⟩
        refine (val_var rfl) _ ⟨pa, da, m, _, diceD a c, dicePr, rfl, pr9, by show 2 ≤ 3; decide, tabF9, fun HF q1 kF tabFF trF => ?_⟩
        refine val_c _ (val_c _ ⟨by show 2 ≤ sizeLine; decide, fun u1 nu1 => ⟨Nat.zero_le _, fun u2 nu2 => ⟨by show 2 ≤ sizeLine; decide, fun u3 nu3 => ?_⟩⟩⟩)
        have t1 := same_upd (o := .tup [.int 1, .int 0]) nu1
        have t2 := same_upd (o := .tup []) nu2
        have t3 := same_upd (o := .tup [.ref u1, .ref u2]) nu3
        have tAll := (t1.trans t2).trans t3
        have trY : Tr (upd (upd (upd HF u1 (.tup [.int 1, .int 0])) u2 (.tup [])) u3 (.tup [.ref u1, .ref u2])) (.ref u3) (innD ([1, 0], none)) := tr2 upd_same (.tup (t3 _ _ (t2 _ _ upd_same)) (trs_ints [1, 0])) (.tup (t3 _ _ upd_same) .nil)
        have trX : Tr (upd (upd (upd HF u1 (.tup [.int 1, .int 0])) u2 (.tup [])) u3 (.tup [.ref u1, .ref u2])) (.ref q1) (innD ([1, 0], none)) := trF.mono tAll
        have sh : SeqAt.shaped (innD ([1, 0], none)) = true := by decide +kernel
        refine ⟨_, _, trX.dp, trY.dp, sh, sh, ?_⟩
        rw [show PyData.eqv (innD ([1, 0], none)) (innD ([1, 0], none)) = true by decide +kernel]
        have kAll : ∀ x o, x ≠ TF → H9 x = some o → (upd (upd (upd HF u1 (.tup [.int 1, .int 0])) u2 (.tup [])) u3 (.tup [.ref u1, .ref u2])) x = some o := fun x o n e => tAll _ _ (kF _ _ n e)
        refine k _ p3 n3 (fun x o n1 n2' n3' e => kAll _ _ n2' (k9 _ _ n3' n1 e)) ?_ (TabG.keep tabFF tAll) (kAll _ _ bF hb9) B3 (by omega)
        obtain ⟨ps, h1, h2⟩ := tabB9
        exact ⟨ps, kAll _ _ nBF h1, h2⟩
end
end K5
namespace K5
open PySem PySem.Spec PyProof.Rows L2
/-! ### what is drawn over is not seen -/
theorem dfs_map {pr : List Stp} {wn : Nat} {it hd it' hd' : Int} (φ : Place → Place) (S : Place → Prop) (inj : ∀ p q, S p → S q → φ p = φ q → p = q) (st1 : ∀ p, (φ p).1 = p.1)
    (hE : ∀ p s, S p → pr[p.1]? = some s → endOf (φ p).2 it' hd' s = endOf p.2 it hd s)
    (hN : ∀ p s, S p → pr[p.1]? = some s → endOf p.2 it hd s = none → ∃ L, nextOf wn p.1 p.2 it hd s = some L ∧ nextOf wn p.1 (φ p).2 it' hd' s = some (L.map φ) ∧ ∀ q ∈ L, S q) :
    ∀ (F : Nat) (st met : List Place) (found : List Item), (∀ p ∈ st, S p) → (∀ p ∈ met, S p) → dfs pr wn it' hd' F (st.map φ) (met.map φ) found = dfs pr wn it hd F st met found
  | 0, st, met, found, _, _ => by rw [dfs, dfs]
  | F + 1, [], met, found, _, _ => by rw [List.map_nil, dfs, dfs]
  | F + 1, pl :: st, met, found, hs, hm => by
    have h1 := hs pl List.mem_cons_self
    have h2 : ∀ p ∈ st, S p := fun p hp => hs p (List.mem_cons_of_mem _ hp)
    have iff : φ pl ∈ met.map φ ↔ pl ∈ met := ⟨fun h => by
      obtain ⟨q, hq, e⟩ := List.mem_map.mp h
      rw [← inj q pl (hm q hq) h1 e]
      exact hq, fun h => List.mem_map.mpr ⟨pl, h, rfl⟩⟩
    rw [List.map_cons, dfs, dfs]
    by_cases h : pl ∈ met
    · rw [if_pos h, if_pos (iff.mpr h)]
      exact dfs_map φ S inj st1 hE hN F st met found h2 hm
    · rw [if_neg h, if_neg (fun z => h (iff.mp z)), st1]
      have hm2 : ∀ p ∈ met ++ [pl], S p := fun p hp => by
        rcases List.mem_append.mp hp with z | z
        · exact hm p z
        · rw [List.mem_singleton.mp z]
          exact h1
      have em : met.map φ ++ [φ pl] = (met ++ [pl]).map φ := by rw [List.map_append]; rfl
      cases hp : pr[pl.1]? with
      | none => rfl
      | some s =>
        dsimp only
        rw [hE pl s h1 hp]
        cases he : endOf pl.2 it hd s with
        | some R =>
          dsimp only
          rw [em]
          exact dfs_map φ S inj st1 hE hN F st _ _ h2 hm2
        | none =>
          obtain ⟨L, e1, e2, e3⟩ := hN pl s h1 hp he
          dsimp only
          rw [e1, e2, em]
          dsimp only
          rw [← List.map_reverse, ← List.map_append]
          refine dfs_map φ S inj st1 hE hN F _ _ _ (fun p hp => ?_) hm2
          rcases List.mem_append.mp hp with z | z
          · exact e3 p (List.mem_reverse.mp z)
          · exact h2 p z
def manyPr : List Stp := [.draw 0, .draw 1, .draw 2, .draw 0, .draw 1, .draw 2, .draw 0, .draw 1, .answer (.worth 0)]
def manyZ (x y m : Nat) : List Item := (List.range m).map fun z => (.gives 0, [((x : Nat) : Int), ((y : Nat) : Int), ((z : Nat) : Int)], none)
def manyY (x m k : Nat) : List Item := (List.range k).flatMap fun y => manyZ x y m
def dueMany (m k : Nat) : List Item := (List.range k).flatMap fun x => manyY x m m
theorem many_2 : okDfs manyPr 2 0 0 0 [0, 0, 0] 400 (dueMany 2 2) = true := by decide +kernel
theorem many_3 : okDfs manyPr 3 0 0 0 [0, 0, 0] 900 (dueMany 3 3) = true := by decide +kernel
/-- the cells that were there first, set to 0 until they are drawn over -/
def phiM : Place → Place
  | (0, _) => (0, [0, 0, 0])
  | (1, v :: _) => (1, [v, 0, 0])
  | (2, v :: u :: _) => (2, [v, u, 0])
  | p => p
def SM (c0 c1 c2 : Int) (p : Place) : Prop := p = (0, [c0, c1, c2]) ∨ (∃ v, p = (1, [v, c1, c2])) ∨ (∃ v u, p = (2, [v, u, c2])) ∨ ∃ n u v z, p = (n + 3, [u, v, z])
theorem next_draw {m n k : Nat} {cells : List Int} {it hd : Int} (h : k < cells.length) : nextOf m n cells it hd (.draw k) = some ((List.range m).map fun v => (n + 1, cells.set k ((v : Nat) : Int))) := if_pos h
theorem many_cases {n : Nat} {s : Stp} (h : manyPr[n + 3]? = some s) : (∃ k, k < 3 ∧ s = .draw k) ∨ s = .answer (.worth 0) := by
  match n, h with
  | 0, h => cases h; exact .inl ⟨0, by decide, rfl⟩
  | 1, h => cases h; exact .inl ⟨1, by decide, rfl⟩
  | 2, h => cases h; exact .inl ⟨2, by decide, rfl⟩
  | 3, h => cases h; exact .inl ⟨0, by decide, rfl⟩
  | 4, h => cases h; exact .inl ⟨1, by decide, rfl⟩
  | 5, h => cases h; exact .inr rfl
  | n + 6, h => cases h
theorem many_map {m : Nat} (it c0 c1 c2 : Int) (F : Nat) : dfs manyPr m 0 0 F [(0, [0, 0, 0])] [] [] = dfs manyPr m it 0 F [(0, [c0, c1, c2])] [] [] := by
  refine dfs_map (it := it) (hd := 0) (it' := 0) (hd' := 0) phiM (SM c0 c1 c2) ?_ ?_ ?_ ?_ F [(0, [c0, c1, c2])] [] [] (fun p hp => .inl (List.mem_singleton.mp hp)) fun p hp => nomatch hp
  · rintro p q (rfl | ⟨v, rfl⟩ | ⟨v, u, rfl⟩ | ⟨n, u, v, z, rfl⟩) (rfl | ⟨v', rfl⟩ | ⟨v', u', rfl⟩ | ⟨n', u', v', z', rfl⟩) h <;> simp [phiM] at h ⊢ <;> exact h
  · intro p
    unfold phiM
    split <;> rfl
  · rintro p s (rfl | ⟨v, rfl⟩ | ⟨v, u, rfl⟩ | ⟨n, u, v, z, rfl⟩) h
    · cases h; rfl
    · cases h; rfl
    · cases h; rfl
    · rcases many_cases h with ⟨k, _, rfl⟩ | rfl <;> rfl
  · rintro p s (rfl | ⟨v, rfl⟩ | ⟨v, u, rfl⟩ | ⟨n, u, v, z, rfl⟩) h he
    · cases h
      refine ⟨_, next_draw (by show 0 < 3; decide), ?_, fun q hq => ?_⟩
      · rw [List.map_map]
        exact next_draw (by show 0 < 3; decide)
      · obtain ⟨x, _, rfl⟩ := List.mem_map.mp hq
        exact .inr (.inl ⟨_, rfl⟩)
    · cases h
      refine ⟨_, next_draw (by show 1 < 3; decide), ?_, fun q hq => ?_⟩
      · rw [List.map_map]
        exact next_draw (by show 1 < 3; decide)
      · obtain ⟨x, _, rfl⟩ := List.mem_map.mp hq
        exact .inr (.inr (.inl ⟨_, _, rfl⟩))
    · cases h
      refine ⟨_, next_draw (by show 2 < 3; decide), ?_, fun q hq => ?_⟩
      · rw [List.map_map]
        exact next_draw (by show 2 < 3; decide)
      · obtain ⟨x, _, rfl⟩ := List.mem_map.mp hq
        exact .inr (.inr (.inr ⟨_, _, _, _, rfl⟩))
    · rcases many_cases h with ⟨k, hk, rfl⟩ | rfl
      · refine ⟨_, next_draw hk, ?_, fun q hq => ?_⟩
        · rw [List.map_map]
          exact next_draw hk
        · obtain ⟨x, _, rfl⟩ := List.mem_map.mp hq
          have : k = 0 ∨ k = 1 ∨ k = 2 := by omega
          rcases this with rfl | rfl | rfl <;> exact .inr (.inr (.inr ⟨n + 1, _, _, _, rfl⟩))
      · cases he
theorem many_run {m : Nat} (hm : m = 2 ∨ m = 3) (it c0 c1 c2 : Int) : ∃ R, Dfs manyPr m it 0 ((0 : Nat) : Int) [c0, c1, c2] R ∧ R.Nodup ∧ (∀ r, r ∈ R ↔ r ∈ dueMany m m) ∧ (R.all isGv = true ∨ R.all isAs = true) := by
  have key : ∃ F, F ≤ 20000 ∧ okDfs manyPr m 0 0 0 [0, 0, 0] F (dueMany m m) = true := by
    rcases hm with rfl | rfl
    · exact ⟨400, by decide, many_2⟩
    · exact ⟨900, by decide, many_3⟩
  obtain ⟨F, hF, h⟩ := key
  have h2 : okDfs manyPr m it 0 0 [c0, c1, c2] F (dueMany m m) = true := by
    unfold okDfs at h ⊢
    rw [← many_map it c0 c1 c2 F]
    exact h
  exact okDfs_use h2 hF
theorem manyZ_len (x y m : Nat) : (manyZ x y m).length = m := by simp [manyZ]
theorem manyY_len (x m : Nat) : ∀ k, (manyY x m k).length = k * m
  | 0 => by simp [manyY]
  | k + 1 => by
    have ih := manyY_len x m k
    unfold manyY at ih ⊢
    rw [List.range_succ, List.flatMap_append, List.length_append, ih]
    simp [manyZ, Nat.succ_mul]
theorem many_ok {m : Nat} (m4 : m ≤ 4) : ∀ r ∈ dueMany m m, ItOk r := by
  intro r hr
  obtain ⟨x, hx, hr⟩ := List.mem_flatMap.mp hr
  obtain ⟨y, hy, hr⟩ := List.mem_flatMap.mp hr
  obtain ⟨z, hz, rfl⟩ := List.mem_map.mp hr
  have hx := List.mem_range.mp hx
  have hy := List.mem_range.mp hy
  have hz := List.mem_range.mp hz
  refine ⟨fun v e => ?_, (fun p d v e => by cases e), fun z hz => ?_, by simp, (fun n v e => by cases e)⟩
  · injection e with e
    omega
  · simp only [List.mem_cons, List.not_mem_nil, or_false] at hz
    rcases hz with e | e | e <;> rw [e] <;> omega
theorem many_gv {m k : Nat} : (dueMany m k).all isGv = true := by
  rw [List.all_eq_true]
  intro r hr
  obtain ⟨x, hx, hr⟩ := List.mem_flatMap.mp hr
  obtain ⟨y, hy, hr⟩ := List.mem_flatMap.mp hr
  obtain ⟨z, hz, rfl⟩ := List.mem_map.mp hr
  rfl
theorem many_nodup {m : Nat} (hm : m = 2 ∨ m = 3) : (dueMany m m).Nodup := by
  rcases hm with rfl | rfl <;> decide +kernel
theorem many_len {m : Nat} (hm : m = 2 ∨ m = 3) : (dueMany m m).length ≤ 27 := by
  rcases hm with rfl | rfl <;> decide +kernel
end K5
namespace K5
open PySem PySem.Spec PyProof.Rows L2
/-! ### eight draws, their page -/
def cellRow (z : Str) (v : Int) : Str := "cell " ++ z ++ " " ++ (toString v : Str)
def drawRow (z : Str) : Str := "  draw " ++ z
def manyRows (u v w : Int) : List Str := [cellRow "a" u, cellRow "b" v, cellRow "c" w] ++ (["door go"] : List Str) ++ (["a", "b", "c", "a", "b", "c", "a", "b"] : List Str).map drawRow
def manyD (u v w : Int) : PD := ⟨[("a", u), ("b", v), ("c", w)], [], [("go", 0)], manyPr.map Stp.d, []⟩
theorem many_page_2 : ([0, 1].all fun u : Nat => [0, 1].all fun v : Nat => [0, 1].all fun w : Nat => pageB (manyRows (u : Nat) (v : Nat) (w : Nat))) = true := by kernel_rfl
theorem many_part_2 {u v w : Nat} (hu : u = 0 ∨ u = 1) (hv : v = 0 ∨ v = 1) (hw : w = 0 ∨ w = 1) : partR ((2 : Nat) : Int) (manyRows (u : Nat) (v : Nat) (w : Nat)) = .ok (manyD (u : Nat) (v : Nat) (w : Nat)) := by
  rcases hu with rfl | rfl <;> rcases hv with rfl | rfl <;> rcases hw with rfl | rfl <;> kernel_rfl
theorem many_part_30 {v w : Nat} (hv : v = 0 ∨ v = 1 ∨ v = 2) (hw : w = 0 ∨ w = 1 ∨ w = 2) : partR ((3 : Nat) : Int) (manyRows ((0 : Nat) : Int) (v : Nat) (w : Nat)) = .ok (manyD ((0 : Nat) : Int) (v : Nat) (w : Nat)) := by
  rcases hv with rfl | rfl | rfl <;> rcases hw with rfl | rfl | rfl <;> kernel_rfl
theorem many_part_31 {v w : Nat} (hv : v = 0 ∨ v = 1 ∨ v = 2) (hw : w = 0 ∨ w = 1 ∨ w = 2) : partR ((3 : Nat) : Int) (manyRows ((1 : Nat) : Int) (v : Nat) (w : Nat)) = .ok (manyD ((1 : Nat) : Int) (v : Nat) (w : Nat)) := by
  rcases hv with rfl | rfl | rfl <;> rcases hw with rfl | rfl | rfl <;> kernel_rfl
theorem many_part_32 {v w : Nat} (hv : v = 0 ∨ v = 1 ∨ v = 2) (hw : w = 0 ∨ w = 1 ∨ w = 2) : partR ((3 : Nat) : Int) (manyRows ((2 : Nat) : Int) (v : Nat) (w : Nat)) = .ok (manyD ((2 : Nat) : Int) (v : Nat) (w : Nat)) := by
  rcases hv with rfl | rfl | rfl <;> rcases hw with rfl | rfl | rfl <;> kernel_rfl
theorem many_page_3 : ([0, 1, 2].all fun u : Nat => [0, 1, 2].all fun v : Nat => [0, 1, 2].all fun w : Nat => pageB (manyRows (u : Nat) (v : Nat) (w : Nat))) = true := by kernel_rfl
theorem many_part {m u v w : Nat} (hm : m = 2 ∨ m = 3) (hu : u < m) (hv : v < m) (hw : w < m) : partR (m : Nat) (manyRows (u : Nat) (v : Nat) (w : Nat)) = .ok (manyD (u : Nat) (v : Nat) (w : Nat)) := by
  rcases hm with rfl | rfl
  · exact many_part_2 (by omega) (by omega) (by omega)
  · have h : u = 0 ∨ u = 1 ∨ u = 2 := by omega
    rcases h with rfl | rfl | rfl
    · exact many_part_30 (by omega) (by omega)
    · exact many_part_31 (by omega) (by omega)
    · exact many_part_32 (by omega) (by omega)
theorem many_page {m u v w : Nat} (hm : m = 2 ∨ m = 3) (hu : u < m) (hv : v < m) (hw : w < m) : pageB (manyRows (u : Nat) (v : Nat) (w : Nat)) = true := by
  have i3 : ∀ {n : Nat}, n < m → n ∈ [0, 1, 2] := fun {n} h => by
    have : n = 0 ∨ n = 1 ∨ n = 2 := by omega
    rcases this with rfl | rfl | rfl <;> simp
  exact List.all_eq_true.mp (List.all_eq_true.mp (List.all_eq_true.mp many_page_3 u (i3 hu)) v (i3 hv)) w (i3 hw)
end K5
namespace K5
open PySem PySem.Spec PyProof.Rows L2
/-! ### sorted(a list of nested keys) -/
section
variable {β : Type} [DecidableEq β] {X : Cx}
def rSortLN (K : PySem.W.Frag) (enc : β → PyData) : List V → Hp → VK → Prop := fun xs H Q => ∃ (l : Addr) (ts0 : List Addr) (ks : List β), xs = [.ref l] ∧ SqL K H l (ts0.map V.ref) ∧ Trs H (ts0.map V.ref) (ks.map enc) ∧ ks.length ≤ 1000 ∧ PySem.W.AllAlike (ks.map enc) ∧ (∀ b, ∃ x r, enc b = .tuple (x :: r)) ∧ (∀ b ∈ ks, (enc b).depth ≤ 8) ∧
    ∀ (ts : List Addr) (p : Addr), Trs H (ts.map V.ref) ((sortB enc ks).map enc) → H p = none → Q (.ref p) (upd H p (.lst (ts.map V.ref)))
theorem call_sortedLN {enc : β → PyData} (hu : X.A.units + 64 < cLine) : CallR X (.builtin "sorted") (rSortLN X.K enc) := by
  intro pins s σ H xs us Q I r q
  obtain ⟨l, ts0, ks, rfl, hq, tr, few, al, tup, dep, q⟩ := q
  obtain ⟨u, rfl, rx⟩ := r.one
  cases rx
  obtain ⟨its, r1, pl, hz⟩ := I.list hq
  obtain ⟨zs, z1, z2, z3⟩ := zip_keys tr
  have hits : its = zs.map fun p => Value.ref p.1 := by
    have e : ∀ {ts : List Addr} {us : List Value}, Vals (ts.map V.ref) us → us = ts.map Value.ref := by
      intro ts
      induction ts with
      | nil => intro us r; cases r; rfl
      | cons t ts ih =>
        intro us r
        cases r with
        | cons r1 r2 => cases r1; rw [ih r2]; rfl
    rw [e r1, ← z1, List.map_map]
    rfl
  subst hits
  have lz : zs.length = ks.length := by rw [← z2, List.length_map]
  refine Calls.call_function_entry PyProof.Rows.kind_sorted PyProof.Rows.plain_sorted PyProof.Rows.entry_sorted (PyProof.Rows.args_sorted1 _) ?_
  unfold Builtin.«sorted»
  refine wpAny_bind (m := checkCount "sorted" 1 1 _) (wpAny_pure ?_)
  refine wpAny_bind (collect_list pl.isList ?_ (by rw [List.length_map, lz, sizeLine_eq]; omega))
  have up1 : ∀ b o, s.heap.get? b = some o → ((s.heap.push (seqObj "list" #[] 0)).update s.heap.objs.size (Obj.mapSeq (· ++ (zs.map fun p => Value.ref p.1).toArray))).get? b = some o := fun b o h => by
    rw [Heap.get?_update_ne _ _ _ _ (Nat.ne_of_lt (Heap.lt_size h))]
    exact Heap.get?_push_of_some _ h
  have sz1 : ((s.heap.push (seqObj "list" #[] 0)).update s.heap.objs.size (Obj.mapSeq (· ++ (zs.map fun p => Value.ref p.1).toArray))).objs.size = s.heap.objs.size + 1 := by rw [Heap.size_update, size_push']
  generalize ((s.heap.push (seqObj "list" #[] 0)).update s.heap.objs.size (Obj.mapSeq (· ++ (zs.map fun p => Value.ref p.1).toArray))) = h1 at up1 sz1 ⊢
  refine wpAny_bind (wpAny_newList ?_ (by rw [List.length_map, lz, sizeLine_eq]; omega))
  have hoL : (h1.push (seqObj "list" (zs.map fun p => Value.ref p.1).toArray 0)).get? h1.objs.size = some (seqObj "list" (zs.map fun p => Value.ref p.1).toArray 0) := Heap.get?_push_size _ rfl
  have each : PySem.W.EachIs (fun v (b : Addr × β) => v = .ref b.1 ∧ Tr H (.ref b.1) (enc b.2)) (zs.map fun p => Value.ref p.1) zs := by
    have e : ∀ (M : List (Addr × β)), (∀ z ∈ M, z ∈ zs) → PySem.W.EachIs (fun v (b : Addr × β) => v = .ref b.1 ∧ Tr H (.ref b.1) (enc b.2)) (M.map fun p => Value.ref p.1) M := by
      intro M
      induction M with
      | nil => intro _; exact .nil
      | cons z M ih =>
        intro h
        exact .cons ⟨rfl, z3 z (h z List.mem_cons_self)⟩ (ih fun y hy => h y (List.mem_cons_of_mem _ hy))
    exact e zs fun z h => h
  have rd : PySem.W.EachIs (fun v (b : Addr × β) => ∃ as, Reads (h1.push (seqObj "list" (zs.map fun p => Value.ref p.1).toArray 0)) v (enc b.2) as ∧ h1.objs.size ∉ as) (zs.map fun p => Value.ref p.1) zs :=
    each.mono fun v b ⟨e1, e2⟩ => ⟨[], Tr.readsIn I (fun c o e => Heap.get?_push_of_some _ (up1 _ _ e)) e2 (show RelV (.ref b.1) v from e1), by simp⟩
  have inKs : ∀ b ∈ zs, b.2 ∈ ks := fun b hb => by
    rw [← z2]
    exact List.mem_map.mpr ⟨b, hb, rfl⟩
  refine wpAny_bind (wpAny_holding (PySem.W.list_sort_data (enc := fun b : Addr × β => enc b.2) (s := { s with heap := h1.push (seqObj "list" (zs.map fun p => Value.ref p.1).toArray 0) }) hoL each rd ?_ (PySem.W.Sortable.tuples fun b => tup b.2) (by rw [lz, sizeLine_eq]; omega) (fun b hb => ?_) fun out lo2 eo => ?_))
  · intro d hd1 d' hd2
    obtain ⟨b, hb, rfl⟩ := List.mem_map.mp hd1
    obtain ⟨b', hb', rfl⟩ := List.mem_map.mp hd2
    exact al _ (List.mem_map.mpr ⟨b.2, inKs b hb, rfl⟩) _ (List.mem_map.mpr ⟨b'.2, inKs b' hb', rfl⟩)
  · show X.A.units + 1 + 1 + (enc b.2).depth < cLine
    have := dep _ (inKs b hb)
    omega
  · obtain ⟨e', he'⟩ := PyProof.Rows.sortedHeap_at (vs := zs.map fun p => Value.ref p.1) (out := out.toArray) hoL
    have em : (zs.mergeSort (PySem.W.dataLe false fun b : Addr × β => enc b.2)).map (·.2) = sortB enc ks := by
      rw [← z2]
      exact List.map_mergeSort fun _ _ _ _ => rfl
    generalize (zs.mergeSort (PySem.W.dataLe false fun b : Addr × β => enc b.2)) = cs at eo em
    obtain ⟨ts', rfl, pts⟩ := each_back eo
    rw [em] at pts
    have hlen : (ts'.map V.ref).length ≤ sizeLine := by
      have e1 := Trs.len pts
      have e3 : (sortB enc ks).length = ks.length := List.length_mergeSort ..
      rw [List.length_map, List.length_map, e3] at e1
      rw [List.length_map, sizeLine_eq]
      omega
    have hkeep : ∀ b u, s.heap.get? b = some u → (PyProof.Rows.sortedHeap (h1.push (seqObj "list" (zs.map fun p => Value.ref p.1).toArray 0)) h1.objs.size (zs.map fun p => Value.ref p.1) (ts'.map Value.ref).toArray).get? b = some u := fun b u e => by
      have hb : b < h1.objs.size := Heap.lt_size (up1 _ _ e)
      rw [PyProof.Rows.sortedHeap_old (Nat.ne_of_lt hb) (by rw [size_push']; exact Nat.lt_succ_of_lt hb)]
      exact Heap.get?_push_of_some _ (up1 _ _ e)
    have le : s.heap.objs.size ≤ h1.objs.size := by omega
    exact wpAny_pure ⟨_, rfl, .ref h1.objs.size, upd H h1.objs.size (.lst (ts'.map V.ref)), I.laid (t' := s.toks) hkeep le
      (show ObjOk X.prog X.w _ _ _ (.lst (ts'.map V.ref)) from ⟨hlen, ts'.map Value.ref, e', vals_refs ts', he'⟩), rfl, q ts' _ pts (I.hok.fresh le)⟩
end
end K5
namespace K5
open PySem PySem.Spec PyProof.Rows L2
/-! ### rows with drawn worths -/
theorem cell_len {z : Str} {u : Nat} (hz : z.length ≤ 8) (hu : u < 4) : ("cell " ++ z).length ≤ 20 ∧ ("cell " ++ z ++ " ").length ≤ 30 ∧ (toString ((u : Nat) : Int) : Str).length ≤ 10 := by
  have h3 : ∀ v : Fin 4, (toString ((v.val : Nat) : Int) : Str).length ≤ 10 := by decide +kernel
  refine ⟨?_, ?_, h3 ⟨u, hu⟩⟩
  · rw [len_app]
    exact Nat.le_trans (Nat.add_le_add_left hz _) (by decide +kernel)
  · rw [len_app, len_app]
    exact Nat.le_trans (Nat.add_le_add_right (Nat.add_le_add_left hz _) _) (by decide +kernel)
theorem lc_cells {K : PySem.W.Frag} {H : Hp} {Q : VK} {b l : Addr} {p q n : Int} {m : Nat} {t3 t4 t5 t6 t7 t8 t9 : Option V} {names : List Str} (hl : H l = some (.lst (names.map V.str))) (hb : H b = some (.lst (bx p q n))) (Bx : Box p q n) (m2 : 2 ≤ m) (m4 : m ≤ 4) (hn : n + names.length < 1000000) (short : ∀ z ∈ names, z.length ≤ 8) (few : names.length ≤ 100)
    (k : ∀ (D : Addr) (H' : Hp) (us : List Nat) (p' n' : Int), us.length = names.length → (∀ u ∈ us, u < m) → SameBut b H H' → H' b = some (.lst (bx p' q n')) → Box p' q n' → n' ≤ n + names.length → H' D = some (.lst ((List.zipWith (fun z (u : Nat) => cellRow z (u : Nat)) names us).map V.str)) → Q (.ref D) H') :
    tLc (iList K (tVar 2)) (gName 8) tYes (tOp rAddS (tOp rAddS (tOp rAddS (tC (.str "cell ")) (tVar 8)) (tC (.str " "))) (tCB (fun xs H Q => ∃ i, xs = [.int i] ∧ i.natAbs.log2 < 1920 ∧ Q (.str (toString i)) H) (tCons (tCall spTake [] E0 (tCons (tVar 0) (tCons (tVar 1) tNil))) tNil))) [8] [some (.ref b), some (.int (m : Nat)), some (.ref l), t3, t4, t5, t6, t7, t8, t9] H Q := by
  dsimp only [tLc, iList]
  refine (val_var rfl) _ ?_
  refine ⟨l, rfl, ⟨_, SqL.of hl⟩, fun D nD => ?_⟩
  have nlb : l ≠ b := fun e => by
    rw [e, hb] at hl
    have := Option.some.inj hl
    cases names with
    | nil => cases this
    | cons z zs => cases this
  have nDb : b ≠ D := ne_of_none hb nD
  refine lc_list (K := K) (a := l) (xs := names.map V.str) (fun j H2 => ∃ (us : List Nat) (p' n' : Int), us.length = j ∧ (∀ u ∈ us, u < m) ∧ SameBut b H H2 ∧ H2 b = some (.lst (bx p' q n')) ∧ Box p' q n' ∧ n' ≤ n + j ∧ H2 D = some (.lst ((List.zipWith (fun z (u : Nat) => cellRow z (u : Nat)) (names.take j) us).map V.str))) ?_ (fun j H2 _ h => ?_) (fun j x H2 hx h => ?_) fun H2 h => ?_
  · exact ⟨[], p, n, rfl, (fun _ h => nomatch h), SameBut.of_same (same_upd nD), same_upd nD _ _ hb, Bx, by omega, upd_same⟩
  · obtain ⟨us, p', n', _, _, sb, _⟩ := h
    exact SqL.of (sb _ _ nlb hl)
  · obtain ⟨us, p', n', lu, um, sb, hb2, B2, le2, hD⟩ := h
    rw [List.getElem?_map] at hx
    obtain ⟨z, hz, rfl⟩ := Option.map_eq_some_iff.mp hx
    have lt := (List.getElem?_eq_some_iff.mp hz).1
    refine ⟨rfl, ?_⟩
    dsimp only [tYes]
    rw [if_pos rfl]
    have zs := short z (List.mem_of_getElem? hz)
    have cl := fun (u : Nat) (hu : u < 4) => cell_len (z := z) (u := u) zs hu
    refine (val_addS (val_addS (x := "cell ") (y := z) val_c (val_var rfl) ?_) (y := " ") val_c ?_) _ ?_
    · have := (cl 0 (by decide)).1
      rw [len_app] at this
      omega
    · have := (cl 0 (by decide)).2.1
      rw [len_app] at this
      omega
    refine take_box rfl (val_var rfl) hb2 B2 (by omega) (by omega) (by omega) fun d p3 n3 d0 d1 B3 le3 => ?_
    obtain ⟨u, rfl⟩ : ∃ u : Nat, d = (u : Int) := ⟨d.toNat, by omega⟩
    have hu : u < m := by omega
    have c3 := cl u (by omega)
    refine ⟨(u : Nat), rfl, ?_, _, _, rfl, rfl, ?_, ?_⟩
    · have h3 : ∀ v : Fin 4, ((v.val : Nat) : Int).natAbs.log2 < 1920 := by decide +kernel
      exact h3 ⟨u, by omega⟩
    · exact big_size (by have := c3.2.1; have := c3.2.2; omega)
    refine ⟨_, by rw [upd_ne nDb.symm]; exact hD, ?_, us ++ [u], p3, n3, by rw [List.length_append, lu]; rfl, fun v hv => ?_, fun a1 o n1 e => ?_, ?_, B3, by omega, ?_⟩
    · rw [List.length_map, List.length_zipWith, lu]
      exact small1000 (by omega)
    · rcases List.mem_append.mp hv with h | h
      · exact um v h
      · rw [List.mem_singleton.mp h]
        exact hu
    · rw [upd_ne (ne_of_none e nD), upd_ne n1]
      exact sb _ _ n1 e
    · rw [upd_ne nDb]
      exact upd_same
    · rw [upd_same, List.take_add_one, hz, List.zipWith_append (by rw [lu, List.length_take]; omega), List.map_append]
      rfl
  · obtain ⟨us, p', n', lu, um, sb, hb2, B2, le2, hD⟩ := h
    rw [List.length_map] at lu le2 hD
    rw [List.take_length] at hD
    exact k D H2 us p' n' lu um sb hb2 B2 le2 hD
end K5
namespace K5
open PySem PySem.Spec PyProof.Rows L2
/-! ### the other two comprehensions -/
theorem lc_draws {K : PySem.W.Frag} {H : Hp} {Q : VK} {tl : TE} {t0 t1 t2 t3 t4 t5 t6 t7 t8 t9 : Option V} {names : List Str} (short : ∀ z ∈ names, z.length ≤ 8) (few : names.length ≤ 100) (hv : ∀ R : VK, (∀ H' L, Same H H' → H' L = some (.lst (names.map V.str)) → R (.ref L) H') → tl [t0, t1, t2, t3, t4, t5, t6, t7, t8, t9] H R)
    (k : ∀ (D : Addr) (H' : Hp), Same H H' → H' D = some (.lst ((names.map drawRow).map V.str)) → Q (.ref D) H') :
    tLc (iList K tl) (gName 8) tYes (tOp rAddS (tC (.str "  draw ")) (tVar 8)) [8] [t0, t1, t2, t3, t4, t5, t6, t7, t8, t9] H Q := by
  dsimp only [tLc, iList]
  refine hv _ fun H1 L s1 hL => ?_
  refine ⟨L, rfl, ⟨_, SqL.of hL⟩, fun D nD => ?_⟩
  refine lc_list (K := K) (a := L) (xs := names.map V.str) (fun j H2 => Same H1 H2 ∧ H2 D = some (.lst (((names.take j).map drawRow).map V.str))) ⟨same_upd nD, upd_same⟩ (fun j H2 _ h => SqL.of (h.1 _ _ hL)) (fun j x H2 hx h => ?_) fun H2 h => ?_
  · obtain ⟨s2, hD⟩ := h
    rw [List.getElem?_map] at hx
    obtain ⟨z, hz, rfl⟩ := Option.map_eq_some_iff.mp hx
    have lt := (List.getElem?_eq_some_iff.mp hz).1
    refine ⟨rfl, ?_⟩
    dsimp only [tYes]
    rw [if_pos rfl]
    have zs := short z (List.mem_of_getElem? hz)
    refine (val_addS (x := "  draw ") (y := z) val_c (val_var rfl) ?_) _ ?_
    · exact Nat.le_trans (Nat.add_le_add_left zs _) (by decide +kernel)
    refine ⟨_, hD, ?_, fun a1 o e => ?_, ?_⟩
    · rw [List.length_map, List.length_map]
      exact small1000 (Nat.le_trans (List.length_take_le ..) (by omega))
    · rw [upd_ne (ne_of_none e nD)]
      exact s2 _ _ e
    · rw [upd_same, List.take_add_one, hz, List.map_append, List.map_append]
      rfl
  · obtain ⟨s2, hD⟩ := h
    rw [List.length_map, List.take_length] at hD
    exact k D H2 (s1.trans s2) hD
theorem lc_manyZ {K : PySem.W.Frag} {H : Hp} {Q : VK} {t0 t2 t3 t4 t7 t8 t9 : Option V} {m x y : Nat} (m4 : m ≤ 4)
    (k : ∀ (D : Addr) (H' : Hp) (ts : List Addr), Same H H' → H D = none → H' D = some (.lst (ts.map V.ref)) → Trs H' (ts.map V.ref) ((manyZ x y m).map itemD) → Q (.ref D) H') :
    tLc (iRng1 (tCons (tVar 1) tNil)) (gName 9) tYes (tTup (tCons (tTup (tCons (tC (.str "gives")) (tCons (tC (.int 0)) tNil))) (tCons (tTup (tCons (tTup (tCons (tVar 5) (tCons (tVar 6) (tCons (tVar 9) tNil)))) (tCons (tTup tNil) tNil))) tNil))) [9] [t0, some (.int (m : Nat)), t2, t3, t4, some (.int (0 + (x : Nat))), some (.int (0 + (y : Nat))), t7, t8, t9] H Q := by
  dsimp only [tLc]
  refine ⟨.int (m : Nat), rfl, (m : Nat), rfl, by omega, by omega, fun D nD => ?_⟩
  refine lc_range (lo := 0) (n := ((m : Nat) : Int).toNat) (fun j H2 => ∃ ts : List Addr, Same H H2 ∧ H2 D = some (.lst (ts.map V.ref)) ∧ Trs H2 (ts.map V.ref) ((manyZ x y j).map itemD)) ⟨[], same_upd nD, upd_same, .nil⟩ (fun j H2 hj h => ?_) fun H2 h => ?_
  · obtain ⟨ts, s2, hD, tr⟩ := h
    refine ⟨rfl, ?_⟩
    dsimp only [tYes]
    rw [if_pos rfl]
    dsimp only [tTup, tCons, tNil]
    refine val_c _ (val_c _ ⟨by show 2 ≤ sizeLine; decide, fun q1 n1 => ?_⟩)
    refine (val_var rfl) _ ((val_var rfl) _ ((val_var rfl) _ ⟨by show 3 ≤ sizeLine; decide, fun q2 n2 => ⟨Nat.zero_le _, fun q3 n3 => ⟨by show 2 ≤ sizeLine; decide, fun q4 n4 => ⟨by show 2 ≤ sizeLine; decide, fun q5 n5 => ?_⟩⟩⟩⟩))
    rw [Int.zero_add, Int.zero_add, Int.zero_add] at n3 n4 n5 ⊢
    have s3 := same_upd (o := .tup [.str "gives", .int 0]) n1
    have s4 := same_upd (o := .tup [.int (x : Nat), .int (y : Nat), .int (j : Nat)]) n2
    have s5 := same_upd (o := .tup []) n3
    have s6 := same_upd (o := .tup [.ref q2, .ref q3]) n4
    have s7 := same_upd (o := .tup [.ref q1, .ref q4]) n5
    have hT := tr_item_gv (cs := [((x : Nat) : Int), ((y : Nat) : Int), ((j : Nat) : Int)]) (s7 _ _ (s6 _ _ (s5 _ _ (s4 _ _ upd_same)))) (s7 _ _ (s6 _ _ (s5 _ _ upd_same))) (s7 _ _ (s6 _ _ upd_same)) (s7 _ _ upd_same) upd_same
    have sAll := (((s3.trans s4).trans s5).trans s6).trans s7
    have hDE := sAll _ _ hD
    have trE := tr.mono sAll
    generalize (upd (upd (upd (upd (upd H2 q1 (.tup [.str "gives", .int 0])) q2 (.tup [.int (x : Nat), .int (y : Nat), .int (j : Nat)])) q3 (.tup [])) q4 (.tup [.ref q2, .ref q3])) q5 (.tup [.ref q1, .ref q4])) = HE at hT sAll hDE trE ⊢
    have nT : ∀ zs, HE D ≠ some (.tup zs) := fun zs e => by
      rw [hDE] at e
      cases e
    refine ⟨_, hDE, ?_, ts ++ [q5], fun a1 o e => ?_, ?_, ?_⟩
    · have z := trE.len
      rw [List.length_map, List.length_map, manyZ_len] at z
      rw [List.length_map]
      exact small1000 (by omega)
    · rw [upd_ne (ne_of_none e nD)]
      exact sAll _ _ (s2 _ _ e)
    · rw [upd_same, List.map_append]
      rfl
    · have e3 : manyZ x y (j + 1) = manyZ x y j ++ [(.gives 0, [((x : Nat) : Int), ((y : Nat) : Int), ((j : Nat) : Int)], none)] := by
        unfold manyZ
        rw [List.range_succ, List.map_append]
        rfl
      rw [e3, List.map_append, List.map_append]
      exact trs_app (hT.but nT) (trE.but nT)
  · obtain ⟨ts, s2, hD, tr⟩ := h
    exact k D H2 ts s2 nD hD tr
end K5
namespace K5
open PySem PySem.Spec PyProof.Rows L2
abbrev s__law_many_draws_right : Stmt := topS 53
abbrev nmMd : List Str := ["_law_box_here", "_law_many", "_law_names", "_law_page", "_law_due", "_law_x", "_law_y", "_law_dice", "_law_name", "_law_z"]
theorem sc__law_many_draws_right : FnScope nmMd ["_law_box_here"] (defScope s__law_many_draws_right) := ⟨rfl, rfl, rfl, by decide +kernel, rfl, by decide +kernel, by decide +kernel⟩
theorem trs_app2 {H : Hp} {ws : List V} {es : List PyData} (h : Trs H ws es) : ∀ {vs : List V} {ds : List PyData}, Trs H vs ds → Trs H (vs ++ ws) (ds ++ es)
  | _, _, .nil => h
  | _, _, .cons a t => .cons a (trs_app2 h t)
theorem dueMany_len (m : Nat) : ∀ k, (dueMany m k).length = k * (m * m)
  | 0 => by simp [dueMany]
  | k + 1 => by
    have ih := dueMany_len m k
    unfold dueMany at ih ⊢
    rw [List.range_succ, List.flatMap_append, List.length_append, ih]
    simp [manyY_len, Nat.succ_mul]
theorem Kp.keepT {H H' : Hp} {T : Addr} (t : GxR.TabG H T) (s : KeepT T H H') : Kp H H' := fun a o _ n2 h => s a o (tab_ne t h n2) h
theorem op_run {r : R2} {ta tb : TE} {σ : L2.St} {H : Hp} {Q : VK} (h : ta σ H fun x H1 => tb σ H1 fun y H2 => r x y H2 Q) : tOp r ta tb σ H Q := h
section
variable {P : Program} {w : World} {K : PySem.W.Frag} {mg : Str → Option Value} {base : Heap} {TB TF Pt CT CW : Addr} {fT fO fS fC fA fF fL fP : Addr} {dT dO dS dC dA dF dL dP : FuncData}
theorem ok_many {f : Addr} {fd : FuncData} (R : Rk P w K mg base TB TF Pt CT CW fT fO fS fC fA fF fL fP dT dO dS dC dA dF dL dP) (ms : mg "sorted" = none) (D : Df K mg "_law_many_draws_right" s__law_many_draws_right f fd ["_law_box_here"]) : FnG P w K mg base (L2.CX P w) 24 f fd ["_law_box_here"] (spTest TB TF) := by
  have GT : FnOk P w K mg base CX0 1 fT dT ["_law_box_here", "_law_many"] spTake := ok_take (CX := CX0) R.DT.F R.B.m_int
  have GO : FnOk P w K mg base CX0 2 fO dO ["_law_box_here", "_law_some_here"] spOfB := ok_ofB R.B R.DO R.DT
  refine okG D.F sc__law_many_draws_right (fun vs H Q E h => ?_) (fun cdv A outer s H vs Q E gu hr h => ?_)
  · obtain ⟨b, p, q, n, rfl, _⟩ := h
    rfl
  · obtain ⟨b, p, q, n, rfl, hb, Bx, few, tabB, tabF, nBF, k⟩ := h
    have S := sc__law_many_draws_right
    have hu := hr.units
    refine ⟨_, (pss_cons (ps_asg (pe_tup (pa_cons (pe_call GO (hr.mono (by decide)) (by rfl) R.DO.g R.DO.F.kp R.DO.b .nil pass0 (pa_cons (pv 0) (pa_cons (pe_lst (pa_cons pe_int (pa_cons pe_int pa_nil))) pa_nil))) (pa_cons (pe_lst (pa_cons pe_str (pa_cons pe_str (pa_cons pe_str pa_nil)))) pa_nil))) (pg_tup (by rfl) (pgs_cons (pg_name (i := 1) S.nd rfl (.inr rfl)) (pgs_cons (pg_name (i := 2) S.nd rfl (.inl rfl)) pgs_nil))))
      (pss_cons (ps_set (i := 3) S.nd rfl (.inl rfl) (pe_op op_cat (pe_lc (own := [("_law_name", 8)]) (g := gName 8) (tt := tYes) rfl S.nd (pi_list (pv 2)) (blkOk_by (own := [("_law_name", 8)]) (N := nmMd) (sc := defScope s__law_many_draws_right) (by decide +kernel)) (fun _ _ _ _ _ => pg_name (i := 8) S.nd rfl (Or.inl rfl)) (fun _ _ _ _ _ => pts_nil) (fun _ _ _ _ _ => pe_op op_add_str (pe_op op_add_str (pe_op op_add_str pe_str (pv 8)) pe_str) (pe_callTy call_str_int (by rfl) R.B.m_str (by decide +kernel) (pa_cons (pe_call GT (hr.mono (by decide)) (by rfl) R.DT.g R.DT.F.kp R.DT.b .nil pass0 (pa_cons (pv 0) (pa_cons (pv 1) pa_nil))) pa_nil)))) (pe_lst (pa_cons pe_str pa_nil))))
      (pss_cons (ps_set (i := 3) S.nd rfl (.inl rfl) (pe_op op_cat (pv 3) (pe_lc (own := [("_law_name", 8)]) (g := gName 8) (tt := tYes) rfl S.nd (pi_list (pe_op op_cat (pe_op op_rep (pv 2) pe_int) (pe_slice sl_list (pv 2) po_none (po_some pe_int)))) (blkOk_by (own := [("_law_name", 8)]) (N := nmMd) (sc := defScope s__law_many_draws_right) (by decide +kernel)) (fun _ _ _ _ _ => pg_name (i := 8) S.nd rfl (Or.inl rfl)) (fun _ _ _ _ _ => pts_nil) (fun _ _ _ _ _ => pe_op op_add_str pe_str (pv 8)))))
      (pss_cons (ps_set (i := 4) S.nd rfl (.inl rfl) (pe_lst pa_nil))
      (pss_cons (ps_for (passes_of rfl) rfl (pi_range1 (by rfl) R.B.m_range (pa_cons (pv 1) pa_nil)) (pg_name (i := 5) S.nd rfl (.inr rfl))
        (pss_one (ps_for (passes_of rfl) rfl (pi_range1 (by rfl) R.B.m_range (pa_cons (pv 1) pa_nil)) (pg_name (i := 6) S.nd rfl (.inr rfl))
          (pss_one (ps_expr (pe_bm PySem.F.plainAttrs_list PySem.F.slot_list_extend PySem.F.type_list_extend mt_extend (pv 4) (pa_cons (pe_lc (own := [("_law_z", 9)]) (g := gName 9) (tt := tYes) rfl S.nd (pi_range1 (by rfl) R.B.m_range (pa_cons (pv 1) pa_nil)) (blkOk_by (own := [("_law_z", 9)]) (N := nmMd) (sc := defScope s__law_many_draws_right) (by decide +kernel)) (fun _ _ _ _ _ => pg_name (i := 9) S.nd rfl (Or.inl rfl)) (fun _ _ _ _ _ => pts_nil) (fun _ _ _ _ _ => pe_tup (pa_cons (pe_tup (pa_cons pe_str (pa_cons pe_int pa_nil))) (pa_cons (pe_tup (pa_cons (pe_tup (pa_cons (pv 5) (pa_cons (pv 6) (pa_cons (pv 9) pa_nil)))) (pa_cons (pe_tup pa_nil) pa_nil))) pa_nil)))) pa_nil)))))))
      (pss_cons (ps_set (i := 7) S.nd rfl (.inl rfl) (pe_make R.MP R.GP (hr.mono (by decide)) (by rfl) R.gP R.bP .nil passL (pa_cons (pv 1) (pa_cons (pe_bm PySem.F.plainAttrs_str PySem.F.slot_str_join PySem.F.type_str_join mt_join pe_str (pa_cons (pv 3) pa_nil)) pa_nil))))
      (pss_one (ps_ret (pe_cmpR op_eq (pe_callB (call_reprT gu hu) (by rfl) R.B.m_repr PyProof.Rows.boot_repr (pa_cons (pe_call R.GC (hr.mono (by decide)) (by rfl) R.DC.g R.DC.F.kp R.DC.b .nil passL (pa_cons (pv 7) (pa_cons (pe_call R.GF (hr.mono (by decide)) (by rfl) R.gF R.kF R.bF .nil passL (pa_cons (pv 7) pa_nil)) (pa_cons pe_str (pa_cons (pe_call GT (hr.mono (by decide)) (by rfl) R.DT.g R.DT.F.kp R.DT.b .nil pass0 (pa_cons (pv 0) (pa_cons (pv 1) pa_nil))) pa_nil))))) pa_nil))
        (pe_callB (call_reprT gu hu) (by rfl) R.B.m_repr PyProof.Rows.boot_repr (pa_cons (pe_tupleOf (by rfl) R.B.m_tuple (pe_callB (call_sortedLN (enc := itemD) hr.units) (by rfl) ms (by decide +kernel) (pa_cons (pv 4) pa_nil))) pa_nil)) (nomark _)))))))))), ?_⟩
    dsimp only [tSeq, tAsg, tTup, tCons, tNil]
    dsimp only [tCall, tLst, tCons, tNil]
    refine (val_var rfl) _ (val_c _ (val_c _ ⟨by show 2 ≤ sizeLine; decide, fun l0 nl0 => ?_⟩))
    have s1 := same_upd (o := .lst [V.int 2, V.int 3]) nl0
    have hb1 := s1 _ _ hb
    refine ⟨b, l0, _, p, q, n, rfl, hb1, Bx, by omega, upd_same, (ne_of_none hb nl0).symm, by decide, by decide, fun x p1 n1 hx B1 le1 => ?_⟩
    obtain ⟨m, rfl, hm⟩ : ∃ m : Nat, x = .int (m : Nat) ∧ (m = 2 ∨ m = 3) := by
      simp only [List.mem_cons, List.not_mem_nil, or_false] at hx
      rcases hx with e | e
      · exact ⟨2, e, .inl rfl⟩
      · exact ⟨3, e, .inr rfl⟩
    have m2 : 2 ≤ m := by omega
    have m4 : m ≤ 4 := by omega
    have bB : b ≠ TB := tab_ne tabB hb fun _ e => nomatch e
    have bF : b ≠ TF := tab_ne tabF hb fun _ e => nomatch e
    generalize (upd H l0 (.lst [V.int 2, V.int 3])) = H1 at s1 hb1 ⊢
    have k2 : ∀ x o, x ≠ b → H x = some o → (upd H1 b (.lst (bx p1 q n1))) x = some o := fun x o nx e => by
      rw [upd_ne nx]
      exact s1 _ _ e
    have hb2 : (upd H1 b (.lst (bx p1 q n1))) b = some (.lst (bx p1 q n1)) := upd_same
    generalize (upd H1 b (.lst (bx p1 q n1))) = H2 at k2 hb2 ⊢
    refine val_c _ (val_c _ (val_c _ ⟨by show 3 ≤ sizeLine; decide, fun l1 nl1 => ⟨by show 2 ≤ sizeLine; decide, fun t0 nt0 => ?_⟩⟩))
    have s3 := (same_upd (o := .lst [V.str "a", .str "b", .str "c"]) nl1).trans (same_upd (o := .tup [V.int (m : Nat), .ref l1]) nt0)
    have hl1 : (upd (upd H2 l1 (.lst [V.str "a", .str "b", .str "c"])) t0 (.tup [V.int (m : Nat), .ref l1])) l1 = some (.lst [V.str "a", .str "b", .str "c"]) := same_upd nt0 _ _ upd_same
    have ht0 : (upd (upd H2 l1 (.lst [V.str "a", .str "b", .str "c"])) t0 (.tup [V.int (m : Nat), .ref l1])) t0 = some (.tup [V.int (m : Nat), .ref l1]) := upd_same
    generalize (upd (upd H2 l1 (.lst [V.str "a", .str "b", .str "c"])) t0 (.tup [V.int (m : Nat), .ref l1])) = H3 at s3 hl1 ht0 ⊢
    refine ⟨t0, _, rfl, SqT.of ht0, rfl, _, _, rfl, _, _, rfl, rfl, ?_⟩
    have hb3 := s3 _ _ hb2
    have k3 : ∀ x o, x ≠ b → H x = some o → H3 x = some o := fun x o nx e => s3 _ _ (k2 x o nx e)
    clear s3 k2 s1 hb1 hb2 nl0 nl1 nt0 ht0
    dsimp only [gName, L2.start, List.set]
    dsimp only [tSeq, tAsg]
    refine op_run (lc_cells (names := ["a", "b", "c"]) (t3 := none) (t4 := none) (t5 := none) (t6 := none) (t7 := none) (t8 := none) (t9 := none) hl1 hb3 B1 m2 m4 (by show n1 + 3 < 1000000; omega) (by decide +kernel) (by decide) fun D4 H4 us p2 n2 lu um sb4 hb4 B2 le2 hD4 => ?_)
    obtain ⟨u, v, w', rfl⟩ : ∃ u v w' : Nat, us = [u, v, w'] := by
      match us, lu with
      | [u, v, w'], _ => exact ⟨u, v, w', rfl⟩
    have le2 : n2 ≤ n1 + 3 := le2
    have hu' : u < m := um u (by simp)
    have hv' : v < m := um v (by simp)
    have hw' : w' < m := um w' (by simp)
    dsimp only [tLst, tCons, tNil]
    refine val_c _ ⟨by show 1 ≤ sizeLine; decide, fun l5 nl5 => ?_⟩
    have s5 := same_upd (o := .lst [V.str "door go"]) nl5
    refine ⟨D4, l5, _, _, rfl, rfl, s5 _ _ hD4, upd_same, by show 4 ≤ sizeLine; decide, fun l6 nl6 => ?_⟩
    have s6 := same_upd (o := .lst (([cellRow "a" (u : Nat), cellRow "b" (v : Nat), cellRow "c" (w' : Nat)] ++ (["door go"] : List Str)).map V.str)) nl6
    have hl6 : (upd (upd H4 l5 (.lst [V.str "door go"])) l6 (.lst (([cellRow "a" (u : Nat), cellRow "b" (v : Nat), cellRow "c" (w' : Nat)] ++ (["door go"] : List Str)).map V.str))) l6 = some (.lst (([cellRow "a" (u : Nat), cellRow "b" (v : Nat), cellRow "c" (w' : Nat)] ++ (["door go"] : List Str)).map V.str)) := upd_same
    change gName 3 (.ref l6) _ (upd (upd H4 l5 (.lst [V.str "door go"])) l6 (.lst (([cellRow "a" (u : Nat), cellRow "b" (v : Nat), cellRow "c" (w' : Nat)] ++ (["door go"] : List Str)).map V.str))) _
    have s46 := s5.trans s6
    generalize (upd (upd H4 l5 (.lst [V.str "door go"])) l6 (.lst (([cellRow "a" (u : Nat), cellRow "b" (v : Nat), cellRow "c" (w' : Nat)] ++ (["door go"] : List Str)).map V.str))) = H6 at s46 hl6 ⊢
    have sb6 : SameBut b H3 H6 := fun a1 o n1 e => s46 _ _ (sb4 _ _ n1 e)
    have hb6 := s46 _ _ hb4
    have nlb : l1 ≠ b := fun e => by
      rw [e, hb3] at hl1
      cases hl1
    have hl16 := sb6 _ _ nlb hl1
    clear s5 s6 s46 sb4 hD4
    dsimp only [gName, L2.start, List.set]
    dsimp only [tSeq, tAsg]
    refine op_run ((val_var rfl) _ ?_)
    refine lc_draws (t0 := some (.ref b)) (t1 := some (.int (m : Nat))) (t2 := some (.ref l1)) (t3 := some (.ref l6)) (t4 := none) (t5 := none) (t6 := none) (t7 := none) (t8 := none) (t9 := none) (names := ["a", "b", "c", "a", "b", "c", "a", "b"]) (by decide +kernel) (by decide) (fun R' h => ?_) fun D7 H7 s7 hD7 => ?_
    · refine op_run (op_run ((val_var rfl) _ (val_c _ ⟨l1, 2, _, rfl, rfl, hl16, by decide, by decide, by show 3 * 2 ≤ sizeLine; decide, fun r1 nr1 => ?_⟩)))
      have u1 := same_upd (o := .lst (List.replicate (2 : Int).toNat [V.str "a", V.str "b", V.str "c"]).flatten) nr1
      refine (val_var rfl) _ ?_
      refine ⟨2, rfl, l1, _, rfl, SqL.of (u1 _ _ hl16), fun r2 nr2 => ?_⟩
      exact ⟨r1, r2, _, _, rfl, rfl, same_upd nr2 _ _ upd_same, upd_same, by show 6 + 2 ≤ sizeLine; decide, fun r3 nr3 => h _ r3 ((u1.trans (same_upd nr2)).trans (same_upd nr3)) upd_same⟩
    · refine ⟨l6, D7, _, _, rfl, rfl, s7 _ _ hl6, hD7, by show 4 + 8 ≤ sizeLine; decide, fun l8 nl8 => ?_⟩
      have s8 := s7.trans (same_upd (o := .lst ((manyRows (u : Nat) (v : Nat) (w' : Nat)).map V.str)) nl8)
      have hl8 : (upd H7 l8 (.lst ((manyRows (u : Nat) (v : Nat) (w' : Nat)).map V.str))) l8 = some (.lst ((manyRows (u : Nat) (v : Nat) (w' : Nat)).map V.str)) := upd_same
      change gName 3 (.ref l8) _ (upd H7 l8 (.lst ((manyRows (u : Nat) (v : Nat) (w' : Nat)).map V.str))) _
      generalize (upd H7 l8 (.lst ((manyRows (u : Nat) (v : Nat) (w' : Nat)).map V.str))) = H8 at s8 hl8 ⊢
      have sb8 : SameBut b H3 H8 := fun a1 o n1 e => s8 _ _ (sb6 _ _ n1 e)
      have hb8 := s8 _ _ hb6
      clear s7 hD7 nl8 hl16 hl6 hb6 sb6
      refine ⟨Nat.zero_le _, fun l9 nl9 => ?_⟩
      have hl9 : (upd H8 l9 (.lst [])) l9 = some (.lst (([] : List Addr).map V.ref)) := upd_same
      have s9 := same_upd (o := .lst []) nl9
      generalize (upd H8 l9 (.lst [])) = H9 at hl9 s9 ⊢
      refine ⟨.int (m : Nat), rfl, (m : Nat), rfl, by omega, by omega, ?_⟩
      show ∃ W : Nat → Nat → L2.St → Hp → Prop, _
      refine for_range (lo := 0) (n := ((m : Nat) : Int).toNat) (fun x σ H' => ∃ (ts : List Addr) (t5 t6 : Option V), σ = [some (.ref b), some (.int (m : Nat)), some (.ref l1), some (.ref l8), some (.ref l9), t5, t6, none, none, none] ∧ SameBut l9 H9 H' ∧ H' l9 = some (.lst (ts.map V.ref)) ∧ Trs H' (ts.map V.ref) ((dueMany m x).map itemD)) ?_ ?_ ?_
      · exact ⟨[], _, _, rfl, fun _ _ _ e => e, hl9, .nil⟩
      · rintro x σ HB hx ⟨ts, t5, t6, rfl, sbB, hlB, trB⟩
        have hx' : x < m := by omega
        refine ⟨.int (m : Nat), rfl, (m : Nat), rfl, by omega, by omega, ?_⟩
        show ∃ W : Nat → Nat → L2.St → Hp → Prop, _
        refine for_range (lo := 0) (n := ((m : Nat) : Int).toNat) (fun y σ H' => ∃ (ts : List Addr) (t6 : Option V), σ = [some (.ref b), some (.int (m : Nat)), some (.ref l1), some (.ref l8), some (.ref l9), some (.int (0 + (x : Nat))), t6, none, none, none] ∧ SameBut l9 H9 H' ∧ H' l9 = some (.lst (ts.map V.ref)) ∧ Trs H' (ts.map V.ref) ((dueMany m x ++ manyY x m y).map itemD)) ?_ ?_ ?_
        · refine ⟨ts, _, rfl, sbB, hlB, ?_⟩
          simpa [manyY] using trB
        · rintro y σ HC hy ⟨ts, t6, rfl, sbC, hlC, trC⟩
          have hy' : y < m := by omega
          refine bm_run (x := .ref l9) (val_var rfl) (.inl ⟨rfl, _, SqL.of hlC⟩) ?_
          refine lc_manyZ (K := K) (x := x) (y := y) m4 fun D HD us sD nD hD trD => ?_
          have nDl : l9 ≠ D := ne_of_none hlC nD
          have hlD := sD _ _ hlC
          have trC' := trC.mono sD
          have nT : ∀ zs, HD l9 ≠ some (.tup zs) := fun zs e => by
            rw [hlD] at e
            cases e
          refine ⟨l9, D, _, _, rfl, rfl, hlD, hD, ?_, ts ++ us, _, rfl, fun a1 o n1 e => ?_, ?_, ?_⟩
          · have z := trC.len
            have z2 := trD.len
            have z3 : x * (m * m) ≤ 4 * (4 * 4) := Nat.mul_le_mul (by omega) (Nat.mul_le_mul m4 m4)
            have z4 : y * m ≤ 4 * 4 := Nat.mul_le_mul (by omega) m4
            rw [List.length_map (f := itemD), List.length_append, dueMany_len, manyY_len] at z
            rw [List.length_map (f := itemD), manyZ_len] at z2
            rw [z, z2]
            exact Nat.le_trans (show _ ≤ 200 by omega) (by decide)
          · rw [upd_ne n1]
            exact sD _ _ (sbC _ _ n1 e)
          · rw [upd_same, List.map_append]
          · have e3 : manyY x m (y + 1) = manyY x m y ++ manyZ x y m := by
              unfold manyY
              rw [List.range_succ, List.flatMap_append]
              simp
            rw [e3, ← List.append_assoc, List.map_append, List.map_append]
            exact trs_app2 (trD.but nT) (trC'.but nT)
        · rintro σ HC ⟨ts, t6, rfl, sbC, hlC, trC⟩
          refine ⟨ts, _, _, rfl, sbC, hlC, ?_⟩
          have e : dueMany m (x + 1) = dueMany m x ++ manyY x m m := by
            unfold dueMany
            rw [List.range_succ, List.flatMap_append]
            simp
          rw [e]
          exact trC
      · rintro σ HB ⟨ts, t5, t6, rfl, sbB, hlB, trB⟩
        have k8 : ∀ x o, H8 x = some o → HB x = some o := fun x o e => sbB _ _ (ne_of_none e nl9) (s9 _ _ e)
        have hbB := k8 _ _ hb8
        have hl8B := k8 _ _ hl8
        have kB : ∀ x o, x ≠ b → H x = some o → HB x = some o := fun x o n1 e => k8 _ _ (sb8 _ _ n1 (k3 _ _ n1 e))
        have tabBB : GxR.TabG HB TB := by
          obtain ⟨ps, h1, h2⟩ := tabB
          exact ⟨ps, kB _ _ bB.symm h1, h2⟩
        obtain ⟨pg1, pg2, pg3⟩ := pageB_use (many_page hm hu' hv' hw')
        dsimp only [tSeq, tAsg]
        refine mk_page m2 m4 (many_part hm hu' hv' hw') (by unfold manyRows; simp) pg1 pg2 pg3 tabBB (val_var rfl) (fun RR h => ?_) fun HM pa da ktM tabBM ptM => ?_
        · refine join_read (te := tVar 3) (rows := manyRows (u : Nat) (v : Nat) (w' : Nat)) (val_var rfl) hl8B ?_ (h _ fun _ _ e => e)
          have h1 : ∀ u v w : Fin 4, ((manyRows (u.val : Nat) (v.val : Nat) (w.val : Nat)).map (·.length)).sum + (manyRows (u.val : Nat) (v.val : Nat) (w.val : Nat)).length ≤ 1000 := by decide +kernel
          exact Nat.le_trans (h1 ⟨u, by omega⟩ ⟨v, by omega⟩ ⟨w', by omega⟩) (by decide)
        · have PR : PrAt Pt da HM pa m _ (manyD (u : Nat) (v : Nat) (w' : Nat)) manyPr := ⟨ptM, rfl, m2, m4⟩
          have hbM := ktM _ _ bB hbB
          have tabFM : GxR.TabG HM TF := by
            obtain ⟨ps, h1, h2⟩ := tabF
            exact ⟨ps, ktM _ _ nBF.symm (kB _ _ bF.symm h1), h2⟩
          dsimp only [gName, List.set]
          dsimp only [tRet, tOp, tCB, tCall, tCons, tNil]
          refine (val_var rfl) _ ((val_var rfl) _ ⟨pa, da, m, _, _, manyPr, rfl, PR, by show 3 ≤ 3; decide, tabFM, fun HF q1 kF tabFF trF => val_c _ ?_⟩)
          have hbF := kF _ _ bF hbM
          refine (val_var rfl) _ ((val_var rfl) _ ⟨b, (m : Nat), p2, q, n2, rfl, hbF, B2, by omega, by omega, by omega, fun d p3 n3 d0 d1 B3 le3 => ?_⟩)
          have nT : ∀ zs, HF b ≠ some (.tup zs) := fun zs e => by
            rw [hbF] at e
            cases e
          have kFG : SameBut b HF (upd HF b (.lst (bx p3 q n3))) := SameBut.upd b HF _
          have kpF := Kp.keepT tabFM kF
          have prG := (PR.kp kpF).kp (Kp.but kFG hbF)
          have trG0 := trF.but (o := .lst (bx p3 q n3)) nT
          have hbG : (upd HF b (.lst (bx p3 q n3))) b = some (.lst (bx p3 q n3)) := upd_same
          have n9b : l9 ≠ b := fun e => by
            rw [e, hb8] at nl9
            cases nl9
          have n9B : l9 ≠ TB := tab_ne tabBB hlB fun _ e => nomatch e
          have n9F : l9 ≠ TF := tab_ne tabFM (ktM _ _ n9B hlB) fun _ e => nomatch e
          have hlG : (upd HF b (.lst (bx p3 q n3))) l9 = some (.lst (ts.map V.ref)) := kFG _ _ n9b (kF _ _ n9F (ktM _ _ n9B hlB))
          have trL : Trs (upd HF b (.lst (bx p3 q n3))) (ts.map V.ref) ((dueMany m m).map itemD) := ((trB.keep (Kp.keepT tabBB ktM).tup).keep kpF.tup).keep (Kp.but kFG hbF).tup
          have kAll : ∀ x o, x ≠ TB → x ≠ TF → x ≠ b → H x = some o → (upd HF b (.lst (bx p3 q n3))) x = some o := fun x o n1 n2 n3 e => kFG _ _ n3 (kF _ _ n2 (ktM _ _ n1 (kB _ _ n3 e)))
          have tFG : GxR.TabG (upd HF b (.lst (bx p3 q n3))) TF := by
            obtain ⟨ps, h1, h2⟩ := tabFF
            exact ⟨ps, kFG _ _ bF.symm h1, h2⟩
          have tBG : GxR.TabG (upd HF b (.lst (bx p3 q n3))) TB := by
            obtain ⟨ps, h1, h2⟩ := tabBM
            exact ⟨ps, kFG _ _ bB.symm (kF _ _ nBF h1), h2⟩
          generalize (upd HF b (.lst (bx p3 q n3))) = HG at kFG prG trG0 hbG hlG trL kAll tFG tBG ⊢
          obtain ⟨R1, dR, ndR, memR, alR⟩ := many_run hm d (u : Nat) (v : Nat) (w' : Nat)
          refine ⟨pa, q1, da, m, _, _, manyPr, ([(u : Int), (v : Int), (w' : Int)], none), "go", d, ((0 : Nat) : Int), rfl, prG, trG0, ⟨rfl, by show 3 ≤ 3; decide, ?_, fun n v e => nomatch e⟩, (by decide +kernel : stAt [("go", (0 : Int))] "go" = some ((0 : Nat) : Int)), d0, d1, fun h => absurd rfl h, fun _ => ⟨R1, dR, fun HI q3 sI trI => ?_⟩⟩
          · intro z hz
            simp only [List.mem_cons, List.not_mem_nil, or_false] at hz
            rcases hz with rfl | rfl | rfl <;> omega
          have few1 : R1.length ≤ 1000 := by
            have z := nodup_len ndR fun z hz => (memR z).mp hz
            have := many_len hm
            omega
          refine ⟨q3, _, rfl, trI, sh_items (fun z hz => many_ok m4 z ((memR z).mp hz)) few1, ?_⟩
          dsimp only [tThen]
          refine (val_var rfl) _ ⟨l9, ts, dueMany m m, rfl, SqL.of (sI _ _ hlG), trL.mono sI, ?_, all_alike (.inl many_gv), fun b => ⟨_, _, rfl⟩, fun k _ => dp_item k, fun ts' r1 tr' nr1 => ?_⟩
          · have := many_len hm
            omega
          refine .inl ⟨r1, _, rfl, SqL.of upd_same, fun r2 nr2 => ?_⟩
          have e1 := same_upd (o := .lst (ts'.map V.ref)) nr1
          have e2 := same_upd (o := .tup (ts'.map V.ref)) nr2
          refine ⟨r2, _, rfl, .tup upd_same ((tr'.mono e1).mono e2), sh_items (R := dueMany m m) (many_ok m4) ?_, rfl, ?_⟩
          · have := many_len hm
            omega
          rw [sortB_one itemD_inj key_item (nodup_perm ndR (many_nodup hm) memR) (all_alike alR), decide_eq_true rfl]
          have sT := (sI.trans e1).trans e2
          exact k _ p3 n3 (fun x o n1 n2 n3 e => sT _ _ (kAll x o n1 n2 n3 e)) (TabG.keep tBG sT) (TabG.keep tFG sT) (sT _ _ hbG) B3 (by omega)
end
end K5
namespace K5
open PySem PySem.Spec PyProof.Rows L2
/-! ### a loop of asks, purely -/
def loopPr : List Stp := [.unl (.cmp false .got .it) 4, .ask "q" "find" (.cell 0) 4, .draw 0, .jump 0, .answer (.cell 0), .answer (.worth 0)]
def loopRows (v : Int) : List Str := ["cell n " ++ (toString v : Str), "port q", "door seek", "  while got != it", "    ask q find n", "    draw n"] ++ (["  answer n"] : List Str)
def loopD (v : Int) : PD := ⟨[("n", v)], ["q"], [("seek", 0)], loopPr.map Stp.d, [(4, .tuple [.int 2, .str "q", .str "find"])]⟩
theorem loop_part {m v : Nat} (hm : m = 2 ∨ m = 3 ∨ m = 4) (hv : v = 0 ∨ v = 1) : partR (m : Nat) (loopRows (v : Nat)) = .ok (loopD (v : Nat)) := by
  rcases hm with rfl | rfl | rfl <;> rcases hv with rfl | rfl <;> kernel_rfl
theorem loop_page {v : Nat} (hv : v = 0 ∨ v = 1) : pageB (loopRows (v : Nat)) = true := by
  rcases hv with rfl | rfl <;> kernel_rfl
/-- what is due when it comes back -/
def dueLoop (m sent : Nat) (back : Int) (k : Nat) : List Item := (List.range k).map fun x => if (if (0 : Int) > back then 0 else back) = (sent : Nat) then (.gives (x : Nat), [((x : Nat) : Int)], none) else (.asks "q" "find" (x : Nat), [((x : Nat) : Int)], some (4, ((sent : Nat) : Int)))
theorem loop_all : ([2, 3, 4].all fun m => (List.range m).all fun sent => ([-2, -1, 0, 1, 2, 3] : List Int).all fun back => (List.range m).all fun a => okDfs loopPr m (sent : Nat) back 2 [((a : Nat) : Int)] 100 (dueLoop m sent back m)) = true := by decide +kernel
def dueSeek (sent first : Nat) : List Item := if sent = 0 then [(.gives (first : Nat), [((first : Nat) : Int)], none)] else [(.asks "q" "find" (first : Nat), [((first : Nat) : Int)], some (4, ((sent : Nat) : Int)))]
theorem seek_all : ([2, 3, 4].all fun m => (List.range m).all fun sent => (List.range 2).all fun a => okDfs loopPr m (sent : Nat) 0 0 [((a : Nat) : Int)] 100 (dueSeek sent a)) = true := by decide +kernel
theorem three {m : Nat} (m2 : 2 ≤ m) (m4 : m ≤ 4) : m ∈ [2, 3, 4] := by
  have : m = 2 ∨ m = 3 ∨ m = 4 := by omega
  rcases this with rfl | rfl | rfl <;> simp
theorem backs {m : Nat} {back : Int} (m4 : m ≤ 4) (b0 : -2 ≤ back) (b1 : back < (m : Int)) : back ∈ ([-2, -1, 0, 1, 2, 3] : List Int) := by
  have : back = -2 ∨ back = -1 ∨ back = 0 ∨ back = 1 ∨ back = 2 ∨ back = 3 := by omega
  rcases this with rfl | rfl | rfl | rfl | rfl | rfl <;> simp
theorem loop_run {m sent a : Nat} {back : Int} (m2 : 2 ≤ m) (m4 : m ≤ 4) (hs : sent < m) (ha : a < m) (b0 : -2 ≤ back) (b1 : back < (m : Int)) : ∃ R, Dfs loopPr m (sent : Nat) back ((2 : Nat) : Int) [((a : Nat) : Int)] R ∧ R.Nodup ∧ (∀ r, r ∈ R ↔ r ∈ dueLoop m sent back m) ∧ (R.all isGv = true ∨ R.all isAs = true) := by
  have h1 := List.all_eq_true.mp (List.all_eq_true.mp (List.all_eq_true.mp (List.all_eq_true.mp loop_all m (three m2 m4)) sent (range_in hs)) back (backs m4 b0 b1)) a (range_in ha)
  exact okDfs_use h1 (by decide)
theorem seek_run {m sent a : Nat} (m2 : 2 ≤ m) (m4 : m ≤ 4) (hs : sent < m) (ha : a < 2) : ∃ R, Dfs loopPr m (sent : Nat) 0 ((0 : Nat) : Int) [((a : Nat) : Int)] R ∧ R.Nodup ∧ (∀ r, r ∈ R ↔ r ∈ dueSeek sent a) ∧ (R.all isGv = true ∨ R.all isAs = true) := by
  have h1 := List.all_eq_true.mp (List.all_eq_true.mp (List.all_eq_true.mp seek_all m (three m2 m4)) sent (range_in hs)) a (range_in ha)
  exact okDfs_use h1 (by decide)
theorem ok_gv1 {x : Nat} (hx : x < 4) : ItOk (.gives (x : Nat), [((x : Nat) : Int)], none) := by
  refine ⟨fun v e => ?_, (fun p d v e => by cases e), fun z hz => ?_, by simp, (fun n v e => by cases e)⟩
  · injection e with e
    omega
  · rw [List.mem_singleton.mp hz]
    omega
theorem ok_as1 {x s : Nat} (hx : x < 4) (hs : s < 4) : ItOk (.asks "q" "find" (x : Nat), [((x : Nat) : Int)], some (4, ((s : Nat) : Int))) := by
  refine ⟨(fun v e => by cases e), fun p d v e => ?_, fun z hz => ?_, by simp, fun n v e => ?_⟩
  · injection e with e1 e2 e3
    subst e1
    subst e2
    exact ⟨by decide +kernel, by decide +kernel, by decide +kernel, by decide +kernel, by omega, by omega⟩
  · rw [List.mem_singleton.mp hz]
    omega
  · injection e with e
    injection e with e1 e2
    omega
theorem loop_ok {m sent k : Nat} {back : Int} (m4 : m ≤ 4) (hs : sent < m) (hk : k ≤ m) : ∀ r ∈ dueLoop m sent back k, ItOk r := by
  intro r hr
  obtain ⟨x, hx, rfl⟩ := List.mem_map.mp hr
  have hx := List.mem_range.mp hx
  by_cases c : (if (0 : Int) > back then 0 else back) = (sent : Nat)
  · rw [if_pos c]
    exact ok_gv1 (x := x) (by omega)
  · rw [if_neg c]
    exact ok_as1 (x := x) (s := sent) (by omega) (by omega)
theorem loop_alike {m sent k : Nat} {back : Int} : (dueLoop m sent back k).all isGv = true ∨ (dueLoop m sent back k).all isAs = true := by
  by_cases c : (if (0 : Int) > back then 0 else back) = (sent : Nat)
  · left
    rw [List.all_eq_true]
    intro r hr
    obtain ⟨x, hx, rfl⟩ := List.mem_map.mp hr
    rw [if_pos c]
    rfl
  · right
    rw [List.all_eq_true]
    intro r hr
    obtain ⟨x, hx, rfl⟩ := List.mem_map.mp hr
    rw [if_neg c]
    rfl
theorem loop_len (m sent k : Nat) (back : Int) : (dueLoop m sent back k).length = k := by simp [dueLoop]
theorem seek_ok {sent a : Nat} (hs : sent < 4) (ha : a < 2) : ∀ r ∈ dueSeek sent a, ItOk r := by
  intro r hr
  unfold dueSeek at hr
  split at hr
  · rw [List.mem_singleton.mp hr]
    exact ok_gv1 (by omega)
  · rw [List.mem_singleton.mp hr]
    exact ok_as1 (by omega) hs
end K5
namespace K5
open PySem PySem.Spec PyProof.Rows L2
/-! ### an item made in place -/
theorem tr_item_as {H : Hp} {q1 q2 q3 q4 q5 : Addr} {p d : Str} {v s : Int} {n : Nat} {cs : List Int} (h1 : H q1 = some (.tup [.str "asks", .str p, .str d, .int v])) (h2 : H q2 = some (.tup (cs.map V.int))) (h3 : H q3 = some (.tup [.int (n : Nat), .int s])) (h4 : H q4 = some (.tup [.ref q2, .ref q3])) (h5 : H q5 = some (.tup [.ref q1, .ref q4])) : Tr H (.ref q5) (itemD (.asks p d v, cs, some (n, s))) :=
  tr2 h5 (.tup h1 (.cons (.str _) (.cons (.str _) (.cons (.str _) (.cons (.int _) .nil))))) (tr2 h4 (.tup h2 (trs_ints cs)) (tr2 h3 (.int _) (.int _)))
def teGv (ta : TE) : TE := tTup (tCons (tTup (tCons (tC (.str "gives")) (tCons ta tNil))) (tCons (tTup (tCons (tTup (tCons ta tNil)) (tCons (tTup tNil) tNil))) tNil))
def teAs (ta ts : TE) : TE := tTup (tCons (tTup (tCons (tC (.str "asks")) (tCons (tC (.str "q")) (tCons (tC (.str "find")) (tCons ta tNil))))) (tCons (tTup (tCons (tTup (tCons ta tNil)) (tCons (tTup (tCons (tC (.int 4)) (tCons ts tNil))) tNil))) tNil))
theorem run_gv {σ : L2.St} {H : Hp} {Q : VK} {ta : TE} {v : Int} (ha : ∀ H', Val ta σ H' (.int v)) (k : ∀ (HE : Hp) (q5 : Addr), Same H HE → Tr HE (.ref q5) (itemD (.gives v, [v], none)) → Q (.ref q5) HE) : teGv ta σ H Q := by
  unfold teGv
  dsimp only [tTup, tCons, tNil]
  refine val_c _ ((ha _) _ ⟨by show 2 ≤ sizeLine; decide, fun q1 n1 => ?_⟩)
  refine (ha _) _ ⟨by show 1 ≤ sizeLine; decide, fun q2 n2 => ⟨Nat.zero_le _, fun q3 n3 => ⟨by show 2 ≤ sizeLine; decide, fun q4 n4 => ⟨by show 2 ≤ sizeLine; decide, fun q5 n5 => ?_⟩⟩⟩⟩
  have s1 := same_upd (o := .tup [.str "gives", .int v]) n1
  have s2 := same_upd (o := .tup [.int v]) n2
  have s3 := same_upd (o := .tup []) n3
  have s4 := same_upd (o := .tup [.ref q2, .ref q3]) n4
  have s5 := same_upd (o := .tup [.ref q1, .ref q4]) n5
  exact k _ q5 ((((s1.trans s2).trans s3).trans s4).trans s5) (tr_item_gv (cs := [v]) (s5 _ _ (s4 _ _ (s3 _ _ (s2 _ _ upd_same)))) (s5 _ _ (s4 _ _ (s3 _ _ upd_same))) (s5 _ _ (s4 _ _ upd_same)) (s5 _ _ upd_same) upd_same)
theorem run_as {σ : L2.St} {H : Hp} {Q : VK} {ta ts : TE} {v s : Int} (ha : ∀ H', Val ta σ H' (.int v)) (hs : ∀ H', Val ts σ H' (.int s)) (k : ∀ (HE : Hp) (q5 : Addr), Same H HE → Tr HE (.ref q5) (itemD (.asks "q" "find" v, [v], some (4, s))) → Q (.ref q5) HE) : teAs ta ts σ H Q := by
  unfold teAs
  dsimp only [tTup, tCons, tNil]
  refine val_c _ (val_c _ (val_c _ ((ha _) _ ⟨by show 4 ≤ sizeLine; decide, fun q1 n1 => ?_⟩)))
  refine (ha _) _ ⟨by show 1 ≤ sizeLine; decide, fun q2 n2 => val_c _ ((hs _) _ ⟨by show 2 ≤ sizeLine; decide, fun q3 n3 => ⟨by show 2 ≤ sizeLine; decide, fun q4 n4 => ⟨by show 2 ≤ sizeLine; decide, fun q5 n5 => ?_⟩⟩⟩)⟩
  have s1 := same_upd (o := .tup [.str "asks", .str "q", .str "find", .int v]) n1
  have s2 := same_upd (o := .tup [.int v]) n2
  have s3 := same_upd (o := .tup [.int 4, .int s]) n3
  have s4 := same_upd (o := .tup [.ref q2, .ref q3]) n4
  have s5 := same_upd (o := .tup [.ref q1, .ref q4]) n5
  exact k _ q5 ((((s1.trans s2).trans s3).trans s4).trans s5) (tr_item_as (n := 4) (cs := [v]) (s5 _ _ (s4 _ _ (s3 _ _ (s2 _ _ upd_same)))) (s5 _ _ (s4 _ _ (s3 _ _ upd_same))) (s5 _ _ (s4 _ _ upd_same)) (s5 _ _ upd_same) upd_same)
/-- an item laid behind a list -/
theorem app_item {K : PySem.W.Frag} {σ : L2.St} {H : Hp} {Q : VK} {l : Addr} {ts : List Addr} {ds : List PyData} {to te : TE} {d : PyData} (ho : Val to σ H (.ref l)) (hl : H l = some (.lst (ts.map V.ref))) (tr : Trs H (ts.map V.ref) ds) (few : ds.length ≤ 900) (he : ∀ R : VK, (∀ (HE : Hp) (q5 : Addr), Same H HE → Tr HE (.ref q5) d → R (.ref q5) HE) → te σ H R)
    (k : ∀ (HE : Hp) (ts : List Addr), SameBut l H HE → HE l = some (.lst (ts.map V.ref)) → Trs HE (ts.map V.ref) (ds ++ [d]) → Q .non HE) : tBM K "list" rAppend to (tCons te tNil) σ H Q := by
  refine bm_run (x := .ref l) ho (.inl ⟨rfl, _, SqL.of hl⟩) ?_
  refine he _ fun HE q5 sAll hT => ?_
  have hlE := sAll _ _ hl
  have trE := tr.mono sAll
  have nT : ∀ zs, HE l ≠ some (.tup zs) := fun zs e => by
    rw [hlE] at e
    cases e
  refine ⟨l, _, .ref q5, rfl, rfl, hlE, ?_, k _ (ts ++ [q5]) ?_ ?_ ?_⟩
  · have z := trE.len
    exact small1000 (by omega)
  · intro a1 o n h
    rw [upd_ne n]
    exact sAll _ _ h
  · rw [upd_same, List.map_append]
    rfl
  · rw [List.map_append]
    exact trs_app (hT.but nT) (trE.but nT)
end K5
namespace K5
open PySem PySem.Spec PyProof.Rows L2
/-! ### what is lost, busy, or a worth, purely -/
def lostPr : List Stp := [.add 0 .it, .ask "r" "put" (.cell 0) 5, .unl .lost 8, .unl .busy 6, .answer (.worth 0), .jump 7, .answer (.worth 1), .jump 12, .unl .busy 11, .set 0 .it, .fail, .add 0 .got, .answer (.cell 0), .answer (.worth 0), .unl .lost 16, .fail, .answer (.cell 0), .answer (.worth 0)]
def lostA : List Str := ["cell n 0", "port q", "port r", "door pay", "  add n it", "  ask r put n", "  if lost", "    if busy"]
def lostB : List Str := ["      answer 0", "    else", "      answer 1", "  else", "    if busy", "      set n it"]
def lostC : List Str := ["      fail", "    add n got", "  answer n", "door look", "  if lost", "    fail", "  answer n"]
def lostRows : List Str := lostA ++ lostB ++ lostC
def lostD : PD := ⟨[("n", 0)], ["q", "r"], [("pay", 0), ("look", 14)], lostPr.map Stp.d, [(5, .tuple [.int 2, .str "r", .str "put"])]⟩
theorem lost_part2 : partR 2 lostRows = .ok lostD := by kernel_rfl
theorem lost_part3 : partR 3 lostRows = .ok lostD := by kernel_rfl
theorem lost_part4 : partR 4 lostRows = .ok lostD := by kernel_rfl
theorem lost_part {m : Nat} (m2 : 2 ≤ m) (m4 : m ≤ 4) : partR (m : Nat) lostRows = .ok lostD := by
  have : m = 2 ∨ m = 3 ∨ m = 4 := by omega
  rcases this with rfl | rfl | rfl
  · exact lost_part2
  · exact lost_part3
  · exact lost_part4
theorem lost_page : pageB lostRows = true := by kernel_rfl
def gv1 (v x : Int) : Item := (.gives v, [x], none)
def duePay (new sent : Nat) : Item := (.asks "r" "put" (new : Nat), [((new : Nat) : Int)], some (5, ((sent : Nat) : Int)))
/-- what is due when it comes back -/
def dueBack (m new sent : Nat) (back : Int) : Item := if back = -1 then gv1 1 (new : Nat) else if back = -2 then gv1 (-1) (sent : Nat) else gv1 (((new : Nat) + back) % (m : Int)) (((new : Nat) + back) % (m : Int))
theorem pay_all : ([2, 3, 4].all fun m => (List.range m).all fun sent => (List.range m).all fun now => okDfs lostPr m (sent : Nat) 0 0 [((now : Nat) : Int)] 100 [duePay ((now + sent) % m) sent]) = true := by decide +kernel
theorem look_all : ([2, 3, 4].all fun m => (List.range m).all fun sent => (List.range m).all fun new => okDfs lostPr m (sent : Nat) 0 14 [((new : Nat) : Int)] 100 [gv1 (new : Nat) (new : Nat)]) = true := by decide +kernel
theorem back_all : ([2, 3, 4].all fun m => (List.range m).all fun sent => ([-2, -1, 0, 1, 2, 3] : List Int).all fun back => (List.range m).all fun new => okDfs lostPr m (sent : Nat) back 2 [((new : Nat) : Int)] 100 [dueBack m new sent back]) = true := by decide +kernel
theorem pay_run {m sent now : Nat} (m2 : 2 ≤ m) (m4 : m ≤ 4) (hs : sent < m) (hn : now < m) : ∃ R, Dfs lostPr m (sent : Nat) 0 ((0 : Nat) : Int) [((now : Nat) : Int)] R ∧ R.Nodup ∧ (∀ r, r ∈ R ↔ r ∈ [duePay ((now + sent) % m) sent]) ∧ (R.all isGv = true ∨ R.all isAs = true) := by
  have h1 := List.all_eq_true.mp (List.all_eq_true.mp (List.all_eq_true.mp pay_all m (three m2 m4)) sent (range_in hs)) now (range_in hn)
  exact okDfs_use h1 (by decide)
theorem look_run {m sent new : Nat} (m2 : 2 ≤ m) (m4 : m ≤ 4) (hs : sent < m) (hn : new < m) : ∃ R, Dfs lostPr m (sent : Nat) 0 ((14 : Nat) : Int) [((new : Nat) : Int)] R ∧ R.Nodup ∧ (∀ r, r ∈ R ↔ r ∈ [gv1 (new : Nat) (new : Nat)]) ∧ (R.all isGv = true ∨ R.all isAs = true) := by
  have h1 := List.all_eq_true.mp (List.all_eq_true.mp (List.all_eq_true.mp look_all m (three m2 m4)) sent (range_in hs)) new (range_in hn)
  exact okDfs_use h1 (by decide)
theorem back_run {m sent new : Nat} {back : Int} (m2 : 2 ≤ m) (m4 : m ≤ 4) (hs : sent < m) (hn : new < m) (b0 : -2 ≤ back) (b1 : back < (m : Int)) : ∃ R, Dfs lostPr m (sent : Nat) back ((2 : Nat) : Int) [((new : Nat) : Int)] R ∧ R.Nodup ∧ (∀ r, r ∈ R ↔ r ∈ [dueBack m new sent back]) ∧ (R.all isGv = true ∨ R.all isAs = true) := by
  have h1 := List.all_eq_true.mp (List.all_eq_true.mp (List.all_eq_true.mp (List.all_eq_true.mp back_all m (three m2 m4)) sent (range_in hs)) back (backs m4 b0 b1)) new (range_in hn)
  exact okDfs_use h1 (by decide)
/-- one item alone -/
theorem one_item {R : List Item} {d : Item} (nd : R.Nodup) (mem : ∀ r, r ∈ R ↔ r ∈ [d]) : itemsD R = .tuple [itemD d] := by
  have h := nodup_perm nd (m := [d]) (by simp) mem
  rw [List.perm_singleton.mp h]
  show PyData.tuple ((List.mergeSort [d] _).map itemD) = _
  rw [List.mergeSort_singleton]
  rfl
end K5
namespace K5
open PySem PySem.Spec PyProof.Rows L2
/-! ### repr of a list of such data -/
def rReprTL : List V → Hp → VK → Prop := fun xs H Q => ∃ (a : Addr) (vs : List V) (ds : List PyData), xs = [.ref a] ∧ H a = some (.lst vs) ∧ Trs H vs ds ∧ ShOk (.list ds) ∧ (PyData.list ds).hasDict = false ∧ Q (.str (PyData.list ds).shown) H
theorem call_reprTL {X : Cx} (gu : X.A.guards = some []) (hu : X.A.units + 64 < cLine) : CallR X (.builtin "repr") rReprTL := by
  intro pins s σ H xs us Q I r h
  obtain ⟨a, vs, ds, rfl, ha, hd, sh, nd, q⟩ := h
  obtain ⟨u, rfl, ru⟩ := r.one
  cases ru
  obtain ⟨its, r1, pl, _⟩ := I.list (SqL.of ha)
  obtain ⟨ob, g1, k1, n1, w1⟩ := pl.isList
  have rd : Reads s.heap (.ref a) (.list ds) ([a] ++ []) := .list g1 k1 w1 (by simpa using Trs.readsIn I (fun b o e => e) hd r1)
  exact repr_of_reads' rd sh.s (fun e => by rw [nd] at e; cases e) gu (by have := sh.d; omega) (fun _ _ e => e) (fun h' u tk hk => ⟨.str _, H, I.kept hk, ⟨u, rfl⟩, q⟩) sh.z
end K5
namespace K5
open PySem PySem.Spec PyProof.Rows L2
def bks (m : Nat) : List Int := [-1, -2] ++ (List.range m).map fun z => ((z : Nat) : Int)
def dueT (m new sent k : Nat) : List Item := [gv1 1 (new : Nat), gv1 (-1) (sent : Nat)] ++ (List.range k).map fun z => gv1 (((new : Nat) + ((z : Nat) : Int)) % (m : Int)) (((new : Nat) + ((z : Nat) : Int)) % (m : Int))
def oneD (r : Item) : PyData := .tuple [itemD r]
theorem bks_len (m : Nat) : (bks m).length = m + 2 := by
  unfold bks
  rw [List.length_append, List.length_map, List.length_range]
  show 2 + m = m + 2
  omega
theorem dueT_len (m new sent k : Nat) : (dueT m new sent k).length = k + 2 := by
  unfold dueT
  rw [List.length_append, List.length_map, List.length_range]
  show 2 + k = k + 2
  omega
theorem dueT_succ (m new sent z : Nat) : (dueT m new sent (z + 1)).map itemD = (dueT m new sent z).map itemD ++ [itemD (gv1 ((((new : Nat) : Int) + ((z : Nat) : Int)) % ((m : Nat) : Int)) ((((new : Nat) : Int) + ((z : Nat) : Int)) % ((m : Nat) : Int)))] := by
  unfold dueT
  rw [List.range_succ, List.map_append (l₁ := List.range z), ← List.append_assoc, List.map_append]
  rfl
theorem bks_due (m new sent : Nat) : (bks m).map (fun back => oneD (dueBack m new sent back)) = (dueT m new sent m).map oneD := by
  unfold bks dueT
  rw [List.map_append, List.map_append, List.map_map, List.map_map]
  refine congr (congrArg _ rfl) (List.map_congr_left fun z _ => ?_)
  show oneD (dueBack m new sent (z : Nat)) = _
  unfold dueBack
  rw [if_neg (by omega), if_neg (by omega)]
  rfl
theorem bks_in {m : Nat} {back : Int} (h : back ∈ bks m) (m0 : 0 < m) : -2 ≤ back ∧ back < (m : Int) := by
  unfold bks at h
  rcases List.mem_append.mp h with h | h
  · simp only [List.mem_cons, List.not_mem_nil, or_false] at h
    rcases h with rfl | rfl <;> omega
  · obtain ⟨z, hz, rfl⟩ := List.mem_map.mp h
    have := List.mem_range.mp hz
    omega
theorem gv1_ok {v x : Int} (hv : -10 ≤ v ∧ v < 410) (hx : -10 ≤ x ∧ x < 410) : ItOk (gv1 v x) := by
  refine ⟨fun u e => ?_, (fun p d u e => by cases e), fun z hz => ?_, by show 1 ≤ 3; decide, (fun n u e => by cases e)⟩
  · injection e with e
    rw [← e]
    exact hv
  · rw [List.mem_singleton.mp hz]
    exact hx
theorem mod_small {a : Int} {m : Nat} (m0 : 0 < m) (m4 : m ≤ 4) : -10 ≤ a % (m : Int) ∧ a % (m : Int) < 410 := by
  have h1 := Int.emod_nonneg a (show (m : Int) ≠ 0 by omega)
  have h2 := Int.emod_lt_of_pos a (show (0 : Int) < m by omega)
  omega
theorem dueT_ok {m new sent : Nat} (m0 : 0 < m) (m4 : m ≤ 4) (hs : sent < m) (hn : new < m) : ∀ r ∈ dueT m new sent m, ItOk r := by
  intro r hr
  unfold dueT at hr
  rcases List.mem_append.mp hr with h | h
  · simp only [List.mem_cons, List.not_mem_nil, or_false] at h
    rcases h with rfl | rfl
    · exact gv1_ok (by omega) (by omega)
    · exact gv1_ok (by omega) (by omega)
  · obtain ⟨z, hz, rfl⟩ := List.mem_map.mp h
    exact gv1_ok (mod_small m0 m4) (mod_small m0 m4)
theorem back_ok {m new sent : Nat} {back : Int} (m0 : 0 < m) (m4 : m ≤ 4) (hs : sent < m) (hn : new < m) : ItOk (dueBack m new sent back) := by
  unfold dueBack
  split
  · exact gv1_ok (by omega) (by omega)
  · split
    · exact gv1_ok (by omega) (by omega)
    · exact gv1_ok (mod_small m0 m4) (mod_small m0 m4)
theorem pay_ok {m new sent : Nat} (m4 : m ≤ 4) (hs : sent < m) (hn : new < m) : ItOk (duePay new sent) := by
  refine ⟨(fun v e => by cases e), fun p d v e => ?_, fun z hz => ?_, by show 1 ≤ 3; decide, fun n v e => ?_⟩
  · injection e with e1 e2 e3
    subst e1
    subst e2
    exact ⟨by decide +kernel, by decide +kernel, by decide +kernel, by decide +kernel, by omega, by omega⟩
  · rw [List.mem_singleton.mp hz]
    omega
  · injection e with e
    injection e with e1 e2
    omega
theorem busy_ok {m new sent : Nat} (m4 : m ≤ 4) (hs : sent < m) (hn : new < m) : ItOk (.gives (-2), [((new : Nat) : Int)], some (5, ((sent : Nat) : Int))) := by
  refine ⟨fun v e => ?_, (fun p d v e => by cases e), fun z hz => ?_, by show 1 ≤ 3; decide, fun n v e => ?_⟩
  · injection e with e
    omega
  · rw [List.mem_singleton.mp hz]
    omega
  · injection e with e
    injection e with e1 e2
    omega
theorem one_sh {r : Item} (h : ItOk r) : ShOk (.tuple [itemD r]) := ((SmA.tup (SmA.cons (sm_item h) SmA.nil)).mono (w' := 300000) (p' := 5) (by decide) (by decide)).sh (by decide) (by decide)
theorem Sm.list {w p : Nat} {ds : List PyData} (h : SmA w p ds) : Sm w (p + 1) (.list ds) := ⟨h.s, h.l, h.w, Nat.succ_le_succ h.p, h.h⟩
theorem ones_sh {l : List Item} (h : ∀ r ∈ l, ItOk r) (few : l.length ≤ 10) : ShOk (.list (l.map oneD)) ∧ (PyData.list (l.map oneD)).hasDict = false := by
  have h1 := sm_map (f := oneD) (g := fun _ => 1) (c := 202) (p := 5) (l := l) fun r hr => ((SmA.tup (SmA.cons (sm_item (h r hr)) SmA.nil)).mono (by decide) (by decide) : Sm (202 * 1) 5 (oneD r))
  rw [sum_const] at h1
  have h2 := Sm.list h1
  exact ⟨(h2.mono (w' := 300000) (p' := 6) (by omega) (by decide)).sh (by decide) (by decide), h2.h⟩
theorem rgV_bks (m : Nat) : ([V.int (-1), .int (-2)] ++ rgV 0 (m : Nat) : List V) = (bks m).map V.int := by
  unfold bks rgV
  rw [List.map_append, List.map_map]
  congr 1
  rw [show ((m : Int) - 0).toNat = m by omega]
  refine List.map_congr_left fun z _ => ?_
  rw [Int.zero_add]
  rfl
/-- an item made in place -/
theorem run_gv2 {σ : L2.St} {H : Hp} {Q : VK} {tv ta : TE} {v x : Int} (hv : ∀ H', Val tv σ H' (.int v)) (ha : ∀ H', Val ta σ H' (.int x)) (k : ∀ (HE : Hp) (q5 : Addr), Same H HE → Tr HE (.ref q5) (itemD (gv1 v x)) → Q (.ref q5) HE) :
    tTup (tCons (tTup (tCons (tC (.str "gives")) (tCons tv tNil))) (tCons (tTup (tCons (tTup (tCons ta tNil)) (tCons (tTup tNil) tNil))) tNil)) σ H Q := by
  dsimp only [tTup, tCons, tNil]
  refine val_c _ ((hv _) _ ⟨by show 2 ≤ sizeLine; decide, fun q1 n1 => ?_⟩)
  refine (ha _) _ ⟨by show 1 ≤ sizeLine; decide, fun q2 n2 => ⟨Nat.zero_le _, fun q3 n3 => ⟨by show 2 ≤ sizeLine; decide, fun q4 n4 => ⟨by show 2 ≤ sizeLine; decide, fun q5 n5 => ?_⟩⟩⟩⟩
  have s1 := same_upd (o := .tup [.str "gives", .int v]) n1
  have s2 := same_upd (o := .tup [.int x]) n2
  have s3 := same_upd (o := .tup []) n3
  have s4 := same_upd (o := .tup [.ref q2, .ref q3]) n4
  have s5 := same_upd (o := .tup [.ref q1, .ref q4]) n5
  exact k _ q5 ((((s1.trans s2).trans s3).trans s4).trans s5) (tr_item_gv (cs := [x]) (s5 _ _ (s4 _ _ (s3 _ _ (s2 _ _ upd_same)))) (s5 _ _ (s4 _ _ (s3 _ _ upd_same))) (s5 _ _ (s4 _ _ upd_same)) (s5 _ _ upd_same) upd_same)
theorem inn_wait {H : Hp} {c1 c2 c3 : Addr} {x s : Int} {n : Nat} (h1 : H c1 = some (.tup [.int x])) (h2 : H c2 = some (.tup [.int (n : Nat), .int s])) (h3 : H c3 = some (.tup [.ref c1, .ref c2])) : Tr H (.ref c3) (innD ([x], some (n, s))) :=
  tr2 (d := cellsD [x]) (e := waitD (some (n, s))) h3 (.tup h1 (trs_ints [x])) (tr2 h2 (.int _) (.int _))
theorem inn_idle {H : Hp} {c1 c2 c3 : Addr} {x : Int} (h1 : H c1 = some (.tup [.int x])) (h2 : H c2 = some (.tup [])) (h3 : H c3 = some (.tup [.ref c1, .ref c2])) : Tr H (.ref c3) (innD ([x], none)) :=
  tr2 (d := cellsD [x]) (e := waitD none) h3 (.tup h1 (trs_ints [x])) (.tup h2 .nil)
/-! ### the two comprehensions -/
theorem lc_back {Pt da pa wa : Addr} {K : PySem.W.Frag} {H : Hp} {Q : VK} {tl : TE} {y : V} {t0 t1 t2 t3 t5 t6 t7 t9 t10 t11 t12 t13 t14 : Option V} {m new sent : Nat} (m2 : 2 ≤ m) (m4 : m ≤ 4) (hs : sent < m) (hn : new < m) (pr : PrAt Pt da H pa m y lostD lostPr) (hw : Tr H (.ref wa) (innD ([((new : Nat) : Int)], some (5, ((sent : Nat) : Int)))))
    (hv : ∀ R : VK, (∀ H' L, Same H H' → H' L = some (.lst ((bks m).map V.int)) → R (.ref L) H') → tl [t0, t1, t2, t3, some (.ref pa), t5, t6, t7, some (.ref wa), t9, t10, t11, t12, t13, t14] H R)
    (k : ∀ (D : Addr) (H' : Hp) (us : List Addr), Same H H' → H' D = some (.lst (us.map V.ref)) → Trs H' (us.map V.ref) ((bks m).map fun back => oneD (dueBack m new sent back)) → Q (.ref D) H') :
    tLc (iList K tl) (gName 10) tYes (tCall (spAnswered Pt) [] E0 (tCons (tVar 4) (tCons (tVar 8) (tCons (tVar 10) tNil)))) [10] [t0, t1, t2, t3, some (.ref pa), t5, t6, t7, some (.ref wa), t9, t10, t11, t12, t13, t14] H Q := by
  dsimp only [tLc, iList]
  refine hv _ fun H1 L s1 hL => ?_
  refine ⟨L, rfl, ⟨_, SqL.of hL⟩, fun D nD => ?_⟩
  refine lc_list (K := K) (a := L) (xs := (bks m).map V.int) (fun j H2 => ∃ us : List Addr, Same H1 H2 ∧ H2 D = some (.lst (us.map V.ref)) ∧ Trs H2 (us.map V.ref) (((bks m).take j).map fun back => oneD (dueBack m new sent back))) ⟨[], same_upd nD, upd_same, .nil⟩ (fun j H2 _ h => ?_) (fun j x H2 hx h => ?_) fun H2 h => ?_
  · obtain ⟨us, s2, _⟩ := h
    exact SqL.of (s2 _ _ hL)
  · obtain ⟨us, s2, hD, tr⟩ := h
    rw [List.getElem?_map] at hx
    obtain ⟨back, hz, rfl⟩ := Option.map_eq_some_iff.mp hx
    have lt := (List.getElem?_eq_some_iff.mp hz).1
    have ⟨b0, b1⟩ := bks_in (List.mem_of_getElem? hz) (by omega)
    refine ⟨rfl, ?_⟩
    dsimp only [tYes]
    rw [if_pos rfl]
    dsimp only [tCall, tCons, tNil]
    obtain ⟨R1, dR, ndR, memR, alR⟩ := back_run (sent := sent) (new := new) (back := back) m2 m4 hs hn b0 b1
    have s12 := s1.trans s2
    refine (val_var rfl) _ ((val_var rfl) _ ((val_var rfl) _ ?_))
    refine ⟨pa, wa, da, m, y, lostD, lostPr, [((new : Nat) : Int)], 5, (sent : Nat), back, ((2 : Nat) : Int), "r", "put", R1, rfl, pr.mono s12, hw.mono s12, ⟨rfl, by show 1 ≤ 3; decide, ?_, ?_⟩, rfl, b0, b1, dR, fun HF q8 sF trF => ?_⟩
    · intro z hz
      rw [List.mem_singleton.mp hz]
      omega
    · intro n v e
      injection e with e
      injection e with e1 e2
      subst e1
      exact ⟨⟨_, rfl⟩, by omega, by omega⟩
    · rw [one_item ndR memR] at trF
      have hDF := sF _ _ hD
      have trE := tr.mono sF
      have nT : ∀ zs, HF D ≠ some (.tup zs) := fun zs e => by
        rw [hDF] at e
        cases e
      refine ⟨_, hDF, ?_, us ++ [q8], fun a1 o e => ?_, ?_, ?_⟩
      · have z := trE.len
        rw [List.length_map, List.length_map] at z
        rw [List.length_map]
        have := List.length_take_le j (bks m)
        rw [bks_len] at lt
        exact small1000 (by rw [z]; omega)
      · rw [upd_ne (ne_of_none e nD)]
        exact sF _ _ (s2 _ _ e)
      · rw [upd_same, List.map_append]
        rfl
      · rw [List.take_add_one, hz, List.map_append, List.map_append]
        exact trs_app (trF.but nT) (trE.but nT)
  · obtain ⟨us, s2, hD, tr⟩ := h
    rw [List.length_map, List.take_length] at tr
    exact k D H2 us (s1.trans s2) hD tr
theorem lc_ones {la : Addr} {K : PySem.W.Frag} {H : Hp} {Q : VK} {t0 t1 t2 t3 t4 t5 t6 t7 t8 t10 t11 t12 t13 t14 : Option V} {ts : List Addr} {l : List Item} (few : l.length ≤ 10) (hl : H la = some (.lst (ts.map V.ref))) (tr : Trs H (ts.map V.ref) (l.map itemD))
    (k : ∀ (D : Addr) (H' : Hp) (us : List Addr), Same H H' → H' D = some (.lst (us.map V.ref)) → Trs H' (us.map V.ref) (l.map oneD) → Q (.ref D) H') :
    tLc (iList K (tVar 9)) (gName 14) tYes (tTup (tCons (tVar 14) tNil)) [14] [t0, t1, t2, t3, t4, t5, t6, t7, t8, some (.ref la), t10, t11, t12, t13, t14] H Q := by
  dsimp only [tLc, iList]
  refine (val_var rfl) _ ?_
  refine ⟨la, rfl, ⟨_, SqL.of hl⟩, fun D nD => ?_⟩
  have lt0 : ts.length = l.length := by
    have := tr.len
    rwa [List.length_map, List.length_map] at this
  refine lc_list (K := K) (a := la) (xs := ts.map V.ref) (fun j H2 => ∃ us : List Addr, Same H H2 ∧ H2 D = some (.lst (us.map V.ref)) ∧ Trs H2 (us.map V.ref) ((l.take j).map oneD)) ⟨[], same_upd nD, upd_same, .nil⟩ (fun j H2 _ h => ?_) (fun j x H2 hx h => ?_) fun H2 h => ?_
  · obtain ⟨us, s2, _⟩ := h
    exact SqL.of (s2 _ _ hl)
  · obtain ⟨us, s2, hD, trU⟩ := h
    have ltj := (List.getElem?_eq_some_iff.mp hx).1
    rw [List.length_map, lt0] at ltj
    obtain ⟨v, hv, trv⟩ := tr.get (j := j) (d := itemD l[j]) (by rw [List.getElem?_map, List.getElem?_eq_getElem ltj]; rfl)
    rw [hx] at hv
    obtain rfl := Option.some.inj hv
    refine ⟨rfl, ?_⟩
    dsimp only [tYes]
    rw [if_pos rfl]
    dsimp only [tTup, tCons, tNil]
    refine (val_var rfl) _ ⟨by show 1 ≤ sizeLine; decide, fun q1 n1 => ?_⟩
    have u1 := same_upd (o := .tup [x]) n1
    have trO : Tr (upd H2 q1 (.tup [x])) (.ref q1) (oneD l[j]) := tr1 upd_same ((trv.mono s2).mono u1)
    have hDF := u1 _ _ hD
    have trE := trU.mono u1
    have nT : ∀ zs, (upd H2 q1 (.tup [x])) D ≠ some (.tup zs) := fun zs e => by
      rw [hDF] at e
      cases e
    refine ⟨_, hDF, ?_, us ++ [q1], fun a1 o e => ?_, ?_, ?_⟩
    · have z := trE.len
      rw [List.length_map, List.length_map] at z
      rw [List.length_map]
      have := List.length_take_le j l
      exact small1000 (by rw [z]; omega)
    · rw [upd_ne (ne_of_none e nD)]
      exact u1 _ _ (s2 _ _ e)
    · rw [upd_same, List.map_append]
      rfl
    · rw [List.take_add_one, List.getElem?_eq_getElem ltj, List.map_append, List.map_append]
      exact trs_app (trO.but nT) (trE.but nT)
  · obtain ⟨us, s2, hD, trU⟩ := h
    rw [List.length_map, lt0, List.take_length] at trU
    exact k D H2 us s2 hD trU
end K5
namespace K5
open PySem PySem.Spec PyProof.Rows L2
abbrev s__law_lost_right : Stmt := topS 55
abbrev nmLo : List Str := ["_law_box_here", "_law_many", "_law_most_worth", "_law_page", "_law_till", "_law_now", "_law_sent", "_law_new", "_law_waits", "_law_due", "_law_back", "_law_total", "_law_found", "_law_name", "_law_one"]
theorem sc__law_lost_right : FnScope nmLo ["_law_box_here"] (defScope s__law_lost_right) := ⟨rfl, rfl, rfl, by decide +kernel, rfl, by decide +kernel, by decide +kernel⟩
section
variable {P : Program} {w : World} {K : PySem.W.Frag} {mg : Str → Option Value} {base : Heap} {TB TF Pt CT CW : Addr} {fT fO fS fC fA fF fL fP : Addr} {dT dO dS dC dA dF dL dP : FuncData}
theorem ok_lost {f : Addr} {fd : FuncData} (R : Rk P w K mg base TB TF Pt CT CW fT fO fS fC fA fF fL fP dT dO dS dC dA dF dL dP) (D : Df K mg "_law_lost_right" s__law_lost_right f fd ["_law_box_here"]) : FnG P w K mg base (L2.CX P w) 24 f fd ["_law_box_here"] (spTest TB TF) := by
  have GT : FnOk P w K mg base CX0 1 fT dT ["_law_box_here", "_law_many"] spTake := ok_take (CX := CX0) R.DT.F R.B.m_int
  have GO : FnOk P w K mg base CX0 2 fO dO ["_law_box_here", "_law_some_here"] spOfB := ok_ofB R.B R.DO R.DT
  refine okG D.F sc__law_lost_right (fun vs H Q E h => ?_) (fun cdv A outer s H vs Q E gu hr h => ?_)
  · obtain ⟨b, p, q, n, rfl, _⟩ := h
    rfl
  · obtain ⟨b, p, q, n, rfl, hb, Bx, few, tabB, tabF, nBF, k⟩ := h
    have S := sc__law_lost_right
    have hu := hr.units
    refine ⟨_, (pss_cons (ps_set (i := 1) S.nd rfl (.inl rfl) (pe_call GO (hr.mono (by decide)) (by rfl) R.DO.g R.DO.F.kp R.DO.b .nil pass0 (pa_cons (pv 0) (pa_cons (pe_lst (pa_cons pe_int (pa_cons pe_int (pa_cons pe_int pa_nil)))) pa_nil))))
      (pss_cons (ps_set (i := 2) S.nd rfl (.inl rfl) (pe_op op_sub (pv 1) pe_int))
      (pss_cons (ps_set (i := 3) S.nd rfl (.inl rfl) (pe_lst (pa_cons pe_str (pa_cons pe_str (pa_cons pe_str (pa_cons pe_str (pa_cons pe_str (pa_cons pe_str (pa_cons pe_str (pa_cons pe_str pa_nil))))))))))
      (pss_cons (ps_set (i := 3) S.nd rfl (.inl rfl) (pe_op op_cat (pv 3) (pe_lst (pa_cons pe_str (pa_cons pe_str (pa_cons pe_str (pa_cons pe_str (pa_cons pe_str (pa_cons pe_str pa_nil)))))))))
      (pss_cons (ps_set (i := 3) S.nd rfl (.inl rfl) (pe_op op_cat (pv 3) (pe_lst (pa_cons pe_str (pa_cons pe_str (pa_cons pe_str (pa_cons pe_str (pa_cons pe_str (pa_cons pe_str (pa_cons pe_str pa_nil))))))))))
      (pss_cons (ps_asg (pe_tup (pa_cons (pe_make R.MP R.GP (hr.mono (by decide)) (by rfl) R.gP R.bP .nil passL (pa_cons (pv 1) (pa_cons (pe_bm PySem.F.plainAttrs_str PySem.F.slot_str_join PySem.F.type_str_join mt_join pe_str (pa_cons (pv 3) pa_nil)) pa_nil))) (pa_cons (pe_call GT (hr.mono (by decide)) (by rfl) R.DT.g R.DT.F.kp R.DT.b .nil pass0 (pa_cons (pv 0) (pa_cons (pv 1) pa_nil))) pa_nil))) (pg_tup (by rfl) (pgs_cons (pg_name (i := 4) S.nd rfl (.inr rfl)) (pgs_cons (pg_name (i := 5) S.nd rfl (.inl rfl)) pgs_nil))))
      (pss_cons (ps_for (passes_of rfl) rfl (pi_range1 (by rfl) R.B.m_range (pa_cons (pv 1) pa_nil)) (pg_name (i := 6) S.nd rfl (.inl rfl))
        (pss_cons (ps_set (i := 7) S.nd rfl (.inl rfl) (pe_op op_mod (pe_toInt (by rfl) R.B.m_int (pe_op op_add (pv 5) (pv 6))) (pv 1)))
        (pss_cons (ps_set (i := 8) S.nd rfl (.inr rfl) (pe_tup (pa_cons (pe_tup (pa_cons (pv 7) pa_nil)) (pa_cons (pe_tup (pa_cons pe_int (pa_cons (pv 6) pa_nil))) pa_nil))))
        (pss_cons (ps_if (pt_cmpR op_ne (pe_callB (call_reprT gu hu) (by rfl) R.B.m_repr PyProof.Rows.boot_repr (pa_cons (pe_call R.GC (hr.mono (by decide)) (by rfl) R.DC.g R.DC.F.kp R.DC.b .nil passL (pa_cons (pv 4) (pa_cons (pe_tup (pa_cons (pe_tup (pa_cons (pv 5) pa_nil)) (pa_cons (pe_tup pa_nil) pa_nil))) (pa_cons pe_str (pa_cons (pv 6) pa_nil))))) pa_nil)) (pe_callB (call_reprT gu hu) (by rfl) R.B.m_repr PyProof.Rows.boot_repr (pa_cons (pe_tup (pa_cons (pe_tup (pa_cons (pe_tup (pa_cons pe_str (pa_cons pe_str (pa_cons pe_str (pa_cons (pv 7) pa_nil))))) (pa_cons (pv 8) pa_nil))) pa_nil)) pa_nil)) (nomark _)) (pss_one (ps_ret pe_bl)) pss_nil)
        (pss_cons (ps_set (i := 9) S.nd rfl (.inl rfl) (pe_lst (pa_cons (pe_tup (pa_cons (pe_tup (pa_cons pe_str (pa_cons pe_int pa_nil))) (pa_cons (pe_tup (pa_cons (pe_tup (pa_cons (pv 7) pa_nil)) (pa_cons (pe_tup pa_nil) pa_nil))) pa_nil))) (pa_cons (pe_tup (pa_cons (pe_tup (pa_cons pe_str (pa_cons (pe_un un_neg pe_int) pa_nil))) (pa_cons (pe_tup (pa_cons (pe_tup (pa_cons (pv 6) pa_nil)) (pa_cons (pe_tup pa_nil) pa_nil))) pa_nil))) pa_nil))))
        (pss_cons (ps_for (passes_of rfl) rfl (pi_range1 (by rfl) R.B.m_range (pa_cons (pv 1) pa_nil)) (pg_name (i := 10) S.nd rfl (.inl rfl))
          (pss_cons (ps_set (i := 11) S.nd rfl (.inl rfl) (pe_op op_mod (pe_toInt (by rfl) R.B.m_int (pe_op op_add (pv 7) (pv 10))) (pv 1)))
          (pss_one (ps_expr (pe_bm PySem.F.plainAttrs_list PySem.F.slot_list_append PySem.F.type_list_append mt_append (pv 9) (pa_cons (pe_tup (pa_cons (pe_tup (pa_cons pe_str (pa_cons (pv 11) pa_nil))) (pa_cons (pe_tup (pa_cons (pe_tup (pa_cons (pv 11) pa_nil)) (pa_cons (pe_tup pa_nil) pa_nil))) pa_nil))) pa_nil))))))
        (pss_cons (ps_setLc (i := 12) (own := [("_law_back", 10)]) (g := gName 10) (by rfl) S.nd rfl rfl (sw_true rfl rfl rfl (by decide +kernel)) (pi_list (pe_op op_cat (pe_lst (pa_cons (pe_un un_neg pe_int) (pa_cons (pe_un un_neg pe_int) pa_nil))) (pe_listRg (by rfl) (by rfl) R.B.m_list (prg_1 (by rfl) R.B.m_range (pv 1))))) (blkOk_by (own := [("_law_back", 10)]) (N := nmLo) (sc := defScope s__law_lost_right) (by decide +kernel)) (fun _ _ _ _ _ => pg_name (i := 10) S.nd rfl (Or.inl rfl)) (fun _ _ _ _ _ => pts_nil) (fun _ _ _ _ _ => pe_call R.GA (hr.mono (by decide)) (by rfl) R.DA.g R.DA.F.kp R.DA.b .nil passL (pa_cons (pv 4) (pa_cons (pv 8) (pa_cons (pv 10) pa_nil)))))
        (pss_cons (ps_if (pt_cmpR op_ne (pe_callB (call_reprTL gu hu) (by rfl) R.B.m_repr PyProof.Rows.boot_repr (pa_cons (pv 12) pa_nil)) (pe_callB (call_reprTL gu hu) (by rfl) R.B.m_repr PyProof.Rows.boot_repr (pa_cons (pe_lc (own := [("_law_one", 14)]) (g := gName 14) (tt := tYes) rfl S.nd (pi_list (pv 9)) (blkOk_by (own := [("_law_one", 14)]) (N := nmLo) (sc := defScope s__law_lost_right) (by decide +kernel)) (fun _ _ _ _ _ => pg_name (i := 14) S.nd rfl (Or.inl rfl)) (fun _ _ _ _ _ => pts_nil) (fun _ _ _ _ _ => pe_tup (pa_cons (pv 14) pa_nil))) pa_nil)) (nomark _)) (pss_one (ps_ret pe_bl)) pss_nil)
        (pss_cons (ps_for (passes_of rfl) rfl (pi_tup (pe_tup (pa_cons pe_str (pa_cons pe_str pa_nil)))) (pg_name (i := 13) S.nd rfl (.inl rfl))
          (pss_one (ps_if (pt_cmpR op_ne (pe_callB (call_reprT gu hu) (by rfl) R.B.m_repr PyProof.Rows.boot_repr (pa_cons (pe_call R.GC (hr.mono (by decide)) (by rfl) R.DC.g R.DC.F.kp R.DC.b .nil passL (pa_cons (pv 4) (pa_cons (pv 8) (pa_cons (pv 13) (pa_cons (pv 2) pa_nil))))) pa_nil)) (pe_callB (call_reprT gu hu) (by rfl) R.B.m_repr PyProof.Rows.boot_repr (pa_cons (pe_tup (pa_cons (pe_tup (pa_cons (pe_tup (pa_cons pe_str (pa_cons (pe_un un_neg pe_int) pa_nil))) (pa_cons (pv 8) pa_nil))) pa_nil)) pa_nil)) (nomark _)) (pss_one (ps_ret pe_bl)) pss_nil)))
        (pss_one (ps_if (pt_cmpR op_ne (pe_callB (call_reprT gu hu) (by rfl) R.B.m_repr PyProof.Rows.boot_repr (pa_cons (pe_call R.GC (hr.mono (by decide)) (by rfl) R.DC.g R.DC.F.kp R.DC.b .nil passL (pa_cons (pv 4) (pa_cons (pe_tup (pa_cons (pe_tup (pa_cons (pv 7) pa_nil)) (pa_cons (pe_tup pa_nil) pa_nil))) (pa_cons pe_str (pa_cons (pv 6) pa_nil))))) pa_nil)) (pe_callB (call_reprT gu hu) (by rfl) R.B.m_repr PyProof.Rows.boot_repr (pa_cons (pe_tup (pa_cons (pe_tup (pa_cons (pe_tup (pa_cons pe_str (pa_cons (pv 7) pa_nil))) (pa_cons (pe_tup (pa_cons (pe_tup (pa_cons (pv 7) pa_nil)) (pa_cons (pe_tup pa_nil) pa_nil))) pa_nil))) pa_nil)) pa_nil)) (nomark _)) (pss_one (ps_ret pe_bl)) pss_nil)))))))))))
      (pss_one (ps_ret pe_bl))))))))), ?_⟩
    dsimp only [tSeq, tAsg, tCons, tNil]
    dsimp only [tCall, tLst, tCons, tNil]
    refine (val_var rfl) _ (val_c _ (val_c _ (val_c _ ⟨by show 3 ≤ sizeLine; decide, fun l0 nl0 => ?_⟩)))
    have s1 := same_upd (o := .lst [V.int 2, V.int 3, V.int 4]) nl0
    have hb1 := s1 _ _ hb
    refine ⟨b, l0, _, p, q, n, rfl, hb1, Bx, by omega, upd_same, (ne_of_none hb nl0).symm, by decide, by decide, fun x p1 n1 hx B1 le1 => ?_⟩
    obtain ⟨m, rfl, m2, m4⟩ : ∃ m : Nat, x = .int (m : Nat) ∧ 2 ≤ m ∧ m ≤ 4 := by
      simp only [List.mem_cons, List.not_mem_nil, or_false] at hx
      rcases hx with e | e | e
      · exact ⟨2, e, by decide, by decide⟩
      · exact ⟨3, e, by decide, by decide⟩
      · exact ⟨4, e, by decide, by decide⟩
    have bB : b ≠ TB := tab_ne tabB hb fun _ e => nomatch e
    have bF : b ≠ TF := tab_ne tabF hb fun _ e => nomatch e
    generalize (upd H l0 (.lst [V.int 2, V.int 3, V.int 4])) = H1 at s1 hb1 ⊢
    have k2 : ∀ x o, x ≠ b → H x = some o → (upd H1 b (.lst (bx p1 q n1))) x = some o := fun x o nx e => by
      rw [upd_ne nx]
      exact s1 _ _ e
    have hb2 : (upd H1 b (.lst (bx p1 q n1))) b = some (.lst (bx p1 q n1)) := upd_same
    generalize (upd H1 b (.lst (bx p1 q n1))) = H2 at k2 hb2 ⊢
    clear s1 hb1 nl0
    dsimp only [gName, L2.start, List.set]
    dsimp only [tSeq, tAsg]
    refine (val_op (r := rI0 fun i j => .int (i - j)) (val_var rfl) val_c fun Q q => ⟨_, _, rfl, rfl, q⟩) _ ?_
    dsimp only [gName, L2.start, List.set]
    dsimp only [tSeq, tAsg]
    dsimp only [tLst, tCons, tNil]
    refine val_c _ (val_c _ (val_c _ (val_c _ (val_c _ (val_c _ (val_c _ (val_c _ ⟨by show 8 ≤ sizeLine; decide, fun l3 nl3 => ?_⟩)))))))
    have s3 := same_upd (o := .lst (lostA.map V.str)) nl3
    have hl3 : (upd H2 l3 (.lst (lostA.map V.str))) l3 = some (.lst (lostA.map V.str)) := upd_same
    change gName 3 (.ref l3) _ (upd H2 l3 (.lst (lostA.map V.str))) _
    generalize (upd H2 l3 (.lst (lostA.map V.str))) = H3 at s3 hl3 ⊢
    have hb3 := s3 _ _ hb2
    have k3 : ∀ x o, x ≠ b → H x = some o → H3 x = some o := fun x o nx e => s3 _ _ (k2 x o nx e)
    clear s3 k2 hb2 nl3
    dsimp only [gName, L2.start, List.set]
    dsimp only [tSeq, tAsg]
    refine op_run ((val_var rfl) _ ?_)
    dsimp only [tLst, tCons, tNil]
    refine val_c _ (val_c _ (val_c _ (val_c _ (val_c _ (val_c _ ⟨by show 6 ≤ sizeLine; decide, fun l4 nl4 => ?_⟩)))))
    have s4 := same_upd (o := .lst (lostB.map V.str)) nl4
    refine ⟨l3, l4, _, _, rfl, rfl, s4 _ _ hl3, upd_same, by show 14 ≤ sizeLine; decide, fun l5 nl5 => ?_⟩
    have s5 := same_upd (o := .lst ((lostA ++ lostB).map V.str)) nl5
    have hl5 : (upd (upd H3 l4 (.lst (lostB.map V.str))) l5 (.lst ((lostA ++ lostB).map V.str))) l5 = some (.lst ((lostA ++ lostB).map V.str)) := upd_same
    change gName 3 (.ref l5) _ (upd (upd H3 l4 (.lst (lostB.map V.str))) l5 (.lst ((lostA ++ lostB).map V.str))) _
    have s45 : Same H3 (upd (upd H3 l4 (.lst (lostB.map V.str))) l5 (.lst ((lostA ++ lostB).map V.str))) := s4.trans s5
    generalize (upd (upd H3 l4 (.lst (lostB.map V.str))) l5 (.lst ((lostA ++ lostB).map V.str))) = H5 at s45 hl5 ⊢
    clear s4 s5 nl4 nl5
    dsimp only [gName, L2.start, List.set]
    dsimp only [tSeq, tAsg]
    refine op_run ((val_var rfl) _ ?_)
    dsimp only [tLst, tCons, tNil]
    refine val_c _ (val_c _ (val_c _ (val_c _ (val_c _ (val_c _ (val_c _ ⟨by show 7 ≤ sizeLine; decide, fun l6 nl6 => ?_⟩))))))
    have s6 := same_upd (o := .lst (lostC.map V.str)) nl6
    refine ⟨l5, l6, _, _, rfl, rfl, s6 _ _ hl5, upd_same, by show 21 ≤ sizeLine; decide, fun l7 nl7 => ?_⟩
    have s7 := same_upd (o := .lst (lostRows.map V.str)) nl7
    have hl7 : (upd (upd H5 l6 (.lst (lostC.map V.str))) l7 (.lst (lostRows.map V.str))) l7 = some (.lst (lostRows.map V.str)) := upd_same
    change gName 3 (.ref l7) _ (upd (upd H5 l6 (.lst (lostC.map V.str))) l7 (.lst (lostRows.map V.str))) _
    have s37 : Same H3 (upd (upd H5 l6 (.lst (lostC.map V.str))) l7 (.lst (lostRows.map V.str))) := s45.trans (s6.trans s7)
    generalize (upd (upd H5 l6 (.lst (lostC.map V.str))) l7 (.lst (lostRows.map V.str))) = H7 at s37 hl7 ⊢
    clear s6 s7 nl6 nl7 s45 hl5 hl3
    have hb7 := s37 _ _ hb3
    have k7 : ∀ x o, x ≠ b → H x = some o → H7 x = some o := fun x o nx e => s37 _ _ (k3 x o nx e)
    have tabB7 : GxR.TabG H7 TB := by
      obtain ⟨ps, h1, h2⟩ := tabB
      exact ⟨ps, k7 _ _ bB.symm h1, h2⟩
    dsimp only [gName, L2.start, List.set]
    dsimp only [tSeq, tAsg]
    dsimp only [tTup, tCons, tNil]
    obtain ⟨pg1, pg2, pg3⟩ := pageB_use lost_page
    refine mk_page m2 m4 (lost_part m2 m4) (by unfold lostRows lostA; simp) pg1 pg2 pg3 tabB7 (val_var rfl) (fun RR h => ?_) fun HM pa da ktM tabBM ptM => ?_
    · refine join_read (te := tVar 3) (rows := lostRows) (val_var rfl) hl7 ?_ (h _ fun _ _ e => e)
      exact Nat.le_trans (show _ ≤ 1000 by decide +kernel) (by decide)
    · have PR : PrAt Pt da HM pa m _ lostD lostPr := ⟨ptM, rfl, m2, m4⟩
      have hbM := ktM _ _ bB hb7
      have kM : ∀ x o, x ≠ b → x ≠ TB → H x = some o → HM x = some o := fun x o n1 n2 e => ktM _ _ n2 (k7 _ _ n1 e)
      refine take_box rfl (val_var rfl) hbM B1 (by omega) (by omega) (by omega) fun d p2 n2 d0 d1 B2 le2 => ⟨by show 2 ≤ sizeLine; decide, fun t0 nt0 => ⟨t0, _, rfl, SqT.of upd_same, rfl, _, _, rfl, _, _, rfl, rfl, ?_⟩⟩
      obtain ⟨now, rfl⟩ : ∃ now : Nat, d = (now : Int) := ⟨d.toNat, by omega⟩
      have hnow : now < m := by omega
      have sN : SameBut b HM (upd (upd HM b (.lst (bx p2 q n2))) t0 (.tup [.ref pa, .int (now : Nat)])) := fun a1 o n1 h => (same_upd nt0) _ _ (by
        rw [upd_ne n1]
        exact h)
      have hbN : (upd (upd HM b (.lst (bx p2 q n2))) t0 (.tup [.ref pa, .int (now : Nat)])) b = some (.lst (bx p2 q n2)) := same_upd nt0 _ _ upd_same
      generalize (upd (upd HM b (.lst (bx p2 q n2))) t0 (.tup [.ref pa, .int (now : Nat)])) = HN at sN hbN ⊢
      have PRN : PrAt Pt da HN pa m _ lostD lostPr := PR.kp (Kp.but sN hbM)
      refine ⟨.int (m : Nat), rfl, (m : Nat), rfl, by omega, by omega, ?_⟩
      show ∃ W : Nat → Nat → L2.St → Hp → Prop, _
      refine for_range (lo := 0) (n := ((m : Nat) : Int).toNat) (fun i σ H' => ∃ (t6 t7 t8 t9 t10 t11 t12 t13 t14 : Option V), σ = [some (.ref b), some (.int (m : Nat)), some (.int ((m : Nat) - 1)), some (.ref l7), some (.ref pa), some (.int (now : Nat)), t6, t7, t8, t9, t10, t11, t12, t13, t14] ∧ Same HN H') ?_ ?_ ?_
      · exact ⟨_, _, _, _, _, _, _, _, _, rfl, fun _ _ e => e⟩
      · rintro i σ H9 hi ⟨t6, t7, t8, t9, t10, t11, t12, t13, t14, rfl, s9⟩
        have hi' : i < m := by omega
        rw [Int.zero_add]
        dsimp only [gName, List.set]
        dsimp only [tSeq, tAsg]
        have en : (((now : Nat) : Int) + ((i : Nat) : Int)) % ((m : Nat) : Int) = (((now + i) % m : Nat) : Int) := by rw [Int.natCast_emod, Int.natCast_add]
        obtain ⟨new, hnew⟩ : ∃ new : Nat, new = (now + i) % m := ⟨_, rfl⟩
        have hn : new < m := by
          rw [hnew]
          exact Nat.mod_lt _ (by omega)
        refine (val_op (z := .int (new : Nat)) (val_toInt (val_op (val_var rfl) (val_var rfl) fun Q q => ⟨_, _, rfl, rfl, q⟩)) (val_var rfl) fun Q q => ⟨_, _, rfl, rfl, by omega, by
          show Q (V.int ((((now : Nat) : Int) + ((i : Nat) : Int)) % ((m : Nat) : Int))) _
          rw [en, ← hnew]
          exact q⟩) _ ?_
        dsimp only [gName, List.set]
        dsimp only [tSeq, tAsg]
        dsimp only [tTup, tCons, tNil]
        have pr9 := PRN.mono s9
        refine (val_var rfl) _ ⟨by show 1 ≤ sizeLine; decide, fun c1 nc1 => val_c _ ((val_var rfl) _ ⟨by show 2 ≤ sizeLine; decide, fun c2 nc2 => ⟨by show 2 ≤ sizeLine; decide, fun c3 nc3 => ?_⟩⟩)⟩
        have u1 := same_upd (o := .tup [.int (new : Nat)]) nc1
        have u2 := same_upd (o := .tup [.int 5, .int (i : Nat)]) nc2
        have u3 := same_upd (o := .tup [.ref c1, .ref c2]) nc3
        have inW := inn_wait (n := 5) (u3 _ _ (u2 _ _ upd_same)) (u3 _ _ upd_same) upd_same
        have sA := s9.trans ((u1.trans u2).trans u3)
        generalize (upd (upd (upd H9 c1 (.tup [.int (new : Nat)])) c2 (.tup [.int 5, .int (i : Nat)])) c3 (.tup [.ref c1, .ref c2])) = HA at inW sA ⊢
        clear u1 u2 u3 nc1 nc2 nc3
        dsimp only [gName, List.set]
        dsimp only [tSeq, tIfS]
        dsimp only [tTest, tOp, tCB, tCall, tTup, tCons, tNil]
        obtain ⟨R1, dR1, ndR1, memR1, alR1⟩ := pay_run (sent := i) (now := now) m2 m4 hi' hnow
        rw [← hnew] at memR1
        refine (val_var rfl) _ ((val_var rfl) _ ⟨by show 1 ≤ sizeLine; decide, fun d1 nd1 => ⟨Nat.zero_le _, fun d2 nd2 => ⟨by show 2 ≤ sizeLine; decide, fun d3 nd3 => val_c _ ((val_var rfl) _ ?_)⟩⟩⟩)
        have u1 := same_upd (o := .tup [.int (now : Nat)]) nd1
        have u2 := same_upd (o := .tup []) nd2
        have u3 := same_upd (o := .tup [.ref d1, .ref d2]) nd3
        have inE := inn_idle (u3 _ _ (u2 _ _ upd_same)) (u3 _ _ upd_same) upd_same
        have sB := (u1.trans u2).trans u3
        generalize (upd (upd (upd HA d1 (.tup [.int (now : Nat)])) d2 (.tup [])) d3 (.tup [.ref d1, .ref d2])) = HB at inE sB ⊢
        clear u1 u2 u3 nd1 nd2 nd3
        have sNB := sA.trans sB
        refine ⟨pa, d3, da, m, _, lostD, lostPr, ([((now : Nat) : Int)], none), "pay", (i : Nat), ((0 : Nat) : Int), rfl, PRN.mono sNB, inE, ⟨rfl, by show 1 ≤ 3; decide, ?_, fun n v e => nomatch e⟩, (by decide +kernel : stAt [("pay", (0 : Int)), ("look", (14 : Int))] "pay" = some ((0 : Nat) : Int)), by omega, by omega, fun h => absurd rfl h, fun _ => ⟨R1, dR1, fun HF q3 sF trF => ?_⟩⟩
        · intro z hz
          rw [List.mem_singleton.mp hz]
          omega
        rw [one_item ndR1 memR1] at trF
        have okP := pay_ok (new := new) (sent := i) m4 hi' hn
        refine ⟨q3, _, rfl, trF, one_sh okP, ?_⟩
        refine val_c _ (val_c _ (val_c _ ((val_var rfl) _ ⟨by show 4 ≤ sizeLine; decide, fun a1 na1 => (val_var rfl) _ ⟨by show 2 ≤ sizeLine; decide, fun a2 na2 => ⟨by show 1 ≤ sizeLine; decide, fun a3 na3 => ?_⟩⟩⟩)))
        have u1 := same_upd (o := .tup [.str "asks", .str "r", .str "put", .int (new : Nat)]) na1
        have u2 := same_upd (o := .tup [.ref a1, .ref c3]) na2
        have u3 := same_upd (o := .tup [.ref a2]) na3
        have inW2 := (((inW.mono sB).mono sF).mono u1).mono u2
        have trP : Tr (upd (upd (upd HF a1 (.tup [.str "asks", .str "r", .str "put", .int (new : Nat)])) a2 (.tup [.ref a1, .ref c3])) a3 (.tup [.ref a2])) (.ref a3) (.tuple [itemD (duePay new i)]) := tr1 upd_same (tr2 (u3 _ _ upd_same) (.tup (u3 _ _ (u2 _ _ upd_same)) (.cons (.str _) (.cons (.str _) (.cons (.str _) (.cons (.int _) .nil))))) (inW2.mono u3))
        have sC := sNB.trans (sF.trans ((u1.trans u2).trans u3))
        have inWC := inW2.mono u3
        generalize (upd (upd (upd HF a1 (.tup [.str "asks", .str "r", .str "put", .int (new : Nat)])) a2 (.tup [.ref a1, .ref c3])) a3 (.tup [.ref a2])) = HC at trP sC inWC ⊢
        refine ⟨a3, _, rfl, trP, one_sh okP, rfl, _, rfl, ?_⟩
        rw [decide_eq_true rfl]
        refine iteF ?_
        clear u1 u2 u3 na1 na2 na3 inW2 trP trF dR1 ndR1 memR1 alR1 inE inW sA sB sNB sF
        dsimp only [tNext, tSeq, tAsg, tLst, tCons, tNil]
        refine run_gv2 (v := 1) (x := (new : Nat)) (fun _ => val_c) (fun _ => val_var rfl) fun HD t1 s1 tr1 => ?_
        refine run_gv2 (v := -1) (x := (i : Nat)) (fun _ => val_neg val_c) (fun _ => val_var rfl) fun HE t2 s2 tr2 => ⟨by show 2 ≤ sizeLine; decide, fun l9 nl9 => ?_⟩
        have hl9 : (upd HE l9 (.lst (([t1, t2] : List Addr).map V.ref))) l9 = some (.lst (([t1, t2] : List Addr).map V.ref)) := upd_same
        have s9' : Same HC (upd HE l9 (.lst (([t1, t2] : List Addr).map V.ref))) := (s1.trans s2).trans (same_upd nl9)
        have trL : Trs (upd HE l9 (.lst (([t1, t2] : List Addr).map V.ref))) (([t1, t2] : List Addr).map V.ref) ((dueT m new i 0).map itemD) := .cons ((tr1.mono s2).mono (same_upd nl9)) (.cons (tr2.mono (same_upd nl9)) .nil)
        change gName 9 (.ref l9) _ (upd HE l9 (.lst (([t1, t2] : List Addr).map V.ref))) _
        have oldE : ∀ x o, HC x = some o → x ≠ l9 := fun x o e => ne_of_none (s2 _ _ (s1 _ _ e)) nl9
        generalize (upd HE l9 (.lst (([t1, t2] : List Addr).map V.ref))) = HL at hl9 s9' trL ⊢
        clear tr1 tr2 s1 s2 nl9
        dsimp only [gName, List.set]
        refine ⟨.int (m : Nat), rfl, (m : Nat), rfl, by omega, by omega, ?_⟩
        show ∃ W : Nat → Nat → L2.St → Hp → Prop, _
        refine for_range (lo := 0) (n := ((m : Nat) : Int).toNat) (fun z σ H' => ∃ (ts : List Addr) (t10 t11 : Option V), σ = [some (.ref b), some (.int (m : Nat)), some (.int ((m : Nat) - 1)), some (.ref l7), some (.ref pa), some (.int (now : Nat)), some (.int (i : Nat)), some (.int (new : Nat)), some (.ref c3), some (.ref l9), t10, t11, t12, t13, t14] ∧ SameBut l9 HL H' ∧ H' l9 = some (.lst (ts.map V.ref)) ∧ Trs H' (ts.map V.ref) ((dueT m new i z).map itemD)) ?_ ?_ ?_
        · exact ⟨_, _, _, rfl, fun _ _ _ e => e, hl9, trL⟩
        · rintro z σ HF hz ⟨ts, t10, t11, rfl, sbF, hlF, trF⟩
          have hz' : z < m := by omega
          rw [Int.zero_add]
          dsimp only [gName, List.set]
          dsimp only [tSeq, tAsg]
          refine (val_op (z := .int ((((new : Nat) : Int) + ((z : Nat) : Int)) % ((m : Nat) : Int))) (val_toInt (val_op (val_var rfl) (val_var rfl) fun Q q => ⟨_, _, rfl, rfl, q⟩)) (val_var rfl) fun Q q => ⟨_, _, rfl, rfl, by omega, q⟩) _ ?_
          dsimp only [gName, List.set]
          refine app_item (l := l9) (d := itemD (gv1 ((((new : Nat) : Int) + ((z : Nat) : Int)) % ((m : Nat) : Int)) ((((new : Nat) : Int) + ((z : Nat) : Int)) % ((m : Nat) : Int)))) (val_var rfl) hlF trF (by rw [List.length_map, dueT_len]; omega) (fun RR h => run_gv2 (fun _ => val_var rfl) (fun _ => val_var rfl) h) fun HE ts sb hl tr => ⟨ts, _, _, rfl, fun a1 o n1 h => sb _ _ n1 (sbF _ _ n1 h), hl, ?_⟩
          rw [dueT_succ]
          exact tr
        · rintro σ HF ⟨ts, t10, t11, rfl, sbF, hlF, trF⟩
          have hlF : HF l9 = some (.lst (ts.map V.ref)) := hlF
          have trF : Trs HF (ts.map V.ref) ((dueT m new i m).map itemD) := trF
          have sCF : Same HC HF := fun x o e => sbF _ _ (oldE _ _ e) (s9' _ _ e)
          have inWF := inWC.mono sCF
          have sNF := sC.trans sCF
          dsimp only [tSeq, tAsg]
          have okB : ∀ back, ItOk (dueBack m new i back) := fun back => back_ok (by omega) m4 hi' hn
          refine lc_back (Pt := Pt) (da := da) (pa := pa) (wa := c3) (m := m) (new := new) (sent := i) m2 m4 hi' hn (PRN.mono sNF) inWF (fun RR h => ?_) fun D1 HG us1 sG hD1 trG => ?_
          · refine op_run ?_
            dsimp only [tLst, tLstRg, tRg1, tCons, tNil]
            refine (val_neg val_c) _ ((val_neg val_c) _ ⟨by show 2 ≤ sizeLine; decide, fun r1 nr1 => ?_⟩)
            refine (val_var rfl) _ ⟨_, rfl, RgOk.of_le (by omega) (by omega) (by omega) (by omega), fun r2 nr2 => ?_⟩
            have v1 := same_upd (o := .lst [V.int (-1), .int (-2)]) nr1
            have v2 := same_upd (o := .lst (rgV 0 (m : Nat))) nr2
            refine ⟨r1, r2, _, _, rfl, rfl, v2 _ _ upd_same, upd_same, ?_, fun r3 nr3 => ?_⟩
            · rw [rgV_length]
              exact Nat.le_trans (show _ ≤ 10 by show 2 + _ ≤ 10; omega) (by decide)
            · refine h _ r3 ((v1.trans v2).trans (same_upd nr3)) ?_
              rw [← rgV_bks]
              exact upd_same
          · have sNG := sNF.trans sG
            have trT := trF.mono sG
            have hlG := sG _ _ hlF
            have inWG := inWF.mono sG
            dsimp only [gName, List.set]
            dsimp only [tSeq, tIfS]
            dsimp only [tTest, tOp, tCB, tCons, tNil]
            have few9 : (dueT m new i m).length ≤ 10 := by
              rw [dueT_len]
              omega
            have shs := ones_sh (dueT_ok (by omega) m4 hi' hn) few9
            rw [bks_due] at trG
            refine (val_var rfl) _ ⟨D1, _, _, rfl, hD1, trG, shs.1, shs.2, ?_⟩
            refine lc_ones (la := l9) (ts := ts) (l := dueT m new i m) few9 hlG trT fun D2 HI us2 sI hD2 trI => ⟨D2, _, _, rfl, hD2, trI, shs.1, shs.2, rfl, _, rfl, ?_⟩
            rw [decide_eq_true rfl]
            refine iteF ?_
            have sNI := sNG.trans sI
            have inWI := inWG.mono sI
            clear trI trG trT hlG shs few9 hD1 hD2 trF hlF sbF inWF inWG sNF sNG sCF inWC sC trL hl9 oldE s9'
            refine ⟨by show 2 ≤ sizeLine; decide, fun tp ntp => ⟨tp, rfl, ⟨_, SqT.of upd_same⟩, ?_⟩⟩
            have htp : (upd HI tp (.tup [V.str "pay", .str "look"])) tp = some (.tup [V.str "pay", .str "look"]) := upd_same
            have sNJ := sNI.trans (same_upd (o := .tup [V.str "pay", .str "look"]) ntp)
            have inWJ := inWI.mono (same_upd (o := .tup [V.str "pay", .str "look"]) ntp)
            show ∃ W : Nat → Nat → L2.St → Hp → Prop, (∃ m_1, W 0 m_1 _ (upd HI tp (.tup [V.str "pay", .str "look"]))) ∧ _
            generalize (upd HI tp (.tup [V.str "pay", .str "look"])) = HJ at htp sNJ inWJ ⊢
            refine for_tup (a := tp) (xs := [V.str "pay", .str "look"]) (fun z σ H' => ∃ (t13 : Option V), σ = [some (.ref b), some (.int (m : Nat)), some (.int ((m : Nat) - 1)), some (.ref l7), some (.ref pa), some (.int (now : Nat)), some (.int (i : Nat)), some (.int (new : Nat)), some (.ref c3), some (.ref l9), t10, t11, some (.ref D1), t13, t14] ∧ Same HJ H') ?_ ?_ ?_ ?_
            · exact ⟨_, rfl, fun _ _ e => e⟩
            · rintro z σ H' _ ⟨t13, _, s'⟩
              exact SqT.of (s' _ _ htp)
            · rintro z x σ HK hx ⟨t13, rfl, sK⟩
              obtain ⟨nm, st, rfl, hst⟩ : ∃ (nm : Str) (st : Int), x = .str nm ∧ stAt lostD.sts nm = some st := by
                match z, hx with
                | 0, hx => exact ⟨"pay", 0, (Option.some.inj hx).symm, by decide +kernel⟩
                | 1, hx => exact ⟨"look", 14, (Option.some.inj hx).symm, by decide +kernel⟩
              dsimp only [gName, List.set]
              dsimp only [tIfS, tTest, tOp, tCB, tCall, tTup, tCons, tNil]
              have okB2 := busy_ok (new := new) (sent := i) m4 hi' hn
              refine (val_var rfl) _ ((val_var rfl) _ ((val_var rfl) _ ((val_var rfl) _ ?_)))
              refine ⟨pa, c3, da, m, _, lostD, lostPr, ([((new : Nat) : Int)], some (5, ((i : Nat) : Int))), nm, (m : Nat) - 1, st, rfl, (PRN.mono sNJ).mono sK, inWJ.mono sK, ⟨rfl, by show 1 ≤ 3; decide, ?_, ?_⟩, hst, by omega, by omega, fun _ HF q3 sF trF => ?_, fun h => nomatch h⟩
              · intro z hz
                rw [List.mem_singleton.mp hz]
                omega
              · intro n v e
                injection e with e
                injection e with e1 e2
                subst e1
                exact ⟨⟨_, rfl⟩, by omega, by omega⟩
              refine ⟨q3, _, rfl, trF, one_sh okB2, ?_⟩
              refine val_c _ ((val_neg val_c) _ ⟨by show 2 ≤ sizeLine; decide, fun a1 na1 => (val_var rfl) _ ⟨by show 2 ≤ sizeLine; decide, fun a2 na2 => ⟨by show 1 ≤ sizeLine; decide, fun a3 na3 => ?_⟩⟩⟩)
              have u1 := same_upd (o := .tup [.str "gives", .int (-2)]) na1
              have u2 := same_upd (o := .tup [.ref a1, .ref c3]) na2
              have u3 := same_upd (o := .tup [.ref a2]) na3
              have inW2 := ((((inWJ.mono sK).mono sF).mono u1).mono u2).mono u3
              have trB : Tr (upd (upd (upd HF a1 (.tup [.str "gives", .int (-2)])) a2 (.tup [.ref a1, .ref c3])) a3 (.tup [.ref a2])) (.ref a3) (.tuple [itemD (.gives (-2), [((new : Nat) : Int)], some (5, ((i : Nat) : Int)))]) := tr1 upd_same (tr2 (u3 _ _ upd_same) (tr2 (u3 _ _ (u2 _ _ upd_same)) (.str _) (.int _)) inW2)
              refine ⟨a3, _, rfl, trB, one_sh okB2, rfl, _, rfl, ?_⟩
              rw [decide_eq_true rfl]
              exact iteF ⟨_, rfl, sK.trans (sF.trans ((u1.trans u2).trans u3))⟩
            · rintro σ HK ⟨t13, rfl, sK⟩
              dsimp only [tIfS, tTest, tOp, tCB, tCall, tTup, tCons, tNil]
              obtain ⟨R1, dR1, ndR1, memR1, alR1⟩ := look_run (sent := i) (new := new) m2 m4 hi' hn
              have okG1 : ItOk (gv1 (new : Nat) (new : Nat)) := gv1_ok (by omega) (by omega)
              refine (val_var rfl) _ ((val_var rfl) _ ⟨by show 1 ≤ sizeLine; decide, fun d1 nd1 => ⟨Nat.zero_le _, fun d2 nd2 => ⟨by show 2 ≤ sizeLine; decide, fun d3 nd3 => val_c _ ((val_var rfl) _ ?_)⟩⟩⟩)
              have u1 := same_upd (o := .tup [.int (new : Nat)]) nd1
              have u2 := same_upd (o := .tup []) nd2
              have u3 := same_upd (o := .tup [.ref d1, .ref d2]) nd3
              have inE := inn_idle (u3 _ _ (u2 _ _ upd_same)) (u3 _ _ upd_same) upd_same
              have sNK := (sNJ.trans sK).trans ((u1.trans u2).trans u3)
              refine ⟨pa, d3, da, m, _, lostD, lostPr, ([((new : Nat) : Int)], none), "look", (i : Nat), ((14 : Nat) : Int), rfl, PRN.mono sNK, inE, ⟨rfl, by show 1 ≤ 3; decide, ?_, fun n v e => nomatch e⟩, (by decide +kernel : stAt [("pay", (0 : Int)), ("look", (14 : Int))] "look" = some ((14 : Nat) : Int)), by omega, by omega, fun h => absurd rfl h, fun _ => ⟨R1, dR1, fun HF q3 sF trF => ?_⟩⟩
              · intro z hz
                rw [List.mem_singleton.mp hz]
                omega
              rw [one_item ndR1 memR1] at trF
              refine ⟨q3, _, rfl, trF, one_sh okG1, ?_⟩
              refine val_c _ ((val_var rfl) _ ⟨by show 2 ≤ sizeLine; decide, fun q1 n1 => (val_var rfl) _ ⟨by show 1 ≤ sizeLine; decide, fun q2 n2 => ⟨Nat.zero_le _, fun q4 n4 => ⟨by show 2 ≤ sizeLine; decide, fun q5 n5 => ⟨by show 2 ≤ sizeLine; decide, fun q6 n6 => ⟨by show 1 ≤ sizeLine; decide, fun a3 na3 => ?_⟩⟩⟩⟩⟩⟩)
              have v1 := same_upd (o := .tup [.str "gives", .int (new : Nat)]) n1
              have v2 := same_upd (o := .tup [.int (new : Nat)]) n2
              have v3 := same_upd (o := .tup []) n4
              have v4 := same_upd (o := .tup [.ref q2, .ref q4]) n5
              have v5 := same_upd (o := .tup [.ref q1, .ref q5]) n6
              have u4 := same_upd (o := .tup [.ref q6]) na3
              have s1 := (((v1.trans v2).trans v3).trans v4).trans v5
              have trG1 := tr_item_gv (cs := [((new : Nat) : Int)]) (v5 _ _ (v4 _ _ (v3 _ _ (v2 _ _ upd_same)))) (v5 _ _ (v4 _ _ (v3 _ _ upd_same))) (v5 _ _ (v4 _ _ upd_same)) (v5 _ _ upd_same) upd_same
              refine ⟨a3, [itemD (gv1 (new : Nat) (new : Nat))], rfl, tr1 upd_same (trG1.mono u4), one_sh okG1, rfl, _, rfl, ?_⟩
              rw [decide_eq_true rfl]
              refine iteF ?_
              exact ⟨_, _, _, _, _, _, _, _, _, rfl, sNK.trans (sF.trans (s1.trans u4))⟩
      · rintro σ H9 ⟨t6, t7, t8, t9, t10, t11, t12, t13, t14, rfl, s9⟩
        have k9 : ∀ x o, x ≠ TB → x ≠ TF → x ≠ b → H x = some o → H9 x = some o := fun x o n1 n2 n3 e => s9 _ _ (sN _ _ n3 (kM _ _ n3 n1 e))
        refine k H9 p2 n2 k9 ?_ ?_ (s9 _ _ hbN) B2 (by omega)
        · obtain ⟨ps, h1, h2⟩ := tabBM
          exact ⟨ps, s9 _ _ (sN _ _ bB.symm h1), h2⟩
        · obtain ⟨ps, h1, h2⟩ := tabF
          exact ⟨ps, s9 _ _ (sN _ _ bF.symm (kM _ _ bF.symm nBF.symm h1)), h2⟩
end
end K5
namespace K5
open PySem PySem.Spec PyProof.Rows L2
/-! ### the law's call, where the caller shows nothing -/
/-- what is tracked at the call: empty tables, and the script unless the text has written it -/
def atCall (K : PySem.W.Frag) (ts : List Addr) (a : Addr) (ob : Obj) (ns : List Int) : Hp := fun b =>
  if b ∈ ts then some (.tbl #[]) else if b = a ∧ K.lookup a = none then some (.frz ob (.lst (ns.map V.int))) else none
section
variable {K : PySem.W.Frag} {ts : List Addr} {a b : Addr} {ob : Obj} {ns : List Int}
theorem atCall_tab (h : b ∈ ts) : atCall K ts a ob ns b = some (.tbl #[]) := if_pos h
theorem atCall_arg (h : a ∉ ts) (free : K.lookup a = none) : atCall K ts a ob ns a = some (.frz ob (.lst (ns.map V.int))) := (if_neg h).trans (if_pos ⟨rfl, free⟩)
theorem atCall_not (h : b ∉ ts) (n : ¬ (b = a ∧ K.lookup a = none)) : atCall K ts a ob ns b = none := (if_neg h).trans (if_neg n)
theorem atCall_cases (K : PySem.W.Frag) (ts : List Addr) (a b : Addr) (ob : Obj) (ns : List Int) : atCall K ts a ob ns b = none ∨ (b ∈ ts ∧ atCall K ts a ob ns b = some (.tbl #[])) ∨ (b ∉ ts ∧ b = a ∧ K.lookup a = none ∧ atCall K ts a ob ns b = some (.frz ob (.lst (ns.map V.int)))) := by
  by_cases h : b ∈ ts
  · exact .inr (.inl ⟨h, atCall_tab h⟩)
  · by_cases n : b = a ∧ K.lookup a = none
    · exact .inr (.inr ⟨h, n.1, n.2, (if_neg h).trans (if_pos n)⟩)
    · exact .inl (atCall_not h n)
end
theorem law_G {P : Program} {w : World} {K : PySem.W.Frag} {mg mb : Str → Option Value} {cx : CXT} {lv : Nat} {fa a : Addr} {cs : List (Addr × Addr)} {rec : FuncData} {x : Str} {pr : Sp} {st : Shared} {us : List Value} {ns : List Int}
    (inK : K.In st.heap) (gl : st.heap.Ns mainGlobals mg) (bl : st.heap.Ns builtinsNs mb) (std : ∀ y : Str, y ≠ "__name__" → mb y = bootBuiltins y) (nol : st.heap.NoLimit) (noGens : st.gens = #[])
    (tabs : ∀ p ∈ cs, st.heap.get? p.2 = some { cls := .none, data := .fields #[] }) (outK : ∀ p ∈ cs, K.lookup p.2 = none) (codes : ∀ p ∈ cs, PySem.W.CodeHd st.heap p.1 p.2)
    (bmod : ∃ (bm : Addr) (o : Obj), mg "__builtins__" = some (.ref bm) ∧ bm ≠ builtinsNs ∧ st.heap.get? bm = some o ∧ o.cls = .type "module" ∧ o.dict = some builtinsNs ∧ o.data = .plain)
    (arg : st.heap.get? a = some { cls := .type "list", data := .seq us.toArray }) (wholes : IntsAre us ns) (few : ns.length ≤ sizeLine) (room : Room lv callerA)
    (F : ∀ base : Heap, K.In base → base.Ns mainGlobals mg → (∀ p ∈ cs, GxR.TabB base mg p.1 p.2) → FnG P w K mg base cx lv fa rec [x] pr) (binds : ∀ (s : Shared) (u : Value), BindsTo s rec ⟨[u], []⟩ [(x, u)])
    (goes : ∀ H : Hp, (∀ p ∈ cs, H p.2 = some (.tbl #[])) → SqL K H a (ns.map V.int) → pr [.ref a] H (fun v _ => v = .bl true) fun _ _ _ => False)
    (quiet : ∀ H e s2, cx [] H st (fun _ _ _ => False) e s2 → False) :
    codeAny (model P w) callerA (.call (.ref fa) ⟨[.ref a], []⟩) (fun r s2 => r = .ok (.ret (.bool true)) ∧ OldK st.heap s2.heap ∧ s2.os = st.os ∧ AllBare s2.gens) st := by
  generalize hts : cs.map (·.2) = ts
  have inTs : ∀ p ∈ cs, p.2 ∈ ts := fun p hp => hts ▸ List.mem_map.mpr ⟨p, hp, rfl⟩
  have ofTs : ∀ b ∈ ts, ∃ p ∈ cs, p.2 = b := fun b hb => List.mem_map.mp (hts ▸ hb)
  have tabAt : ∀ b ∈ ts, st.heap.get? b = some { cls := .none, data := .fields #[] } := fun b hb => by
    obtain ⟨p, hp, rfl⟩ := ofTs b hb
    exact tabs p hp
  generalize hob : ({ cls := .type "list", data := .seq us.toArray } : Obj) = ob at arg
  have obD : ∃ m, ob.data = .seq us.toArray m := hob ▸ ⟨_, rfl⟩
  have argOut : a ∉ ts := fun z => by
    have q := tabAt a z
    rw [arg] at q
    obtain ⟨m, d⟩ := obD
    rw [Option.some.inj q] at d
    cases d
  have rel := vals_ints wholes
  have size : us.toArray.size ≤ sizeLine := by
    rw [List.size_toArray, wholes.length]
    exact few
  let H : Hp := atCall K ts a ob ns
  -- neither a table nor a list: it is not tracked
  have loose : ∀ {b : Addr} {o : Obj}, st.heap.get? b = some o → (∀ vs m, o.data ≠ .seq vs m) → o.data ≠ .fields #[] → H b = none := by
    intro b o e n1 n2
    rcases atCall_cases K ts a b ob ns with q | ⟨q, _⟩ | ⟨_, q, _, _⟩
    · exact q
    · rw [tabAt b q] at e
      cases e
      exact absurd rfl n2
    · rw [q, arg] at e
      cases e
      obtain ⟨m, d⟩ := obD
      exact absurd d (n1 _ _)
  have dictLoose : ∀ {b : Addr} {o : Obj} {es : Array DictEntry} {ep : Nat}, st.heap.get? b = some o → o.data = .dict es ep → H b = none := by
    intro b o es ep e d
    exact loose e (fun vs m z => by rw [d] at z; cases z) fun z => by rw [d] at z; cases z
  have names : ∀ {b : Addr} {m : Str → Option Value}, st.heap.Ns b m → (hidT st.heap H).Ns b m := by
    rintro b m ⟨o, es, ep, e, d, r⟩
    exact ⟨o, es, ep, hidT_get e (dictLoose e d), d, r⟩
  have inB : K.In (hidT st.heap H) := by
    intro b o e
    refine hidT_get (inK b o e) ?_
    rcases atCall_cases K ts a b ob ns with q | ⟨q, _⟩ | ⟨_, q, free, _⟩
    · exact q
    · obtain ⟨p, hp, rfl⟩ := ofTs b q
      rw [outK p hp] at e
      cases e
    · rw [q, free] at e
      cases e
  have notG : ∀ b ∈ ts, mainGlobals ≠ b := fun b hb z => by
    obtain ⟨o, es, ep, e, d, _⟩ := gl
    rw [z, tabAt b hb] at e
    cases e
    cases d
  have tb : ∀ p ∈ cs, GxR.TabB (hidT st.heap H) mg p.1 p.2 := by
    intro p hp
    constructor
    · obtain ⟨o, vs, r1, r2, r3, r4, r5, r6, r7, e, k1, k2, k3⟩ := codes p hp
      refine ⟨o, vs, r1, r2, r3, r4, r5, r6, r7, hidT_get e (loose e (fun us m z => ?_) fun z => ?_), k1, k2, k3⟩
      · rw [k2] at z
        cases z
      · rw [k2] at z
        cases z
        simp at k3
    · obtain ⟨bm, o, y1, y2, y3, y4, y5, y6⟩ := bmod
      refine ⟨bm, o, y1, y2, fun z => ?_, fun z => ?_, hidT_get y3 (loose y3 (fun us m z => ?_) fun z => ?_), y4, y5, y6⟩
      · obtain ⟨g, es, ep, e, d, _⟩ := gl
        rw [← z, y3] at e
        cases e
        rw [y6] at d
        cases d
      · rw [z, tabs p hp] at y3
        cases y3
        cases y6
      · rw [y6] at z
        cases z
      · rw [y6] at z
        cases z
    · exact notG _ (inTs p hp)
  have held : HOk P w H st.heap := by
    intro b u z
    rcases atCall_cases K ts a b ob ns with q | ⟨q, q2⟩ | ⟨_, q, _, q2⟩
    · rw [show H b = none from q] at z
      cases z
    · rw [show H b = _ from q2] at z
      cases z
      exact tabAt b q
    · rw [show H b = _ from q2] at z
      cases z
      rw [q]
      exact ⟨arg, by rw [List.length_map]; exact few, us, _, rel, arg.trans (congrArg some hob.symm)⟩
  have script : SqL K H a (ns.map V.int) := by
    cases lk : K.lookup a with
    | none => exact .inl (.inr ⟨ob, atCall_arg argOut lk⟩)
    | some o =>
      have e := inK a o lk
      rw [arg] at e
      cases e
      obtain ⟨m, d⟩ := obD
      refine .inr ⟨ob, us.toArray, m, lk, ?_, ?_, d, size, by simpa using rel⟩ <;> rw [← hob]
  have nolB : (hidT st.heap H).NoLimit := by
    obtain ⟨mc, z1, z2⟩ := nol
    exact ⟨mc, names z1, z2⟩
  have e0 : Env0 P w K mg (hidT st.heap H) callerA [] st H :=
    { frames := rfl, mod := ⟨inB, names gl, ⟨mb, names bl, std⟩, nolB⟩, bs := fun b o e => of_hidT e, bsz := Nat.le_of_eq (hidT_size _ _), funs := trivial, frf := fun b hb => (nomatch hb), hok := held, bare := .of_eq noGens }
  have runs := (F _ inB (names gl) tb).does callerA [] st H ⟨[.ref a], []⟩ [.ref a] [.ref a] (fun v _ => v = .bl true) (fun _ _ _ => False) rfl room e0 (binds st (.ref a)) (.cons rfl .nil) (goes H (fun p hp => atCall_tab (inTs p hp)) script)
  refine codeAny_mono runs ?_
  intro r s2 h
  match r, h with
  | .error e, h => exact (quiet H e s2 h).elim
  | .ok .next, h => exact h.elim
  | .ok .brk, h => exact h.elim
  | .ok .cont, h => exact h.elim
  | .ok (.ret u), ⟨v, H2, sameOs, bare, un, held2, ru, q⟩ =>
    have q : v = V.bl true := q
    subst q
    have ru : u = Value.bool true := ru
    subst ru
    have grown : ∀ p ∈ cs, ∃ more : Array Value, s2.heap.get? p.2 = some { cls := .none, data := .fields more } := fun p hp => by
      obtain ⟨more, z⟩ := un.tbls p.2 #[] (atCall_tab (inTs p hp))
      exact ⟨_, held2 p.2 _ z⟩
    have kept : ∀ b o, b ∉ ts → st.heap.get? b = some o → s2.heap.get? b = some o := by
      intro b o nb e
      rcases atCall_cases K ts a b ob ns with z | ⟨z, _⟩ | ⟨_, z, _, z2⟩
      · exact un.keep b o e z (fun c => (nomatch c)) fun c => (nomatch c)
      · exact absurd z nb
      · obtain ⟨g, _⟩ := held2 b _ (un.frzs b ob _ z2)
        rw [z, arg] at e
        cases e
        exact g
    refine ⟨rfl, ⟨fun b o e => ?_, fun b o e => ?_⟩, sameOs, bare⟩ <;> by_cases hb : b ∈ ts
    · obtain ⟨p, hp, rfl⟩ := ofTs b hb
      obtain ⟨more, hm⟩ := grown p hp
      rw [tabs p hp] at e
      cases e
      refine .inr (.inl ⟨((codes p hp).tab (tabs p hp)).isCodeTable, rfl, #[], more, rfl, ?_⟩)
      rw [hm, Array.empty_append]
    · exact .inl (kept b o hb e)
    · obtain ⟨p, hp, rfl⟩ := ofTs b hb
      obtain ⟨more, hm⟩ := grown p hp
      exact ⟨_, hm⟩
    · exact ⟨o, kept b o hb e⟩
end K5
namespace K5
open PySem PySem.Spec PyProof.Rows L2
abbrev s__law_loop_right : Stmt := topS 54
abbrev nmLp : List Str := ["_law_box_here", "_law_many", "_law_first", "_law_page", "_law_part_here", "_law_sent", "_law_found", "_law_due", "_law_back", "_law_at", "_law_x"]
theorem sc__law_loop_right : FnScope nmLp ["_law_box_here"] (defScope s__law_loop_right) := ⟨rfl, rfl, rfl, by decide +kernel, rfl, by decide +kernel, by decide +kernel⟩
theorem if_join {c : Bool} {te : TE} {i : Nat} {D : Ends} {σ : L2.St} {H : Hp} (G : L2.St → Hp → Prop) (h1 : c = true → ∀ Q : VK, (∀ x H1, G (σ.set i (some x)) H1 → Q x H1) → te σ H Q) (h2 : c = false → G σ H) (h3 : ∀ σ' H', G σ' H' → D.nx σ' H') : if c = true then tAsg te (gName i) D σ H else tNext D σ H := by
  cases c with
  | true => exact iteT (h1 rfl _ fun x H1 g => h3 _ _ g)
  | false => exact iteF (h3 _ _ (h2 rfl))
theorem test_run' {te : TE} {σ : L2.St} {H : Hp} {Q : Bool → Hp → Prop} {k : Bool} (hv : Val te σ H (.bl k)) (h : Q k H) : tTest te σ H Q := hv _ ⟨k, rfl, h⟩
theorem tup1_run {te : TE} {σ : L2.St} {H : Hp} {Q : VK} (h : te σ H fun x H1 => [x].length ≤ sizeLine ∧ ∀ p, H1 p = none → Q (.ref p) (upd H1 p (.tup [x]))) : tTup (tCons te tNil) σ H Q := h
theorem asg_run {te : TE} {g : TG} {D : Ends} {σ : L2.St} {H : Hp} (h : te σ H fun x H1 => g x σ H1 D.nx) : tAsg te g D σ H := h
theorem vint_inj {i j : Int} (h : V.int i = V.int j) : i = j := by
  injection h
section
variable {P : Program} {w : World} {K : PySem.W.Frag} {mg : Str → Option Value} {base : Heap} {TB TF Pt CT CW : Addr} {fT fO fS fC fA fF fL fP : Addr} {dT dO dS dC dA dF dL dP : FuncData}
theorem ok_loop {f : Addr} {fd : FuncData} (R : Rk P w K mg base TB TF Pt CT CW fT fO fS fC fA fF fL fP dT dO dS dC dA dF dL dP) (D : Df K mg "_law_loop_right" s__law_loop_right f fd ["_law_box_here"]) : FnG P w K mg base (L2.CX P w) 24 f fd ["_law_box_here"] (spTest TB TF) := by
  have GT : FnOk P w K mg base CX0 1 fT dT ["_law_box_here", "_law_many"] spTake := ok_take (CX := CX0) R.DT.F R.B.m_int
  have GO : FnOk P w K mg base CX0 2 fO dO ["_law_box_here", "_law_some_here"] spOfB := ok_ofB R.B R.DO R.DT
  refine okG D.F sc__law_loop_right (fun vs H Q E h => ?_) (fun cdv A outer s H vs Q E gu hr h => ?_)
  · obtain ⟨b, p, q, n, rfl, _⟩ := h
    rfl
  · obtain ⟨b, p, q, n, rfl, hb, Bx, few, tabB, tabF, nBF, k⟩ := h
    have S := sc__law_loop_right
    have hu := hr.units
    refine ⟨_, (pss_cons (ps_par (i := 1) (j := 2) (by rfl) S.nd rfl rfl (by decide) rfl rfl (pa_cons (pe_call GO (hr.mono (by decide)) (by rfl) R.DO.g R.DO.F.kp R.DO.b .nil pass0 (pa_cons (pv 0) (pa_cons (pe_lst (pa_cons pe_int (pa_cons pe_int (pa_cons pe_int pa_nil)))) pa_nil))) (pa_cons (pe_call GT (hr.mono (by decide)) (by rfl) R.DT.g R.DT.F.kp R.DT.b .nil pass0 (pa_cons (pv 0) (pa_cons pe_int pa_nil))) pa_nil)) (by rfl))
      (pss_cons (ps_set (i := 3) S.nd rfl (.inl rfl) (pe_lst (pa_cons (pe_op op_add_str pe_str (pe_callTy call_str_int (by rfl) R.B.m_str (by decide +kernel) (pa_cons (pv 2) pa_nil))) (pa_cons pe_str (pa_cons pe_str (pa_cons pe_str (pa_cons pe_str (pa_cons pe_str pa_nil))))))))
      (pss_cons (ps_set (i := 4) S.nd rfl (.inl rfl) (pe_make R.MP R.GP (hr.mono (by decide)) (by rfl) R.gP R.bP .nil passL (pa_cons (pv 1) (pa_cons (pe_bm PySem.F.plainAttrs_str PySem.F.slot_str_join PySem.F.type_str_join mt_join pe_str (pa_cons (pe_op op_cat (pv 3) (pe_lst (pa_cons pe_str pa_nil))) pa_nil)) pa_nil))))
      (pss_cons (ps_for (passes_of rfl) rfl (pi_range1 (by rfl) R.B.m_range (pa_cons (pv 1) pa_nil)) (pg_name (i := 5) S.nd rfl (.inl rfl))
        (pss_cons (ps_set (i := 6) S.nd rfl (.inl rfl) (pe_call R.GC (hr.mono (by decide)) (by rfl) R.DC.g R.DC.F.kp R.DC.b .nil passL (pa_cons (pv 4) (pa_cons (pe_tup (pa_cons (pe_tup (pa_cons (pv 2) pa_nil)) (pa_cons (pe_tup pa_nil) pa_nil))) (pa_cons pe_str (pa_cons (pv 5) pa_nil))))))
        (pss_cons (ps_set (i := 7) S.nd rfl (.inl rfl) (pe_tup (pa_cons (pe_tup (pa_cons (pe_tup (pa_cons pe_str (pa_cons (pv 2) pa_nil))) (pa_cons (pe_tup (pa_cons (pe_tup (pa_cons (pv 2) pa_nil)) (pa_cons (pe_tup pa_nil) pa_nil))) pa_nil))) pa_nil)))
        (pss_cons (ps_if (pt_cmpR op_ne (pv 5) pe_int (nomark _)) (pss_one (ps_set (i := 7) S.nd rfl (.inl rfl) (pe_tup (pa_cons (pe_tup (pa_cons (pe_tup (pa_cons pe_str (pa_cons pe_str (pa_cons pe_str (pa_cons (pv 2) pa_nil))))) (pa_cons (pe_tup (pa_cons (pe_tup (pa_cons (pv 2) pa_nil)) (pa_cons (pe_tup (pa_cons pe_int (pa_cons (pv 5) pa_nil))) pa_nil))) pa_nil))) pa_nil)))) pss_nil)
        (pss_cons (ps_if (pt_cmpR op_ne (pe_callB (call_reprT gu hu) (by rfl) R.B.m_repr PyProof.Rows.boot_repr (pa_cons (pv 6) pa_nil)) (pe_callB (call_reprT gu hu) (by rfl) R.B.m_repr PyProof.Rows.boot_repr (pa_cons (pv 7) pa_nil)) (nomark _)) (pss_one (ps_ret pe_bl)) pss_nil)
        (pss_one (ps_for (passes_of rfl) rfl (pi_range2 (by rfl) R.B.m_range (pa_cons (pe_un un_neg pe_int) (pa_cons (pv 1) pa_nil))) (pg_name (i := 8) S.nd rfl (.inl rfl))
          (pss_cons (ps_par (i := 9) (j := 7) (by rfl) S.nd rfl rfl (by decide) rfl rfl (pa_cons (pe_call GT (hr.mono (by decide)) (by rfl) R.DT.g R.DT.F.kp R.DT.b .nil pass0 (pa_cons (pv 0) (pa_cons (pv 1) pa_nil))) (pa_cons (pe_lst pa_nil) pa_nil)) (by rfl))
          (pss_cons (ps_for (passes_of rfl) rfl (pi_range1 (by rfl) R.B.m_range (pa_cons (pv 1) pa_nil)) (pg_name (i := 10) S.nd rfl (.inl rfl))
            (pss_one (ps_if (pt_cmpR op_eq (pe_callB (call_max2 rfl) (by rfl) R.B.m_max (by decide +kernel) (pa_cons pe_int (pa_cons (pv 8) pa_nil))) (pv 5) (nomark _))
              (pss_one (ps_expr (pe_bm PySem.F.plainAttrs_list PySem.F.slot_list_append PySem.F.type_list_append mt_append (pv 7) (pa_cons (pe_tup (pa_cons (pe_tup (pa_cons pe_str (pa_cons (pv 10) pa_nil))) (pa_cons (pe_tup (pa_cons (pe_tup (pa_cons (pv 10) pa_nil)) (pa_cons (pe_tup pa_nil) pa_nil))) pa_nil))) pa_nil))))
              (pss_one (ps_expr (pe_bm PySem.F.plainAttrs_list PySem.F.slot_list_append PySem.F.type_list_append mt_append (pv 7) (pa_cons (pe_tup (pa_cons (pe_tup (pa_cons pe_str (pa_cons pe_str (pa_cons pe_str (pa_cons (pv 10) pa_nil))))) (pa_cons (pe_tup (pa_cons (pe_tup (pa_cons (pv 10) pa_nil)) (pa_cons (pe_tup (pa_cons pe_int (pa_cons (pv 5) pa_nil))) pa_nil))) pa_nil))) pa_nil)))))))
          (pss_one (ps_if (pt_cmpR op_ne (pe_callB (call_reprT gu hu) (by rfl) R.B.m_repr PyProof.Rows.boot_repr (pa_cons (pe_call R.GA (hr.mono (by decide)) (by rfl) R.DA.g R.DA.F.kp R.DA.b .nil passL (pa_cons (pv 4) (pa_cons (pe_tup (pa_cons (pe_tup (pa_cons (pv 9) pa_nil)) (pa_cons (pe_tup (pa_cons pe_int (pa_cons (pv 5) pa_nil))) pa_nil))) (pa_cons (pv 8) pa_nil)))) pa_nil)) (pe_callB (call_reprT gu hu) (by rfl) R.B.m_repr PyProof.Rows.boot_repr (pa_cons (pe_call R.GL (hr.mono (by decide)) (by rfl) R.DL.g R.DL.F.kp R.DL.b .nil pass0 (pa_cons (pv 7) pa_nil)) pa_nil)) (nomark _))
            (pss_one (ps_ret pe_bl)) pss_nil)))))))))))
      (pss_one (ps_ret pe_bl)))))), ?_⟩
    dsimp only [tSeq, tPar, tCons, tNil]
    dsimp only [tCall, tLst, tCons, tNil]
    refine (val_var rfl) _ (val_c _ (val_c _ (val_c _ ⟨by show 3 ≤ sizeLine; decide, fun l0 nl0 => ?_⟩)))
    have s1 := same_upd (o := .lst [V.int 2, V.int 3, V.int 4]) nl0
    have hb1 := s1 _ _ hb
    refine ⟨b, l0, _, p, q, n, rfl, hb1, Bx, by omega, upd_same, (ne_of_none hb nl0).symm, by decide, by decide, fun x p1 n1 hx B1 le1 => ?_⟩
    obtain ⟨m, rfl, m2, m4⟩ : ∃ m : Nat, x = .int (m : Nat) ∧ 2 ≤ m ∧ m ≤ 4 := by
      simp only [List.mem_cons, List.not_mem_nil, or_false] at hx
      rcases hx with e | e | e
      · exact ⟨2, e, by decide, by decide⟩
      · exact ⟨3, e, by decide, by decide⟩
      · exact ⟨4, e, by decide, by decide⟩
    have bB : b ≠ TB := tab_ne tabB hb fun _ e => nomatch e
    have bF : b ≠ TF := tab_ne tabF hb fun _ e => nomatch e
    generalize (upd H l0 (.lst [V.int 2, V.int 3, V.int 4])) = H1 at s1 hb1 ⊢
    refine (val_var rfl) _ (val_c _ ⟨b, 2, p1, q, n1, rfl, upd_same, B1, by omega, by decide, by decide, fun d p2 n2 d0 d1 B2 le2 => ?_⟩)
    obtain ⟨a, rfl⟩ : ∃ a : Nat, d = (a : Int) := ⟨d.toNat, by omega⟩
    have ha : a < 2 := by omega
    have ha' : a = 0 ∨ a = 1 := by omega
    have k2 : ∀ x o, x ≠ b → H x = some o → (upd (upd H1 b (.lst (bx p1 q n1))) b (.lst (bx p2 q n2))) x = some o := fun x o nx e => by
      rw [upd_ne nx, upd_ne nx]
      exact s1 _ _ e
    have hb2 : (upd (upd H1 b (.lst (bx p1 q n1))) b (.lst (bx p2 q n2))) b = some (.lst (bx p2 q n2)) := upd_same
    generalize (upd (upd H1 b (.lst (bx p1 q n1))) b (.lst (bx p2 q n2))) = H2 at k2 hb2 ⊢
    clear s1 hb1 nl0
    refine ⟨_, _, rfl, ?_⟩
    dsimp only [gName, L2.start, List.set]
    dsimp only [tSeq, tAsg]
    dsimp only [tLst, tCons, tNil]
    have ls : (toString ((a : Nat) : Int) : Str).length ≤ 10 := (cell_len (z := "n") (u := a) (by decide +kernel) (by omega)).2.2
    have hlog : ((a : Nat) : Int).natAbs.log2 < 1920 := by
      have h3 : ∀ v : Fin 4, ((v.val : Nat) : Int).natAbs.log2 < 1920 := by decide +kernel
      exact h3 ⟨a, by omega⟩
    refine (val_addS (x := "cell n ") (y := (toString ((a : Nat) : Int) : Str)) val_c (fun Q q => ⟨.int ((a : Nat) : Int), rfl, ((a : Nat) : Int), rfl, hlog, q⟩) ?_) _ ?_
    · exact Nat.le_trans (Nat.add_le_add_left ls _) (by decide +kernel)
    refine val_c _ (val_c _ (val_c _ (val_c _ (val_c _ ⟨by show 6 ≤ sizeLine; decide, fun l3 nl3 => ?_⟩))))
    have s3 := same_upd (o := .lst ((["cell n " ++ (toString ((a : Nat) : Int) : Str), "port q", "door seek", "  while got != it", "    ask q find n", "    draw n"] : List Str).map V.str)) nl3
    have hl3 : (upd H2 l3 (.lst ((["cell n " ++ (toString ((a : Nat) : Int) : Str), "port q", "door seek", "  while got != it", "    ask q find n", "    draw n"] : List Str).map V.str))) l3 = some (.lst ((["cell n " ++ (toString ((a : Nat) : Int) : Str), "port q", "door seek", "  while got != it", "    ask q find n", "    draw n"] : List Str).map V.str)) := upd_same
    change gName 3 (.ref l3) _ (upd H2 l3 (.lst ((["cell n " ++ (toString ((a : Nat) : Int) : Str), "port q", "door seek", "  while got != it", "    ask q find n", "    draw n"] : List Str).map V.str))) _
    generalize (upd H2 l3 (.lst ((["cell n " ++ (toString ((a : Nat) : Int) : Str), "port q", "door seek", "  while got != it", "    ask q find n", "    draw n"] : List Str).map V.str))) = H3 at s3 hl3 ⊢
    have hb3 := s3 _ _ hb2
    have k3 : ∀ x o, x ≠ b → H x = some o → H3 x = some o := fun x o nx e => s3 _ _ (k2 x o nx e)
    have tabB3 : GxR.TabG H3 TB := by
      obtain ⟨ps, h1, h2⟩ := tabB
      exact ⟨ps, k3 _ _ bB.symm h1, h2⟩
    clear s3 k2 hb2 nl3
    dsimp only [gName, L2.start, List.set]
    dsimp only [tSeq, tAsg]
    obtain ⟨pg1, pg2, pg3⟩ := pageB_use (loop_page ha')
    refine mk_page m2 m4 (loop_part (by omega) ha') (by unfold loopRows; simp) pg1 pg2 pg3 tabB3 (val_var rfl) (fun RR h => ?_) fun HM pa da ktM tabBM ptM => ?_
    · refine bm_run (x := .str "\n") val_c rfl ?_
      dsimp only [tCons, tNil]
      refine op_run ((val_var rfl) _ ?_)
      dsimp only [tLst, tCons, tNil]
      refine val_c _ ⟨by show 1 ≤ sizeLine; decide, fun l4 nl4 => ?_⟩
      have u1 := same_upd (o := .lst [V.str "  answer n"]) nl4
      refine ⟨l3, l4, _, _, rfl, rfl, u1 _ _ hl3, upd_same, by show 7 ≤ sizeLine; decide, fun l5 nl5 => ?_⟩
      have u2 := same_upd (o := .lst ((loopRows (a : Nat)).map V.str)) nl5
      refine ⟨"\n", l5, loopRows (a : Nat), rfl, rfl, .inl (SqL.of upd_same), ?_, ?_⟩
      · have h1 : ∀ u : Fin 4, ((loopRows (u.val : Nat)).map (·.length)).sum + (loopRows (u.val : Nat)).length * ("\n" : Str).length ≤ 1000 := by decide +kernel
        exact Nat.le_trans (h1 ⟨a, by omega⟩) (by decide)
      · rw [TL.join_eq]
        exact h _ (u1.trans u2)
    · have PR : PrAt Pt da HM pa m _ (loopD (a : Nat)) loopPr := ⟨ptM, rfl, m2, m4⟩
      have hbM := ktM _ _ bB hb3
      have kM : ∀ x o, x ≠ b → x ≠ TB → H x = some o → HM x = some o := fun x o n1 n2 e => ktM _ _ n2 (k3 _ _ n1 e)
      refine ⟨.int (m : Nat), rfl, (m : Nat), rfl, by omega, by omega, ?_⟩
      show ∃ W : Nat → Nat → L2.St → Hp → Prop, _
      refine for_range (lo := 0) (n := ((m : Nat) : Int).toNat) (fun i σ H' => ∃ (p' n' : Int) (t5 t6 t7 t8 t9 t10 : Option V), σ = [some (.ref b), some (.int (m : Nat)), some (.int (a : Nat)), some (.ref l3), some (.ref pa), t5, t6, t7, t8, t9, t10] ∧ SameBut b HM H' ∧ H' b = some (.lst (bx p' q n')) ∧ Box p' q n' ∧ n' ≤ n2 + 6 * i) ?_ ?_ ?_
      · exact ⟨p2, n2, _, _, _, _, _, _, rfl, fun _ _ _ e => e, hbM, B2, by omega⟩
      · rintro i σ H9 hi ⟨p3, n3, t5, t6, t7, t8, t9, t10, rfl, sb9, hb9, B3, le3⟩
        have hi' : i < m := by omega
        dsimp only [gName, List.set]
        dsimp only [tSeq, tAsg]
        dsimp only [tCall, tCons, tNil]
        have pr9 := PR.kp (Kp.but sb9 hbM)
        obtain ⟨R1, dR, ndR, memR, alR⟩ := seek_run (sent := i) (a := a) m2 m4 hi' ha
        refine (val_var rfl) _ ((val_var rfl) _ ⟨by show 1 ≤ sizeLine; decide, fun c1 nc1 => ⟨Nat.zero_le _, fun c2 nc2 => ⟨by show 2 ≤ sizeLine; decide, fun c3 nc3 => val_c _ ((val_var rfl) _ ?_)⟩⟩⟩)
        have u1 := same_upd (o := .tup [.int (a : Nat)]) nc1
        have u2 := same_upd (o := .tup []) nc2
        have u3 := same_upd (o := .tup [.ref c1, .ref c2]) nc3
        have inE := tr2 (d := cellsD [((a : Nat) : Int)]) (e := waitD none) (upd_same (H := upd (upd H9 c1 (.tup [.int (a : Nat)])) c2 (.tup [])) (a := c3) (o := .tup [.ref c1, .ref c2])) (.tup (u3 _ _ (u2 _ _ upd_same)) (trs_ints [((a : Nat) : Int)])) (.tup (u3 _ _ upd_same) .nil)
        refine ⟨pa, c3, da, m, _, loopD (a : Nat), loopPr, ([((a : Nat) : Int)], none), "seek", 0 + (i : Nat), ((0 : Nat) : Int), rfl, ((pr9.mono u1).mono u2).mono u3, inE, ⟨rfl, by show 1 ≤ 3; decide, ?_, fun n v e => nomatch e⟩, (by decide +kernel : stAt [("seek", (0 : Int))] "seek" = some ((0 : Nat) : Int)), by omega, by omega, fun h => absurd rfl h, fun _ => ⟨R1, by rw [Int.zero_add]; exact dR, fun HF q3 sF trF => ?_⟩⟩
        · intro z hz
          rw [List.mem_singleton.mp hz]
          omega
        have sF9 := ((u1.trans u2).trans u3).trans sF
        clear u1 u2 u3 inE sF nc1 nc2 nc3
        dsimp only [gName, List.set]
        dsimp only [tSeq]
        refine asg_run (tup1_run (run_gv (ta := tVar 2) (v := (a : Nat)) (fun _ => val_var rfl) fun HG q5 sG trG => ⟨by show 1 ≤ sizeLine; decide, fun q6 n6 => ?_⟩))
        have s6 := sG.trans (same_upd (o := .tup [.ref q5]) n6)
        have tr6 : Tr (upd HG q6 (.tup [.ref q5])) (.ref q6) (.tuple [itemD (.gives (a : Nat), [((a : Nat) : Int)], none)]) := tr1 upd_same (trG.mono (same_upd n6))
        generalize (upd HG q6 (.tup [.ref q5])) = H6 at s6 tr6 ⊢
        dsimp only [gName, List.set]
        dsimp only [tSeq, tIfS]
        refine test_run' (val_op (r := rNe) (z := .bl (!decide (V.int (0 + (i : Nat)) = V.int 0))) (val_var rfl) val_c fun Q q => ⟨rfl, q⟩) ?_
        refine if_join (i := 7) (fun σ' H' => ∃ q7 : Addr, σ' = [some (.ref b), some (.int (m : Nat)), some (.int (a : Nat)), some (.ref l3), some (.ref pa), some (.int (0 + (i : Nat))), some (.ref q3), some (.ref q7), t8, t9, t10] ∧ Same H6 H' ∧ Tr H' (.ref q7) (.tuple ((dueSeek i a).map itemD))) (fun hc Q' hQ => ?_) (fun hc => ?_) fun σ' H' hG => ?_
        · have ne : ¬ i = 0 := fun e => by
            subst e
            cases hc
          refine tup1_run ?_
          refine run_as (ta := tVar 2) (ts := tVar 5) (v := (a : Nat)) (s := (i : Nat)) (fun _ => val_var rfl) (fun _ => val_var (congrArg (fun z => some (some (V.int z))) (Int.zero_add ((i : Nat) : Int)))) fun HK q8 sK trK => ?_
          refine ⟨by show 1 ≤ sizeLine; decide, fun q9 n9 => hQ _ _ ⟨q9, rfl, sK.trans (same_upd n9), ?_⟩⟩
          unfold dueSeek
          rw [if_neg ne]
          exact tr1 upd_same (trK.mono (same_upd n9))
        · have e0 : i = 0 := by
            apply Classical.byContradiction
            intro ne
            have c : ¬ V.int (0 + ((i : Nat) : Int)) = V.int 0 := fun z => by
              injection z with z
              omega
            rw [decide_eq_false c] at hc
            cases hc
          refine ⟨q6, rfl, fun _ _ e => e, ?_⟩
          unfold dueSeek
          rw [if_pos e0]
          exact tr6
        obtain ⟨q7, rfl, s67, tr7⟩ := hG
        have trR := trF.mono (s6.trans s67)
        have sH9 := (sF9.trans s6).trans s67
        have es : sortB itemD (dueSeek i a) = dueSeek i a := by
          unfold dueSeek
          split <;> exact List.mergeSort_singleton _
        have nds : (dueSeek i a).Nodup := by
          unfold dueSeek
          split <;> simp
        have lens : (dueSeek i a).length = 1 := by
          unfold dueSeek
          split <;> rfl
        have few1 : R1.length ≤ 1000 := by
          have z := nodup_len ndR fun z hz => (memR z).mp hz
          omega
        have shS : ShOk (itemsD (dueSeek i a)) := sh_items (seek_ok (by omega) ha) (by omega)
        have e1 : itemsD R1 = itemsD (dueSeek i a) := by
          unfold itemsD
          rw [sortB_one itemD_inj key_item (nodup_perm ndR nds memR) (all_alike alR)]
        have e2 : itemsD (dueSeek i a) = .tuple ((dueSeek i a).map itemD) := by
          unfold itemsD
          rw [es]
        rw [e1, e2] at trR
        rw [e2] at shS
        dsimp only [tSeq, tIfS]
        dsimp only [tTest, tOp, tCB, tCons, tNil]
        refine (val_var rfl) _ ⟨q3, _, rfl, trR, shS, (val_var rfl) _ ⟨q7, _, rfl, tr7, shS, rfl, _, rfl, ?_⟩⟩
        rw [decide_eq_true rfl]
        refine iteF ?_
        clear trR tr7 trF e1 e2 es nds lens few1 shS dR ndR memR alR
        have hb0 := sH9 _ _ hb9
        have sb0 : SameBut b HM H' := fun a1 o n1 e => sH9 _ _ (sb9 _ _ n1 e)
        refine ⟨2, rfl, .int (m : Nat), rfl, -2, (m : Nat), rfl, ⟨by omega, by omega, by omega, by omega⟩, ?_⟩
        show ∃ W : Nat → Nat → L2.St → Hp → Prop, _
        refine for_range (lo := -2) (n := (((m : Nat) : Int) - (-2)).toNat) (fun j σ H2 => ∃ (p' n' : Int) (t7 t8 t9 t10 : Option V), σ = [some (.ref b), some (.int (m : Nat)), some (.int (a : Nat)), some (.ref l3), some (.ref pa), some (.int (0 + (i : Nat))), some (.ref q3), t7, t8, t9, t10] ∧ SameBut b HM H2 ∧ H2 b = some (.lst (bx p' q n')) ∧ Box p' q n' ∧ n' ≤ n3 + j) ?_ ?_ ?_
        · exact ⟨p3, n3, _, _, _, _, rfl, sb0, hb0, B3, by omega⟩
        · rintro j σ HA hj ⟨p4, n4, t7, t8, t9, t10, rfl, sbA, hbA, B4, le4⟩
          obtain ⟨back, hback⟩ : ∃ back : Int, back = -2 + (j : Nat) := ⟨_, rfl⟩
          rw [← hback]
          have b0 : -2 ≤ back := by omega
          have b1 : back < (m : Int) := by omega
          dsimp only [gName, List.set]
          dsimp only [tSeq, tPar]
          dsimp only [tCall, tLst, tCons, tNil]
          refine (val_var rfl) _ ((val_var rfl) _ ⟨b, (m : Nat), p4, q, n4, rfl, hbA, B4, by omega, by omega, by omega, fun d p5 n5 d0 d1 B5 le5 => ?_⟩)
          refine ⟨Nat.zero_le _, fun l7 nl7 => ⟨_, _, rfl, ?_⟩⟩
          obtain ⟨e1, rfl⟩ : ∃ z : Nat, d = (z : Int) := ⟨d.toNat, by omega⟩
          have he1 : e1 < m := by omega
          have s7 : SameBut b HA (upd (upd HA b (.lst (bx p5 q n5))) l7 (.lst [])) := fun a1 o n1 h => (same_upd nl7) _ _ (by
            rw [upd_ne n1]
            exact h)
          have hb7 : (upd (upd HA b (.lst (bx p5 q n5))) l7 (.lst [])) b = some (.lst (bx p5 q n5)) := same_upd nl7 _ _ upd_same
          have hl7 : (upd (upd HA b (.lst (bx p5 q n5))) l7 (.lst [])) l7 = some (.lst (([] : List Addr).map V.ref)) := upd_same
          have nb7 : b ≠ l7 := ne_of_none (H := upd HA b (.lst (bx p5 q n5))) upd_same nl7
          have old7 : ∀ x o, x ≠ b → HA x = some o → x ≠ l7 := fun x o n1 h => ne_of_none (H := upd HA b (.lst (bx p5 q n5))) (by
            rw [upd_ne n1]
            exact h) nl7
          generalize (upd (upd HA b (.lst (bx p5 q n5))) l7 (.lst [])) = HB at s7 hb7 hl7 ⊢
          dsimp only [List.set]
          refine ⟨.int (m : Nat), rfl, (m : Nat), rfl, by omega, by omega, ?_⟩
          show ∃ W : Nat → Nat → L2.St → Hp → Prop, _
          refine for_range (lo := 0) (n := ((m : Nat) : Int).toNat) (fun x σ H' => ∃ (ts : List Addr) (t10 : Option V), σ = [some (.ref b), some (.int (m : Nat)), some (.int (a : Nat)), some (.ref l3), some (.ref pa), some (.int (0 + (i : Nat))), some (.ref q3), some (.ref l7), some (.int back), some (.int (e1 : Nat)), t10] ∧ SameBut l7 HB H' ∧ H' l7 = some (.lst (ts.map V.ref)) ∧ Trs H' (ts.map V.ref) ((dueLoop m i back x).map itemD)) ?_ ?_ ?_
          · exact ⟨[], _, rfl, fun _ _ _ e => e, hl7, .nil⟩
          · rintro x σ HC hx ⟨ts, t10, rfl, sbC, hlC, trC⟩
            have hx' : x < m := by omega
            dsimp only [gName, List.set]
            dsimp only [tIfS, tTest, tOp, tCB, tCons, tNil]
            refine val_c _ ((val_var rfl) _ ⟨0, back, rfl, (val_var rfl) _ ⟨rfl, _, rfl, ?_⟩⟩)
            have eD : (dueLoop m i back (x + 1)).map itemD = (dueLoop m i back x).map itemD ++ [itemD (if (if (0 : Int) > back then 0 else back) = (i : Nat) then (.gives (x : Nat), [((x : Nat) : Int)], none) else (.asks "q" "find" (x : Nat), [((x : Nat) : Int)], some (4, ((i : Nat) : Int))))] := by
              unfold dueLoop
              rw [List.range_succ, List.map_append, List.map_append]
              rfl
            have e0 : (if back > 0 then back else 0) = (if (0 : Int) > back then 0 else back) := by
              split <;> split <;> omega
            have vx : ∀ H' : Hp, Val (tVar 10) [some (V.ref b), some (.int (m : Nat)), some (.int (a : Nat)), some (.ref l3), some (.ref pa), some (.int (0 + (i : Nat))), some (.ref q3), some (.ref l7), some (.int back), some (.int (e1 : Nat)), some (.int (0 + (x : Nat)))] H' (.int (x : Nat)) := fun _ => val_var (congrArg (fun z => some (some (V.int z))) (Int.zero_add ((x : Nat) : Int)))
            have vi : ∀ H' : Hp, Val (tVar 5) [some (V.ref b), some (.int (m : Nat)), some (.int (a : Nat)), some (.ref l3), some (.ref pa), some (.int (0 + (i : Nat))), some (.ref q3), some (.ref l7), some (.int back), some (.int (e1 : Nat)), some (.int (0 + (x : Nat)))] H' (.int (i : Nat)) := fun _ => val_var (congrArg (fun z => some (some (V.int z))) (Int.zero_add ((i : Nat) : Int)))
            have fewL : ((dueLoop m i back x).map itemD).length ≤ 900 := by
              rw [List.length_map, loop_len]
              omega
            by_cases c : (if (0 : Int) > back then 0 else back) = ((i : Nat) : Int)
            · rw [decide_eq_true (show V.int (if back > 0 then back else 0) = V.int (0 + (i : Nat)) by rw [e0, c, Int.zero_add])]
              refine iteT ?_
              rw [if_pos c] at eD
              refine app_item (l := l7) (val_var rfl) hlC trC fewL (fun RR h => run_gv (ta := tVar 10) (v := (x : Nat)) vx h) fun HE ts sb hl tr => ⟨ts, _, rfl, fun a1 o n1 h => sb _ _ n1 (sbC _ _ n1 h), hl, ?_⟩
              rw [eD]
              exact tr
            · rw [decide_eq_false (show ¬ V.int (if back > 0 then back else 0) = V.int (0 + (i : Nat)) from fun z => c (e0.symm.trans ((vint_inj z).trans (Int.zero_add _))))]
              refine iteF ?_
              rw [if_neg c] at eD
              refine app_item (l := l7) (val_var rfl) hlC trC fewL (fun RR h => run_as (ta := tVar 10) (ts := tVar 5) (v := (x : Nat)) (s := (i : Nat)) vx vi h) fun HE ts sb hl tr => ⟨ts, _, rfl, fun a1 o n1 h => sb _ _ n1 (sbC _ _ n1 h), hl, ?_⟩
              rw [eD]
              exact tr
          · rintro σ HC ⟨ts, t10, rfl, sbC, hlC, trC⟩
            dsimp only [tIfS, tTest, tOp, tCB, tCall, tTup, tCons, tNil]
            have sbHC : SameBut b HA HC := fun a1 o n1 h => sbC _ _ (old7 _ _ n1 h) (s7 _ _ n1 h)
            have hbC : HC b = some (.lst (bx p5 q n5)) := sbC _ _ nb7 hb7
            have prC : PrAt Pt da HC pa m _ (loopD (a : Nat)) loopPr := (PR.kp (Kp.but sbA hbM)).kp (Kp.but sbHC hbA)
            obtain ⟨R2, dR, ndR, memR, alR⟩ := loop_run (sent := i) (a := e1) (back := back) m2 m4 hi' he1 b0 b1
            refine (val_var rfl) _ ((val_var rfl) _ ⟨by show 1 ≤ sizeLine; decide, fun c1 nc1 => val_c _ ((val_var rfl) _ ⟨by show 2 ≤ sizeLine; decide, fun c2 nc2 => ⟨by show 2 ≤ sizeLine; decide, fun c3 nc3 => (val_var rfl) _ ?_⟩⟩)⟩)
            have u1 := same_upd (o := .tup [.int (e1 : Nat)]) nc1
            have u2 := same_upd (o := .tup [.int 4, .int (0 + (i : Nat))]) nc2
            have u3 := same_upd (o := .tup [.ref c1, .ref c2]) nc3
            have inE := tr2 (d := cellsD [((e1 : Nat) : Int)]) (e := waitD (some (4, 0 + ((i : Nat) : Int)))) (upd_same (H := upd (upd HC c1 (.tup [.int (e1 : Nat)])) c2 (.tup [.int 4, .int (0 + (i : Nat))])) (a := c3) (o := .tup [.ref c1, .ref c2])) (.tup (u3 _ _ (u2 _ _ upd_same)) (trs_ints [((e1 : Nat) : Int)])) (tr2 (u3 _ _ upd_same) (.int _) (.int _))
            refine ⟨pa, c3, da, m, _, loopD (a : Nat), loopPr, [((e1 : Nat) : Int)], 4, 0 + (i : Nat), back, ((2 : Nat) : Int), "q", "find", R2, rfl, ((prC.mono u1).mono u2).mono u3, inE, ⟨rfl, by show 1 ≤ 3; decide, ?_, ?_⟩, rfl, b0, b1, by rw [Int.zero_add]; exact dR, fun HF q8 sF trF => ?_⟩
            · intro z hz
              rw [List.mem_singleton.mp hz]
              omega
            · intro n v e
              injection e with e
              injection e with e1 e2
              subst e1
              exact ⟨⟨_, rfl⟩, by omega, by omega⟩
            have sFC := ((u1.trans u2).trans u3).trans sF
            have fewR : R2.length ≤ 1000 := by
              have z := nodup_len ndR fun z hz => (memR z).mp hz
              rw [loop_len] at z
              omega
            refine ⟨q8, _, rfl, trF, sh_items (fun z hz => loop_ok m4 hi' (Nat.le_refl _) z ((memR z).mp hz)) fewR, ?_⟩
            have ll : (dueLoop m i back m).length ≤ 16 := by
              rw [loop_len]
              omega
            refine (val_var rfl) _ ⟨l7, ts, dueLoop m i back m, rfl, sFC _ _ hlC, trC.mono sFC, ll, all_alike loop_alike, fun dd HG q9 nd4 mem4 sG trG => ⟨q9, _, rfl, trG, sh_items (fun z hz => loop_ok m4 hi' (Nat.le_refl _) z ((mem4 z).mp hz)) ?_, rfl, _, rfl, ?_⟩⟩
            · have z := nodup_len nd4 fun z hz => (mem4 z).mp hz
              omega
            · rw [sortB_one itemD_inj key_item (nodup_perm ndR nd4 fun x => (memR x).trans (mem4 x).symm) (all_alike alR), decide_eq_true rfl]
              refine iteF ?_
              have sCG := sFC.trans sG
              exact ⟨p5, n5, _, _, _, _, rfl, fun a1 o n1 e => sCG _ _ (sbHC _ _ n1 (sbA _ _ n1 e)), sCG _ _ hbC, B5, by omega⟩
        · rintro σ HA ⟨p4, n4, t7, t8, t9, t10, rfl, sbA, hbA, B4, le4⟩
          exact ⟨p4, n4, _, _, _, _, _, _, rfl, sbA, hbA, B4, by omega⟩
      · rintro σ H9 ⟨p3, n3, t5, t6, t7, t8, t9, t10, rfl, sb9, hb9, B3, le3⟩
        have k9 : ∀ x o, x ≠ TB → x ≠ TF → x ≠ b → H x = some o → H9 x = some o := fun x o n1 n2 n3 e => sb9 _ _ n3 (kM _ _ n3 n1 e)
        refine k H9 p3 n3 k9 ?_ ?_ hb9 B3 (by omega)
        · obtain ⟨ps, h1, h2⟩ := tabBM
          exact ⟨ps, sb9 _ _ bB.symm h1, h2⟩
        · obtain ⟨ps, h1, h2⟩ := tabF
          exact ⟨ps, sb9 _ _ bF.symm (kM _ _ bF.symm nBF.symm h1), h2⟩
end
end K5
namespace K5
open PySem PySem.Spec PyProof.Rows L2
theorem sq_keep {K : PySem.W.Frag} {H H' : Hp} {a : Addr} {xs : List V} (h : SqL K H a xs) (k : ∀ o, H a = some o → H' a = some o) : SqL K H' a xs := by
  rcases h with (h | ⟨o, h⟩) | h
  · exact .inl (.inl (k _ h))
  · exact .inl (.inr ⟨o, k _ h⟩)
  · exact .inr h
abbrev s_law : Stmt := topS 56
theorem sc_law : FnScope ["_law_script", "_law_k", "_law_box_here"] ["_law_script"] (defScope s_law) := ⟨rfl, rfl, rfl, by decide +kernel, rfl, by decide +kernel, by decide +kernel⟩
def spLaw (K : PySem.W.Frag) (TB TF : Addr) : Sp := fun vs H Q _ => ∃ (a : Addr) (ns : List Int), vs = [.ref a] ∧ SqL K H a (ns.map V.int) ∧ GxR.TabG H TB ∧ GxR.TabG H TF ∧ TB ≠ TF ∧ a ≠ TB ∧ a ≠ TF ∧ ∀ H', Q (.bl true) H'
section
variable {P : Program} {w : World} {K : PySem.W.Frag} {mg : Str → Option Value} {base : Heap} {TB TF : Addr}
theorem test_call {σ : L2.St} {H : Hp} {R : VK} {a b : Addr} {p q n : Int} {TB TF : Addr} {G : Addr → HO → Prop} (hv : σ[2]? = some (some (.ref b))) (hb : H b = some (.lst (bx p q n))) (Bx : Box p q n) (few : n ≤ 10000) (tB : GxR.TabG H TB) (tF : GxR.TabG H TF) (ne : TB ≠ TF) (aB : a ≠ TB) (aF : a ≠ TF) (ab : ∀ o, G a o → a ≠ b) (kS : ∀ o, G a o → H a = some o)
    (k : ∀ (H' : Hp) (p' n' : Int), H' b = some (.lst (bx p' q n')) → Box p' q n' → n' ≤ n + 1000 → GxR.TabG H' TB → GxR.TabG H' TF → (∀ o, G a o → H' a = some o) → R (.bl true) H') : tCall (spTest TB TF) [] E0 (tCons (tVar 2) tNil) σ H R := by
  dsimp only [tCall, tCons, tNil]
  refine (val_var hv) _ ⟨b, p, q, n, rfl, hb, Bx, by omega, tB, tF, ne, fun H' p' n' kx t1 t2 hb' B' le => k H' p' n' hb' B' le t1 t2 fun o e => kx _ _ aB aF (ab o e) (kS o e)⟩
theorem ok_law {f fB f1 f2 f3 f4 : Addr} {fd dB d1 d2 d3 d4 : FuncData} (B : Bt mg) (DB : Df K mg "_law_box" s__law_box fB dB ["_law_script", "_law_k"]) (GB : FnOk P w K mg base CX0 1 fB dB ["_law_script", "_law_k"] (spBox K))
    (D1 : Df K mg "_law_draws_right" s__law_draws_right f1 d1 ["_law_box_here"]) (G1 : FnG P w K mg base (L2.CX P w) 24 f1 d1 ["_law_box_here"] (spTest TB TF))
    (D2 : Df K mg "_law_many_draws_right" s__law_many_draws_right f2 d2 ["_law_box_here"]) (G2 : FnG P w K mg base (L2.CX P w) 24 f2 d2 ["_law_box_here"] (spTest TB TF))
    (D3 : Df K mg "_law_loop_right" s__law_loop_right f3 d3 ["_law_box_here"]) (G3 : FnG P w K mg base (L2.CX P w) 24 f3 d3 ["_law_box_here"] (spTest TB TF))
    (D4 : Df K mg "_law_lost_right" s__law_lost_right f4 d4 ["_law_box_here"]) (G4 : FnG P w K mg base (L2.CX P w) 24 f4 d4 ["_law_box_here"] (spTest TB TF))
    (F : Fun K "law" "law" s_law f fd) : FnG P w K mg base (L2.CX P w) 27 f fd ["_law_script"] (spLaw K TB TF) := by
  refine okG F sc_law (fun vs H Q E h => ?_) (fun cdv A outer s H vs Q E gu hr h => ?_)
  · obtain ⟨a, ns, rfl, _⟩ := h
    rfl
  · obtain ⟨a, ns, rfl, hS, tabB, tabF, nBF, aB, aF, k⟩ := h
    have S := sc_law
    refine ⟨_, (pss_cons (ps_for (passes_of rfl) rfl (pi_range1 (by rfl) B.m_range (pa_cons (pe_callB (call_max2 rfl) (by rfl) B.m_max (by decide +kernel) (pa_cons pe_int (pa_cons (pe_callB (call_min2 rfl) (by rfl) B.m_min (by decide +kernel) (pa_cons pe_int (pa_cons (pe_callB call_len_seq (by rfl) B.m_len PySem.boot_len (pa_cons (pv 0) pa_nil)) pa_nil))) pa_nil))) pa_nil)) (pg_name (i := 1) S.nd rfl (.inl rfl))
        (pss_cons (ps_set (i := 2) S.nd rfl (.inl rfl) (pe_call GB (hr.mono (by decide)) (by rfl) DB.g DB.F.kp DB.b .nil pass0 (pa_cons (pv 0) (pa_cons (pv 1) pa_nil))))
        (pss_cons (ps_if (PW.pt (pw_or (pt_not (pt_val (pe_callG G1 gu (hr.mono (by decide)) (by rfl) D1.g D1.F.kp D1.b passL (pa_cons (pv 2) pa_nil)))) (pw_or1 (pt_not (pt_val (pe_callG G2 gu (hr.mono (by decide)) (by rfl) D2.g D2.F.kp D2.b passL (pa_cons (pv 2) pa_nil))))))) (pss_one (ps_ret pe_bl)) pss_nil)
        (pss_one (ps_if (PW.pt (pw_or (pt_not (pt_val (pe_callG G3 gu (hr.mono (by decide)) (by rfl) D3.g D3.F.kp D3.b passL (pa_cons (pv 2) pa_nil)))) (pw_or1 (pt_not (pt_val (pe_callG G4 gu (hr.mono (by decide)) (by rfl) D4.g D4.F.kp D4.b passL (pa_cons (pv 2) pa_nil))))))) (pss_one (ps_ret pe_bl)) pss_nil)))))
      (pss_one (ps_ret pe_bl))), ?_⟩
    dsimp only [tSeq, tFor, iRng1, tCB, tCons, tNil]
    refine val_c _ ?_
    refine val_c _ ?_
    refine (val_var rfl) _ ?_
    refine ⟨a, _, rfl, .inl hS, ?_⟩
    refine ⟨3, _, rfl, ?_⟩
    refine ⟨1, _, rfl, ?_⟩
    generalize hj : (if (if (((ns.map V.int).length : Nat) : Int) < 3 then (((ns.map V.int).length : Nat) : Int) else 3) > 1 then (if (((ns.map V.int).length : Nat) : Int) < 3 then (((ns.map V.int).length : Nat) : Int) else 3) else 1) = j
    have j1 : 1 ≤ j ∧ j ≤ 3 := by
      rw [← hj]
      split <;> split <;> omega
    refine ⟨j, rfl, by omega, by omega, ?_⟩
    refine for_range (D := { nx := tRet (tC (.bl true)) { nx := fun _ G2 => Q .non G2, rt := Q }, rt := Q }) (g := gName 1) (tb := tSeq (tAsg (tCall (spBox K) [] E0 (tCons (tVar 0) (tCons (tVar 1) tNil))) (gName 2)) (tSeq (tIfS (tOr (tNot (tB (tCall (spTest TB TF) [] E0 (tCons (tVar 2) tNil)))) (tNot (tB (tCall (spTest TB TF) [] E0 (tCons (tVar 2) tNil))))) (tRet (tC (.bl false))) tNext) (tIfS (tOr (tNot (tB (tCall (spTest TB TF) [] E0 (tCons (tVar 2) tNil)))) (tNot (tB (tCall (spTest TB TF) [] E0 (tCons (tVar 2) tNil))))) (tRet (tC (.bl false))) tNext))) (lo := 0) (n := j.toNat) (fun i σ' H' => (∃ v1 v2, σ' = [some (.ref a), v1, v2]) ∧ (∀ o, H a = some o → H' a = some o) ∧ GxR.TabG H' TB ∧ GxR.TabG H' TF) ⟨⟨none, none, rfl⟩, fun o e => e, tabB, tabF⟩ (fun i σ' H' hi h => ?_) (fun σ' H' h => ?_)
    · obtain ⟨⟨v1, v2, rfl⟩, kS, tB, tF⟩ := h
      try dsimp only [gName]
      try dsimp only [tSeq, tAsg]
      try dsimp only [tCall, tCons, tNil]
      refine (val_var rfl) _ ?_
      refine (val_var rfl) _ ?_
      refine ⟨a, ns, 0 + (i : Int), rfl, sq_keep hS kS, by omega, by omega, fun b p q nb Bx => ?_⟩
      have s1 := same_upd (o := .lst (bx p q 0)) nb
      have hb : (upd H' b (.lst (bx p q 0))) b = some (.lst (bx p q 0)) := upd_same
      have ab : ∀ o, H a = some o → a ≠ b := fun o e => ne_of_none (kS o e) nb
      generalize (upd H' b (.lst (bx p q 0))) = H1 at s1 hb ⊢
      have tB1 := TabG.keep tB s1
      have tF1 := TabG.keep tF s1
      have kS1 : ∀ o, H a = some o → H1 a = some o := fun o e => s1 _ _ (kS o e)
      dsimp only [gName, List.set]
      dsimp only [tSeq, tIfS]
      dsimp only [tOr, tNot, tB]
      refine test_call (a := a) (G := fun x o => x = a ∧ H a = some o) rfl hb Bx (by omega) tB1 tF1 nBF aB aF (fun o e => ab o e.2) (fun o e => kS1 o e.2) fun H2 p2 n2 hb2 B2 le2 tB2 tF2 kS2 => ⟨_, rfl, ?_⟩
      refine iteF ?_
      refine test_call (a := a) (G := fun x o => x = a ∧ H a = some o) rfl hb2 B2 (by omega) tB2 tF2 nBF aB aF (fun o e => ab o e.2) kS2 fun H3 p3 n3 hb3 B3 le3 tB3 tF3 kS3 => ⟨_, rfl, ?_⟩
      refine iteF ?_
      dsimp only [tNext]
      dsimp only [tIfS, tOr, tNot, tB]
      refine test_call (a := a) (G := fun x o => x = a ∧ H a = some o) rfl hb3 B3 (by omega) tB3 tF3 nBF aB aF (fun o e => ab o e.2) kS3 fun H4 p4 n4 hb4 B4 le4 tB4 tF4 kS4 => ⟨_, rfl, ?_⟩
      refine iteF ?_
      refine test_call (a := a) (G := fun x o => x = a ∧ H a = some o) rfl hb4 B4 (by omega) tB4 tF4 nBF aB aF (fun o e => ab o e.2) kS4 fun H5 p5 n5 hb5 B5 le5 tB5 tF5 kS5 => ⟨_, rfl, ?_⟩
      refine iteF ?_
      exact ⟨⟨_, _, rfl⟩, fun o e => kS5 o ⟨rfl, e⟩, tB5, tF5⟩
    · exact k H'
end
end K5
namespace K5
open PySem PySem.Spec PyProof.Rows L2
/-! ### the head's facts, by names -/
/-- a class of errors, as it is written -/
def oexB (K : PySem.W.Frag) (C : Addr) : Bool := match K.lookup C with
  | some ⟨.type t, _, .cls ⟨_, _, mro, _, _, hd, _, _, _, _, del⟩, sl⟩ => decide (t = "type") && (hd && (!del && ((match mro with
      | .ref c :: bm => decide (c = C) && PySem.HandSPX.refsVE bm
      | _ => false) && (match sl.toList with
      | [_, _, _, _, some (.builtin n), _] => decide (n = "ValueError.__new__")
      | _ => false))))
  | _ => false
theorem oexB_ok {K : PySem.W.Frag} {C : Addr} (h : oexB K C = true) : ∃ nm q N bs bm sn sub ab col dd k0 k1 k2 k3 k5, K.lookup C = some (excClassObj nm q C N bs bm true sn sub ab col dd k0 k1 k2 k3 k5 "ValueError.__new__") ∧ PySem.HandSPX.refsVE bm = true := by
  unfold oexB at h
  split at h
  · rename_i t dd nm bs mro N qn hd sn sub ab col del sl lk
    rw [Bool.and_eq_true, Bool.and_eq_true, Bool.and_eq_true, Bool.and_eq_true] at h
    obtain ⟨h1, h2, h3, h4, h5⟩ := h
    split at h4
    · rename_i c bm
      rw [Bool.and_eq_true] at h4
      split at h5
      · rename_i k0 k1 k2 k3 n k5 e
        have e1 : t = "type" := of_decide_eq_true h1
        have e2 : c = C := of_decide_eq_true h4.1
        have e3 : n = "ValueError.__new__" := of_decide_eq_true h5
        have e4 : hd = true := h2
        have e5 : del = false := by
          cases del
          · rfl
          · cases h3
        have e6 : sl = #[k0, k1, k2, k3, some (.builtin n), k5] := by
          rw [← Array.toList_inj, e]
        subst e1 e2 e3 e4 e5 e6
        exact ⟨nm, qn, N, bs, bm, sn, sub, ab, col, dd, k0, k1, k2, k3, k5, lk, h4.2⟩
      · cases h5
    · cases h4
  · cases h
/-- what else is asked of the classes of errors -/
def errL (K : PySem.W.Frag) (x : Str) : List Bool := [oexB K (He.ga K x), decide (PySem.W.findIn K (.ref (He.ga K x)) "__setattr__" = some (some (.builtin "object.__setattr__"))), decide (PySem.W.subIn K (.ref (He.ga K x)) (.type "BaseException") = some true), decide (PySem.W.typeIn K (.ref (He.ga K x)) = some (.type "type")), PySem.W.keepIn K (.ref (He.ga K x)),
  decide (PySem.W.findIn K (.ref (He.ga K x)) "__init__" = some (some (.ref (He.ma K (He.ga K "WireError") "__init__")))), decide (PySem.W.findIn K (.ref (He.ga K x)) "value" = some none), true,
  decide (PySem.W.findIn K (.ref (He.ga K x)) "__class__" = some (some (.builtin "object.__class__"))), decide (PySem.W.mroIn K (He.ga K x) (.type "object") = some true), decide (PySem.W.exmOne K (.ref (He.ga K x)) (.ref (He.ga K "WireError")) = some true),
  decide (PySem.W.kitOne K (.ref (He.ga K x)) (.type "ValueError") = some true)]
def exL (K : PySem.W.Frag) : List Bool := [(errL K "BadText").all id, (errL K "BadWorths").all id, decide (PySem.W.typeIn K (.ref (He.ma K (He.ga K "WireError") "__init__")) = some (.type "function")),
  decide (PySem.W.specialIn K (.builtin "object.__class__") "__get__" = some (some (.builtin "getset_descriptor.__get__"))), decide (PySem.W.takesIn K (.builtin "object.__class__") = some true),
  decide (PySem.W.kitOne K (.ref (He.ga K "BadText")) (.ref (He.ga K "BadText")) = some true), decide (PySem.W.kitOne K (.ref (He.ga K "BadText")) (.ref (He.ga K "BadWorths")) = some false), decide (PySem.W.kitOne K (.ref (He.ga K "BadWorths")) (.ref (He.ga K "BadText")) = some false), decide (PySem.W.kitOne K (.ref (He.ga K "BadWorths")) (.ref (He.ga K "BadWorths")) = some true),
  He.tupB K "BARRED_CELLS" [.str "it", .str "got", .str "lost", .str "busy"], decide ((He.cT K ("Part", some "__init__")).2 ≠ (He.cT K ("first_inner", none)).2)]
def exB (K : PySem.W.Frag) : Bool := (exL K).all id
theorem all_at {l : List Bool} (h : l.all id = true) (i : Nat) {b : Bool} (e : l[i]? = some b) : b = true := List.all_eq_true.mp h b (List.mem_of_getElem? e)
def faL : List He.Fa := [
  (.glo "is_integer"),
  (.glo "is_below"),
  (.glo "is_worths"),
  (.glo "is_answer"),
  (.glo "is_name"),
  (.glo "is_door"),
  (.glo "is_tuple"),
  (.glo "number"),
  (.glo "first_inner"),
  (.glo "called"),
  (.glo "answered"),
  (.glo "is_inner"),
  (.glo "is_wait"),
  (.glo "deeds_from"),
  (.glo "deed_of"),
  (.glo "places_behind"),
  (.glo "worth_of"),
  (.glo "holds"),
  (.glo "put"),
  (.glo "read_cells"),
  (.glo "read_ports"),
  (.glo "read_doors"),
  (.glo "_law_box"),
  (.glo "_law_take"),
  (.glo "_law_of"),
  (.glo "_law_some"),
  (.glo "_law_told"),
  (.glo "_law_draws_right"),
  (.glo "_law_many_draws_right"),
  (.glo "_law_loop_right"),
  (.glo "_law_lost_right"),
  (.glo "law"),
  (.glo "WireError"),
  (.glo "BadText"),
  (.glo "BadWorths"),
  (.glo "Lines"),
  (.glo "Program"),
  (.glo "Part"),
  (.glo "BARRED_CELLS"),
  (.free "int"),
  (.free "len"),
  (.free "abs"),
  (.free "max"),
  (.free "min"),
  (.free "list"),
  (.free "str"),
  (.free "bool"),
  (.free "range"),
  (.free "isinstance"),
  (.free "tuple"),
  (.free "repr"),
  (.free "all"),
  (.free "sorted"),
  (.free "set"),
  (.int "LOST" (-1)),
  (.int "BUSY" (-2)),
  (.int "MOST_IN_BLOCK" 8),
  (.int "MOST_STATEMENTS" 24),
  (.int "DEEPEST" 3),
  (.int "MOST_CELLS" 3),
  (.int "MOST_PORTS" 2),
  (.int "MOST_DOORS" 3),
  (.cls "Lines"),
  (.mkr "Lines"),
  (.cls "Program"),
  (.mkr "Program"),
  (.cls "Part"),
  (.mkr "Part"),
  (.noat "Lines" "rows"),
  (.noat "Lines" "at"),
  (.noat "Program" "lines"),
  (.noat "Program" "worths"),
  (.noat "Program" "cells"),
  (.noat "Program" "ports"),
  (.noat "Program" "steps"),
  (.noat "Program" "asks"),
  (.noat "Program" "many"),
  (.noat "Part" "worths"),
  (.noat "Part" "text"),
  (.noat "Part" "cells"),
  (.noat "Part" "ports"),
  (.noat "Part" "starts"),
  (.noat "Part" "doors"),
  (.noat "Part" "steps"),
  (.noat "Part" "asks"),
  (.meth "Lines" "words"),
  (.meth "Lines" "begins"),
  (.meth "Lines" "step"),
  (.meth "Lines" "need"),
  (.meth "Lines" "need_end"),
  (.meth "Program" "read_door"),
  (.meth "Program" "read_block"),
  (.meth "Program" "read_statement"),
  (.meth "Program" "read_if"),
  (.meth "Program" "read_while"),
  (.meth "Program" "read_head"),
  (.meth "Program" "plain_step"),
  (.meth "Program" "ask_step"),
  (.meth "Program" "cell"),
  (.meth "Program" "source"),
  (.meth "Program" "condition")]
def d0 : He.DefD := ⟨("is_integer", none), "is_integer", "is_integer", defArgs s_is_integer, defBody s_is_integer, defScope s_is_integer, [], []⟩
def d1 : He.DefD := ⟨("is_below", none), "is_below", "is_below", defArgs s_is_below, defBody s_is_below, defScope s_is_below, [], []⟩
def d2 : He.DefD := ⟨("is_worths", none), "is_worths", "is_worths", defArgs s_is_worths, defBody s_is_worths, defScope s_is_worths, [], []⟩
def d3 : He.DefD := ⟨("is_answer", none), "is_answer", "is_answer", defArgs s_is_answer, defBody s_is_answer, defScope s_is_answer, [], []⟩
def d4 : He.DefD := ⟨("is_name", none), "is_name", "is_name", defArgs s_is_name, defBody s_is_name, defScope s_is_name, [], []⟩
def d5 : He.DefD := ⟨("is_door", none), "is_door", "is_door", defArgs s_is_door, defBody s_is_door, defScope s_is_door, [], []⟩
def d6 : He.DefD := ⟨("is_tuple", none), "is_tuple", "is_tuple", defArgs s_is_tuple, defBody s_is_tuple, defScope s_is_tuple, [], []⟩
def d7 : He.DefD := ⟨("number", none), "number", "number", defArgs s_number, defBody s_number, defScope s_number, [], []⟩
def d8 : He.DefD := ⟨("first_inner", none), "first_inner", "first_inner", defArgs s_first_inner, defBody s_first_inner, defScope s_first_inner, [], []⟩
def d9 : He.DefD := ⟨("called", none), "called", "called", defArgs s_called, defBody s_called, defScope s_called, [], []⟩
def d10 : He.DefD := ⟨("answered", none), "answered", "answered", defArgs s_answered, defBody s_answered, defScope s_answered, [], []⟩
def d11 : He.DefD := ⟨("is_inner", none), "is_inner", "is_inner", defArgs s_is_inner, defBody s_is_inner, defScope s_is_inner, [], []⟩
def d12 : He.DefD := ⟨("is_wait", none), "is_wait", "is_wait", defArgs s_is_wait, defBody s_is_wait, defScope s_is_wait, [], []⟩
def d13 : He.DefD := ⟨("deeds_from", none), "deeds_from", "deeds_from", defArgs s_deeds_from, defBody s_deeds_from, defScope s_deeds_from, [], []⟩
def d14 : He.DefD := ⟨("deed_of", none), "deed_of", "deed_of", defArgs s_deed_of, defBody s_deed_of, defScope s_deed_of, [], []⟩
def d15 : He.DefD := ⟨("places_behind", none), "places_behind", "places_behind", defArgs s_places_behind, defBody s_places_behind, defScope s_places_behind, [], []⟩
def d16 : He.DefD := ⟨("worth_of", none), "worth_of", "worth_of", defArgs s_worth_of, defBody s_worth_of, defScope s_worth_of, [], []⟩
def d17 : He.DefD := ⟨("holds", none), "holds", "holds", defArgs s_holds, defBody s_holds, defScope s_holds, [], []⟩
def d18 : He.DefD := ⟨("put", none), "put", "put", defArgs s_put, defBody s_put, defScope s_put, [], []⟩
def d19 : He.DefD := ⟨("read_cells", none), "read_cells", "read_cells", defArgs s_read_cells, defBody s_read_cells, defScope s_read_cells, [], []⟩
def d20 : He.DefD := ⟨("read_ports", none), "read_ports", "read_ports", defArgs s_read_ports, defBody s_read_ports, defScope s_read_ports, [], []⟩
def d21 : He.DefD := ⟨("read_doors", none), "read_doors", "read_doors", defArgs s_read_doors, defBody s_read_doors, defScope s_read_doors, [], []⟩
def d22 : He.DefD := ⟨("_law_box", none), "_law_box", "_law_box", defArgs s__law_box, defBody s__law_box, defScope s__law_box, [], []⟩
def d23 : He.DefD := ⟨("_law_take", none), "_law_take", "_law_take", defArgs sTake, defBody sTake, defScope sTake, [], []⟩
def d24 : He.DefD := ⟨("_law_of", none), "_law_of", "_law_of", defArgs s__law_of, defBody s__law_of, defScope s__law_of, [], []⟩
def d25 : He.DefD := ⟨("_law_some", none), "_law_some", "_law_some", defArgs s__law_some, defBody s__law_some, defScope s__law_some, [], []⟩
def d26 : He.DefD := ⟨("_law_told", none), "_law_told", "_law_told", defArgs s__law_told, defBody s__law_told, defScope s__law_told, [], []⟩
def d27 : He.DefD := ⟨("_law_draws_right", none), "_law_draws_right", "_law_draws_right", defArgs s__law_draws_right, defBody s__law_draws_right, defScope s__law_draws_right, [], []⟩
def d28 : He.DefD := ⟨("_law_many_draws_right", none), "_law_many_draws_right", "_law_many_draws_right", defArgs s__law_many_draws_right, defBody s__law_many_draws_right, defScope s__law_many_draws_right, [], []⟩
def d29 : He.DefD := ⟨("_law_loop_right", none), "_law_loop_right", "_law_loop_right", defArgs s__law_loop_right, defBody s__law_loop_right, defScope s__law_loop_right, [], []⟩
def d30 : He.DefD := ⟨("_law_lost_right", none), "_law_lost_right", "_law_lost_right", defArgs s__law_lost_right, defBody s__law_lost_right, defScope s__law_lost_right, [], []⟩
def d31 : He.DefD := ⟨("law", none), "law", "law", defArgs s_law, defBody s_law, defScope s_law, [], []⟩
def d32 : He.DefD := ⟨("WireError", some "__init__"), "__init__", "WireError.__init__", defArgs s_err, defBody s_err, defScope s_err, [], []⟩
def d33 : He.DefD := ⟨("Lines", some "__init__"), "__init__", "Lines.__init__", defArgs s_Lines___init__, defBody s_Lines___init__, defScope s_Lines___init__, [], []⟩
def d34 : He.DefD := ⟨("Lines", some "words"), "words", "Lines.words", defArgs s_Lines_words, defBody s_Lines_words, defScope s_Lines_words, [], []⟩
def d35 : He.DefD := ⟨("Lines", some "begins"), "begins", "Lines.begins", defArgs s_Lines_begins, defBody s_Lines_begins, defScope s_Lines_begins, [], []⟩
def d36 : He.DefD := ⟨("Lines", some "step"), "step", "Lines.step", defArgs s_Lines_step, defBody s_Lines_step, defScope s_Lines_step, [], []⟩
def d37 : He.DefD := ⟨("Lines", some "need"), "need", "Lines.need", defArgs s_Lines_need, defBody s_Lines_need, defScope s_Lines_need, [], []⟩
def d38 : He.DefD := ⟨("Lines", some "need_end"), "need_end", "Lines.need_end", defArgs s_Lines_need_end, defBody s_Lines_need_end, defScope s_Lines_need_end, [], []⟩
def d39 : He.DefD := ⟨("Program", some "__init__"), "__init__", "Program.__init__", defArgs s_Program___init__, defBody s_Program___init__, defScope s_Program___init__, [], []⟩
def d40 : He.DefD := ⟨("Program", some "read_door"), "read_door", "Program.read_door", defArgs s_Program_read_door, defBody s_Program_read_door, defScope s_Program_read_door, [], []⟩
def d41 : He.DefD := ⟨("Program", some "read_block"), "read_block", "Program.read_block", defArgs s_Program_read_block, defBody s_Program_read_block, defScope s_Program_read_block, [], []⟩
def d42 : He.DefD := ⟨("Program", some "read_statement"), "read_statement", "Program.read_statement", defArgs s_Program_read_statement, defBody s_Program_read_statement, defScope s_Program_read_statement, [], []⟩
def d43 : He.DefD := ⟨("Program", some "read_if"), "read_if", "Program.read_if", defArgs s_Program_read_if, defBody s_Program_read_if, defScope s_Program_read_if, [], []⟩
def d44 : He.DefD := ⟨("Program", some "read_while"), "read_while", "Program.read_while", defArgs s_Program_read_while, defBody s_Program_read_while, defScope s_Program_read_while, [], []⟩
def d45 : He.DefD := ⟨("Program", some "read_head"), "read_head", "Program.read_head", defArgs s_Program_read_head, defBody s_Program_read_head, defScope s_Program_read_head, [], []⟩
def d46 : He.DefD := ⟨("Program", some "plain_step"), "plain_step", "Program.plain_step", defArgs s_Program_plain_step, defBody s_Program_plain_step, defScope s_Program_plain_step, [], []⟩
def d47 : He.DefD := ⟨("Program", some "ask_step"), "ask_step", "Program.ask_step", defArgs s_Program_ask_step, defBody s_Program_ask_step, defScope s_Program_ask_step, [], []⟩
def d48 : He.DefD := ⟨("Program", some "cell"), "cell", "Program.cell", defArgs s_Program_cell, defBody s_Program_cell, defScope s_Program_cell, [], []⟩
def d49 : He.DefD := ⟨("Program", some "source"), "source", "Program.source", defArgs s_Program_source, defBody s_Program_source, defScope s_Program_source, [], []⟩
def d50 : He.DefD := ⟨("Program", some "condition"), "condition", "Program.condition", defArgs s_Program_condition, defBody s_Program_condition, defScope s_Program_condition, [], []⟩
def d51 : He.DefD := ⟨("Part", some "__init__"), "__init__", "Part.__init__", defArgs s_Part___init__, defBody s_Part___init__, defScope s_Part___init__, [], []⟩
def fnL : List He.DefD := [d0, d1, d2, d3, d4, d5, d6, d7, d8, d9, d10, d11, d12, d13, d14, d15, d16, d17, d18, d19, d20, d21, d22, d23, d24, d25, d26, d27, d28, d29, d30, d31, d32, d33, d34, d35, d36, d37, d38, d39, d40, d41, d42, d43, d44, d45, d46, d47, d48, d49, d50, d51]
abbrev tfL : List He.Defn := [("Part", some "__init__"), ("first_inner", none)]
theorem funOf {K : PySem.W.Frag} {x qual : Str} {st : Stmt} {f : Addr} {fd : FuncData} (F : FunD K x qual (defArgs st) (defBody st) (defScope st) [] [] f fd) : Fun K x qual st f fd := by
  obtain ⟨oc, od, dV, kV, doc, pm, an, cd, ct, sl, e, lk, hc, hD, _⟩ := F.ex
  rcases hD with ⟨_, rfl⟩ | ⟨z, _⟩
  · exact ⟨⟨oc, od, kV, doc, pm, an, cd, ct, sl, e, lk, hc⟩, F.kp⟩
  · exact absurd rfl z
theorem funTOf {K : PySem.W.Frag} {x qual : Str} {st : Stmt} {p : He.Defn} {fd : FuncData} (F : FunD K x qual (defArgs st) (defBody st) (defScope st) [] [] (He.fAd K p) fd) : FunT K x qual st (He.fAd K p) fd (He.codeOf K p) := by
  obtain ⟨oc, od, dV, kV, doc, pm, an, cd, ct, sl, e, lk, hc, hD, _⟩ := F.ex
  rcases hD with ⟨_, rfl⟩ | ⟨z, _⟩
  · obtain ⟨c, rfl⟩ := He.codeIn_ref hc
    have q := He.codeOf_eq (c := c) lk (by rw [e])
    rw [q]
    exact ⟨⟨oc, od, kV, doc, pm, an, ct, sl, e, lk, hc⟩, F.kp⟩
  · exact absurd rfl z
section
variable {K : PySem.W.Frag} {w : World} {h : Heap} {mg : Str → Option Value}
theorem er_of {x : Str} (X : K.In h) (G : h.Ns mainGlobals mg) (g : mg x = some (.ref (He.ga K x))) (e : (errL K x).all id = true) (e2 : (exL K).all id = true) : Er K mg x (He.ga K x) (He.ma K (He.ga K "WireError") "__init__") where
  O := ⟨oexB_ok (all_at e 0 rfl), of_decide_eq_true (all_at e 1 rfl), of_decide_eq_true (all_at e 2 rfl), of_decide_eq_true (all_at e 3 rfl), all_at e 4 rfl⟩
  g := g
  iC := of_decide_eq_true (all_at e 5 rfl)
  tI := of_decide_eq_true (all_at e2 2 rfl)
  nv := of_decide_eq_true (all_at e 6 rfl)
theorem all_mk {P : Program} {f : Addr} (X : K.In h) (G : h.Ns mainGlobals mg) (hf : mg ("law" : Str) = some (.ref f)) (c : He.SaysD faL fnL K) (e2 : exB K = true) :
    ∃ fd : FuncData, (∀ (s : Shared) (v : Value), BindsTo s fd ⟨[v], []⟩ [("_law_script", v)]) ∧ ∀ base : Heap, K.In base → base.Ns mainGlobals mg → GxR.TabB base mg (He.codeOf K ("Part", some "__init__")) (He.cT K ("Part", some "__init__")).2 → GxR.TabB base mg (He.codeOf K ("first_inner", none)) (He.cT K ("first_inner", none)).2 →
      FnG P w K mg base (L2.CX P w) 27 f fd ["_law_script"] (spLaw K (He.cT K ("Part", some "__init__")).2 (He.cT K ("first_inner", none)).2) := by
  have eT : (errL K "BadText").all id = true := all_at e2 0 rfl
  have eW : (errL K "BadWorths").all id = true := all_at e2 1 rfl
  have Bt0 : Bt mg := { m_int := He.free_ok X G (c.fact 39 (f := .free "int") rfl), m_len := He.free_ok X G (c.fact 40 (f := .free "len") rfl), m_abs := He.free_ok X G (c.fact 41 (f := .free "abs") rfl), m_max := He.free_ok X G (c.fact 42 (f := .free "max") rfl), m_min := He.free_ok X G (c.fact 43 (f := .free "min") rfl), m_list := He.free_ok X G (c.fact 44 (f := .free "list") rfl), m_str := He.free_ok X G (c.fact 45 (f := .free "str") rfl), m_bool := He.free_ok X G (c.fact 46 (f := .free "bool") rfl), m_range := He.free_ok X G (c.fact 47 (f := .free "range") rfl), m_isinstance := He.free_ok X G (c.fact 48 (f := .free "isinstance") rfl), m_tuple := He.free_ok X G (c.fact 49 (f := .free "tuple") rfl), m_repr := He.free_ok X G (c.fact 50 (f := .free "repr") rfl) }
  obtain ⟨k0, F0⟩ := c.def_ 0 (d := d0) rfl
  obtain ⟨k1, F1⟩ := c.def_ 1 (d := d1) rfl
  obtain ⟨k2, F2⟩ := c.def_ 2 (d := d2) rfl
  obtain ⟨k3, F3⟩ := c.def_ 3 (d := d3) rfl
  obtain ⟨k4, F4⟩ := c.def_ 4 (d := d4) rfl
  obtain ⟨k5, F5⟩ := c.def_ 5 (d := d5) rfl
  obtain ⟨k6, F6⟩ := c.def_ 6 (d := d6) rfl
  obtain ⟨k7, F7⟩ := c.def_ 7 (d := d7) rfl
  obtain ⟨k8, F8⟩ := c.def_ 8 (d := d8) rfl
  obtain ⟨k9, F9⟩ := c.def_ 9 (d := d9) rfl
  obtain ⟨k10, F10⟩ := c.def_ 10 (d := d10) rfl
  obtain ⟨k11, F11⟩ := c.def_ 11 (d := d11) rfl
  obtain ⟨k12, F12⟩ := c.def_ 12 (d := d12) rfl
  obtain ⟨k13, F13⟩ := c.def_ 13 (d := d13) rfl
  obtain ⟨k14, F14⟩ := c.def_ 14 (d := d14) rfl
  obtain ⟨k15, F15⟩ := c.def_ 15 (d := d15) rfl
  obtain ⟨k16, F16⟩ := c.def_ 16 (d := d16) rfl
  obtain ⟨k17, F17⟩ := c.def_ 17 (d := d17) rfl
  obtain ⟨k18, F18⟩ := c.def_ 18 (d := d18) rfl
  obtain ⟨k19, F19⟩ := c.def_ 19 (d := d19) rfl
  obtain ⟨k20, F20⟩ := c.def_ 20 (d := d20) rfl
  obtain ⟨k21, F21⟩ := c.def_ 21 (d := d21) rfl
  obtain ⟨k22, F22⟩ := c.def_ 22 (d := d22) rfl
  obtain ⟨k23, F23⟩ := c.def_ 23 (d := d23) rfl
  obtain ⟨k24, F24⟩ := c.def_ 24 (d := d24) rfl
  obtain ⟨k25, F25⟩ := c.def_ 25 (d := d25) rfl
  obtain ⟨k26, F26⟩ := c.def_ 26 (d := d26) rfl
  obtain ⟨k27, F27⟩ := c.def_ 27 (d := d27) rfl
  obtain ⟨k28, F28⟩ := c.def_ 28 (d := d28) rfl
  obtain ⟨k29, F29⟩ := c.def_ 29 (d := d29) rfl
  obtain ⟨k30, F30⟩ := c.def_ 30 (d := d30) rfl
  obtain ⟨k31, F31⟩ := c.def_ 31 (d := d31) rfl
  obtain ⟨k32, F32⟩ := c.def_ 32 (d := d32) rfl
  obtain ⟨k33, F33⟩ := c.def_ 33 (d := d33) rfl
  obtain ⟨k34, F34⟩ := c.def_ 34 (d := d34) rfl
  obtain ⟨k35, F35⟩ := c.def_ 35 (d := d35) rfl
  obtain ⟨k36, F36⟩ := c.def_ 36 (d := d36) rfl
  obtain ⟨k37, F37⟩ := c.def_ 37 (d := d37) rfl
  obtain ⟨k38, F38⟩ := c.def_ 38 (d := d38) rfl
  obtain ⟨k39, F39⟩ := c.def_ 39 (d := d39) rfl
  obtain ⟨k40, F40⟩ := c.def_ 40 (d := d40) rfl
  obtain ⟨k41, F41⟩ := c.def_ 41 (d := d41) rfl
  obtain ⟨k42, F42⟩ := c.def_ 42 (d := d42) rfl
  obtain ⟨k43, F43⟩ := c.def_ 43 (d := d43) rfl
  obtain ⟨k44, F44⟩ := c.def_ 44 (d := d44) rfl
  obtain ⟨k45, F45⟩ := c.def_ 45 (d := d45) rfl
  obtain ⟨k46, F46⟩ := c.def_ 46 (d := d46) rfl
  obtain ⟨k47, F47⟩ := c.def_ 47 (d := d47) rfl
  obtain ⟨k48, F48⟩ := c.def_ 48 (d := d48) rfl
  obtain ⟨k49, F49⟩ := c.def_ 49 (d := d49) rfl
  obtain ⟨k50, F50⟩ := c.def_ 50 (d := d50) rfl
  obtain ⟨k51, F51⟩ := c.def_ 51 (d := d51) rfl
  have e := hf.symm.trans (He.glo_ok X G (c.fact 31 (f := .glo "law") rfl))
  cases e
  have b0 : Binds K k0 ["value"] [] := FunD.bindsN F0 fun _ _ _ _ _ _ us hl => match us, hl with | [_], _ => rfl
  have D0 : Df K mg "is_integer" s_is_integer (He.fAd K ("is_integer", none)) k0 ["value"] := ⟨funOf (st := s_is_integer) F0, He.glo_ok X G (c.fact 0 (f := .glo "is_integer") rfl), b0⟩
  have b1 : Binds K k1 ["value", "many"] [] := FunD.bindsN F1 fun _ _ _ _ _ _ us hl => match us, hl with | [_, _], _ => rfl
  have D1 : Df K mg "is_below" s_is_below (He.fAd K ("is_below", none)) k1 ["value", "many"] := ⟨funOf (st := s_is_below) F1, He.glo_ok X G (c.fact 1 (f := .glo "is_below") rfl), b1⟩
  have b2 : Binds K k2 ["value"] [] := FunD.bindsN F2 fun _ _ _ _ _ _ us hl => match us, hl with | [_], _ => rfl
  have D2 : Df K mg "is_worths" s_is_worths (He.fAd K ("is_worths", none)) k2 ["value"] := ⟨funOf (st := s_is_worths) F2, He.glo_ok X G (c.fact 2 (f := .glo "is_worths") rfl), b2⟩
  have b3 : Binds K k3 ["value", "worths"] [] := FunD.bindsN F3 fun _ _ _ _ _ _ us hl => match us, hl with | [_, _], _ => rfl
  have D3 : Df K mg "is_answer" s_is_answer (He.fAd K ("is_answer", none)) k3 ["value", "worths"] := ⟨funOf (st := s_is_answer) F3, He.glo_ok X G (c.fact 3 (f := .glo "is_answer") rfl), b3⟩
  have b4 : Binds K k4 ["value"] [] := FunD.bindsN F4 fun _ _ _ _ _ _ us hl => match us, hl with | [_], _ => rfl
  have D4 : Df K mg "is_name" s_is_name (He.fAd K ("is_name", none)) k4 ["value"] := ⟨funOf (st := s_is_name) F4, He.glo_ok X G (c.fact 4 (f := .glo "is_name") rfl), b4⟩
  have b5 : Binds K k5 ["value"] [] := FunD.bindsN F5 fun _ _ _ _ _ _ us hl => match us, hl with | [_], _ => rfl
  have D5 : Df K mg "is_door" s_is_door (He.fAd K ("is_door", none)) k5 ["value"] := ⟨funOf (st := s_is_door) F5, He.glo_ok X G (c.fact 5 (f := .glo "is_door") rfl), b5⟩
  have b6 : Binds K k6 ["value", "size"] [] := FunD.bindsN F6 fun _ _ _ _ _ _ us hl => match us, hl with | [_, _], _ => rfl
  have D6 : Df K mg "is_tuple" s_is_tuple (He.fAd K ("is_tuple", none)) k6 ["value", "size"] := ⟨funOf (st := s_is_tuple) F6, He.glo_ok X G (c.fact 6 (f := .glo "is_tuple") rfl), b6⟩
  have b7 : Binds K k7 ["word", "many"] [] := FunD.bindsN F7 fun _ _ _ _ _ _ us hl => match us, hl with | [_, _], _ => rfl
  have D7 : Df K mg "number" s_number (He.fAd K ("number", none)) k7 ["word", "many"] := ⟨funOf (st := s_number) F7, He.glo_ok X G (c.fact 7 (f := .glo "number") rfl), b7⟩
  have b8 : Binds K k8 ["part"] [] := FunD.bindsN F8 fun _ _ _ _ _ _ us hl => match us, hl with | [_], _ => rfl
  have b9 : Binds K k9 ["part", "inner", "door", "worth"] [] := FunD.bindsN F9 fun _ _ _ _ _ _ us hl => match us, hl with | [_, _, _, _], _ => rfl
  have D9 : Df K mg "called" s_called (He.fAd K ("called", none)) k9 ["part", "inner", "door", "worth"] := ⟨funOf (st := s_called) F9, He.glo_ok X G (c.fact 9 (f := .glo "called") rfl), b9⟩
  have b10 : Binds K k10 ["part", "inner", "answer"] [] := FunD.bindsN F10 fun _ _ _ _ _ _ us hl => match us, hl with | [_, _, _], _ => rfl
  have D10 : Df K mg "answered" s_answered (He.fAd K ("answered", none)) k10 ["part", "inner", "answer"] := ⟨funOf (st := s_answered) F10, He.glo_ok X G (c.fact 10 (f := .glo "answered") rfl), b10⟩
  have b11 : Binds K k11 ["part", "value"] [] := FunD.bindsN F11 fun _ _ _ _ _ _ us hl => match us, hl with | [_, _], _ => rfl
  have D11 : Df K mg "is_inner" s_is_inner (He.fAd K ("is_inner", none)) k11 ["part", "value"] := ⟨funOf (st := s_is_inner) F11, He.glo_ok X G (c.fact 11 (f := .glo "is_inner") rfl), b11⟩
  have b12 : Binds K k12 ["part", "value"] [] := FunD.bindsN F12 fun _ _ _ _ _ _ us hl => match us, hl with | [_, _], _ => rfl
  have D12 : Df K mg "is_wait" s_is_wait (He.fAd K ("is_wait", none)) k12 ["part", "value"] := ⟨funOf (st := s_is_wait) F12, He.glo_ok X G (c.fact 12 (f := .glo "is_wait") rfl), b12⟩
  have b13 : Binds K k13 ["part", "start", "cells", "it", "heard"] [] := FunD.bindsN F13 fun _ _ _ _ _ _ us hl => match us, hl with | [_, _, _, _, _], _ => rfl
  have D13 : Df K mg "deeds_from" s_deeds_from (He.fAd K ("deeds_from", none)) k13 ["part", "start", "cells", "it", "heard"] := ⟨funOf (st := s_deeds_from) F13, He.glo_ok X G (c.fact 13 (f := .glo "deeds_from") rfl), b13⟩
  have b14 : Binds K k14 ["step", "cells", "it", "heard"] [] := FunD.bindsN F14 fun _ _ _ _ _ _ us hl => match us, hl with | [_, _, _, _], _ => rfl
  have D14 : Df K mg "deed_of" s_deed_of (He.fAd K ("deed_of", none)) k14 ["step", "cells", "it", "heard"] := ⟨funOf (st := s_deed_of) F14, He.glo_ok X G (c.fact 14 (f := .glo "deed_of") rfl), b14⟩
  have b15 : Binds K k15 ["part", "at", "cells", "it", "heard"] [] := FunD.bindsN F15 fun _ _ _ _ _ _ us hl => match us, hl with | [_, _, _, _, _], _ => rfl
  have D15 : Df K mg "places_behind" s_places_behind (He.fAd K ("places_behind", none)) k15 ["part", "at", "cells", "it", "heard"] := ⟨funOf (st := s_places_behind) F15, He.glo_ok X G (c.fact 15 (f := .glo "places_behind") rfl), b15⟩
  have b16 : Binds K k16 ["source", "cells", "it", "heard"] [] := FunD.bindsN F16 fun _ _ _ _ _ _ us hl => match us, hl with | [_, _, _, _], _ => rfl
  have D16 : Df K mg "worth_of" s_worth_of (He.fAd K ("worth_of", none)) k16 ["source", "cells", "it", "heard"] := ⟨funOf (st := s_worth_of) F16, He.glo_ok X G (c.fact 16 (f := .glo "worth_of") rfl), b16⟩
  have b17 : Binds K k17 ["test", "cells", "it", "heard"] [] := FunD.bindsN F17 fun _ _ _ _ _ _ us hl => match us, hl with | [_, _, _, _], _ => rfl
  have D17 : Df K mg "holds" s_holds (He.fAd K ("holds", none)) k17 ["test", "cells", "it", "heard"] := ⟨funOf (st := s_holds) F17, He.glo_ok X G (c.fact 17 (f := .glo "holds") rfl), b17⟩
  have b18 : Binds K k18 ["row", "at", "worth"] [] := FunD.bindsN F18 fun _ _ _ _ _ _ us hl => match us, hl with | [_, _, _], _ => rfl
  have D18 : Df K mg "put" s_put (He.fAd K ("put", none)) k18 ["row", "at", "worth"] := ⟨funOf (st := s_put) F18, He.glo_ok X G (c.fact 18 (f := .glo "put") rfl), b18⟩
  have b19 : Binds K k19 ["lines", "worths"] [] := FunD.bindsN F19 fun _ _ _ _ _ _ us hl => match us, hl with | [_, _], _ => rfl
  have D19 : Df K mg "read_cells" s_read_cells (He.fAd K ("read_cells", none)) k19 ["lines", "worths"] := ⟨funOf (st := s_read_cells) F19, He.glo_ok X G (c.fact 19 (f := .glo "read_cells") rfl), b19⟩
  have b20 : Binds K k20 ["lines"] [] := FunD.bindsN F20 fun _ _ _ _ _ _ us hl => match us, hl with | [_], _ => rfl
  have D20 : Df K mg "read_ports" s_read_ports (He.fAd K ("read_ports", none)) k20 ["lines"] := ⟨funOf (st := s_read_ports) F20, He.glo_ok X G (c.fact 20 (f := .glo "read_ports") rfl), b20⟩
  have b21 : Binds K k21 ["lines", "program"] [] := FunD.bindsN F21 fun _ _ _ _ _ _ us hl => match us, hl with | [_, _], _ => rfl
  have D21 : Df K mg "read_doors" s_read_doors (He.fAd K ("read_doors", none)) k21 ["lines", "program"] := ⟨funOf (st := s_read_doors) F21, He.glo_ok X G (c.fact 21 (f := .glo "read_doors") rfl), b21⟩
  have b22 : Binds K k22 ["_law_script", "_law_k"] [] := FunD.bindsN F22 fun _ _ _ _ _ _ us hl => match us, hl with | [_, _], _ => rfl
  have D22 : Df K mg "_law_box" s__law_box (He.fAd K ("_law_box", none)) k22 ["_law_script", "_law_k"] := ⟨funOf (st := s__law_box) F22, He.glo_ok X G (c.fact 22 (f := .glo "_law_box") rfl), b22⟩
  have b23 : Binds K k23 ["_law_box_here", "_law_many"] [] := FunD.bindsN F23 fun _ _ _ _ _ _ us hl => match us, hl with | [_, _], _ => rfl
  have D23 : Df K mg "_law_take" sTake (He.fAd K ("_law_take", none)) k23 ["_law_box_here", "_law_many"] := ⟨funOf (st := sTake) F23, He.glo_ok X G (c.fact 23 (f := .glo "_law_take") rfl), b23⟩
  have b24 : Binds K k24 ["_law_box_here", "_law_some_here"] [] := FunD.bindsN F24 fun _ _ _ _ _ _ us hl => match us, hl with | [_, _], _ => rfl
  have D24 : Df K mg "_law_of" s__law_of (He.fAd K ("_law_of", none)) k24 ["_law_box_here", "_law_some_here"] := ⟨funOf (st := s__law_of) F24, He.glo_ok X G (c.fact 24 (f := .glo "_law_of") rfl), b24⟩
  have b25 : Binds K k25 ["_law_box_here", "_law_items", "_law_many"] [] := FunD.bindsN F25 fun _ _ _ _ _ _ us hl => match us, hl with | [_, _, _], _ => rfl
  have D25 : Df K mg "_law_some" s__law_some (He.fAd K ("_law_some", none)) k25 ["_law_box_here", "_law_items", "_law_many"] := ⟨funOf (st := s__law_some) F25, He.glo_ok X G (c.fact 25 (f := .glo "_law_some") rfl), b25⟩
  have b26 : Binds K k26 ["_law_some_here"] [] := FunD.bindsN F26 fun _ _ _ _ _ _ us hl => match us, hl with | [_], _ => rfl
  have D26 : Df K mg "_law_told" s__law_told (He.fAd K ("_law_told", none)) k26 ["_law_some_here"] := ⟨funOf (st := s__law_told) F26, He.glo_ok X G (c.fact 26 (f := .glo "_law_told") rfl), b26⟩
  have b27 : Binds K k27 ["_law_box_here"] [] := FunD.bindsN F27 fun _ _ _ _ _ _ us hl => match us, hl with | [_], _ => rfl
  have D27 : Df K mg "_law_draws_right" s__law_draws_right (He.fAd K ("_law_draws_right", none)) k27 ["_law_box_here"] := ⟨funOf (st := s__law_draws_right) F27, He.glo_ok X G (c.fact 27 (f := .glo "_law_draws_right") rfl), b27⟩
  have b28 : Binds K k28 ["_law_box_here"] [] := FunD.bindsN F28 fun _ _ _ _ _ _ us hl => match us, hl with | [_], _ => rfl
  have D28 : Df K mg "_law_many_draws_right" s__law_many_draws_right (He.fAd K ("_law_many_draws_right", none)) k28 ["_law_box_here"] := ⟨funOf (st := s__law_many_draws_right) F28, He.glo_ok X G (c.fact 28 (f := .glo "_law_many_draws_right") rfl), b28⟩
  have b29 : Binds K k29 ["_law_box_here"] [] := FunD.bindsN F29 fun _ _ _ _ _ _ us hl => match us, hl with | [_], _ => rfl
  have D29 : Df K mg "_law_loop_right" s__law_loop_right (He.fAd K ("_law_loop_right", none)) k29 ["_law_box_here"] := ⟨funOf (st := s__law_loop_right) F29, He.glo_ok X G (c.fact 29 (f := .glo "_law_loop_right") rfl), b29⟩
  have b30 : Binds K k30 ["_law_box_here"] [] := FunD.bindsN F30 fun _ _ _ _ _ _ us hl => match us, hl with | [_], _ => rfl
  have D30 : Df K mg "_law_lost_right" s__law_lost_right (He.fAd K ("_law_lost_right", none)) k30 ["_law_box_here"] := ⟨funOf (st := s__law_lost_right) F30, He.glo_ok X G (c.fact 30 (f := .glo "_law_lost_right") rfl), b30⟩
  have b31 : Binds K k31 ["_law_script"] [] := FunD.bindsN F31 fun _ _ _ _ _ _ us hl => match us, hl with | [_], _ => rfl
  have D31 : Df K mg "law" s_law (He.fAd K ("law", none)) k31 ["_law_script"] := ⟨funOf (st := s_law) F31, He.glo_ok X G (c.fact 31 (f := .glo "law") rfl), b31⟩
  have b32 : Binds K k32 ["self", "value"] [] := FunD.bindsN F32 fun _ _ _ _ _ _ us hl => match us, hl with | [_, _], _ => rfl
  have U32 : Fun K "__init__" "WireError.__init__" s_err (He.fAd K ("WireError", some "__init__")) k32 := funOf (st := s_err) F32
  have b33 : Binds K k33 ["self", "text"] [] := FunD.bindsN F33 fun _ _ _ _ _ _ us hl => match us, hl with | [_, _], _ => rfl
  have U33 : Fun K "__init__" "Lines.__init__" s_Lines___init__ (He.fAd K ("Lines", some "__init__")) k33 := funOf (st := s_Lines___init__) F33
  have b34 : Binds K k34 ["self", "depth"] [] := FunD.bindsN F34 fun _ _ _ _ _ _ us hl => match us, hl with | [_, _], _ => rfl
  have M34 : Mf K (He.ga K "Lines") "words" "Lines.words" s_Lines_words (He.fAd K ("Lines", some "words")) k34 ["self", "depth"] := ⟨funOf (st := s_Lines_words) F34, He.meth_ok (c.fact 85 (f := .meth "Lines" "words") rfl), b34⟩
  have b35 : Binds K k35 ["self", "word"] [] := FunD.bindsN F35 fun _ _ _ _ _ _ us hl => match us, hl with | [_, _], _ => rfl
  have M35 : Mf K (He.ga K "Lines") "begins" "Lines.begins" s_Lines_begins (He.fAd K ("Lines", some "begins")) k35 ["self", "word"] := ⟨funOf (st := s_Lines_begins) F35, He.meth_ok (c.fact 86 (f := .meth "Lines" "begins") rfl), b35⟩
  have b36 : Binds K k36 ["self"] [] := FunD.bindsN F36 fun _ _ _ _ _ _ us hl => match us, hl with | [_], _ => rfl
  have M36 : Mf K (He.ga K "Lines") "step" "Lines.step" s_Lines_step (He.fAd K ("Lines", some "step")) k36 ["self"] := ⟨funOf (st := s_Lines_step) F36, He.meth_ok (c.fact 87 (f := .meth "Lines" "step") rfl), b36⟩
  have b37 : Binds K k37 ["self", "right"] [] := FunD.bindsN F37 fun _ _ _ _ _ _ us hl => match us, hl with | [_, _], _ => rfl
  have M37 : Mf K (He.ga K "Lines") "need" "Lines.need" s_Lines_need (He.fAd K ("Lines", some "need")) k37 ["self", "right"] := ⟨funOf (st := s_Lines_need) F37, He.meth_ok (c.fact 88 (f := .meth "Lines" "need") rfl), b37⟩
  have b38 : Binds K k38 ["self"] [] := FunD.bindsN F38 fun _ _ _ _ _ _ us hl => match us, hl with | [_], _ => rfl
  have M38 : Mf K (He.ga K "Lines") "need_end" "Lines.need_end" s_Lines_need_end (He.fAd K ("Lines", some "need_end")) k38 ["self"] := ⟨funOf (st := s_Lines_need_end) F38, He.meth_ok (c.fact 89 (f := .meth "Lines" "need_end") rfl), b38⟩
  have b39 : Binds K k39 ["self", "lines", "worths", "cells", "ports"] [] := FunD.bindsN F39 fun _ _ _ _ _ _ us hl => match us, hl with | [_, _, _, _, _], _ => rfl
  have U39 : Fun K "__init__" "Program.__init__" s_Program___init__ (He.fAd K ("Program", some "__init__")) k39 := funOf (st := s_Program___init__) F39
  have b40 : Binds K k40 ["self"] [] := FunD.bindsN F40 fun _ _ _ _ _ _ us hl => match us, hl with | [_], _ => rfl
  have M40 : Mf K (He.ga K "Program") "read_door" "Program.read_door" s_Program_read_door (He.fAd K ("Program", some "read_door")) k40 ["self"] := ⟨funOf (st := s_Program_read_door) F40, He.meth_ok (c.fact 90 (f := .meth "Program" "read_door") rfl), b40⟩
  have b41 : Binds K k41 ["self", "depth", "asks_first"] [] := FunD.bindsN F41 fun _ _ _ _ _ _ us hl => match us, hl with | [_, _, _], _ => rfl
  have M41 : Mf K (He.ga K "Program") "read_block" "Program.read_block" s_Program_read_block (He.fAd K ("Program", some "read_block")) k41 ["self", "depth", "asks_first"] := ⟨funOf (st := s_Program_read_block) F41, He.meth_ok (c.fact 91 (f := .meth "Program" "read_block") rfl), b41⟩
  have b42 : Binds K k42 ["self", "words", "depth"] [] := FunD.bindsN F42 fun _ _ _ _ _ _ us hl => match us, hl with | [_, _, _], _ => rfl
  have M42 : Mf K (He.ga K "Program") "read_statement" "Program.read_statement" s_Program_read_statement (He.fAd K ("Program", some "read_statement")) k42 ["self", "words", "depth"] := ⟨funOf (st := s_Program_read_statement) F42, He.meth_ok (c.fact 92 (f := .meth "Program" "read_statement") rfl), b42⟩
  have b43 : Binds K k43 ["self", "words", "depth"] [] := FunD.bindsN F43 fun _ _ _ _ _ _ us hl => match us, hl with | [_, _, _], _ => rfl
  have M43 : Mf K (He.ga K "Program") "read_if" "Program.read_if" s_Program_read_if (He.fAd K ("Program", some "read_if")) k43 ["self", "words", "depth"] := ⟨funOf (st := s_Program_read_if) F43, He.meth_ok (c.fact 93 (f := .meth "Program" "read_if") rfl), b43⟩
  have b44 : Binds K k44 ["self", "words", "depth"] [] := FunD.bindsN F44 fun _ _ _ _ _ _ us hl => match us, hl with | [_, _, _], _ => rfl
  have M44 : Mf K (He.ga K "Program") "read_while" "Program.read_while" s_Program_read_while (He.fAd K ("Program", some "read_while")) k44 ["self", "words", "depth"] := ⟨funOf (st := s_Program_read_while) F44, He.meth_ok (c.fact 94 (f := .meth "Program" "read_while") rfl), b44⟩
  have b45 : Binds K k45 ["self", "words", "depth"] [] := FunD.bindsN F45 fun _ _ _ _ _ _ us hl => match us, hl with | [_, _, _], _ => rfl
  have M45 : Mf K (He.ga K "Program") "read_head" "Program.read_head" s_Program_read_head (He.fAd K ("Program", some "read_head")) k45 ["self", "words", "depth"] := ⟨funOf (st := s_Program_read_head) F45, He.meth_ok (c.fact 95 (f := .meth "Program" "read_head") rfl), b45⟩
  have b46 : Binds K k46 ["self", "words"] [] := FunD.bindsN F46 fun _ _ _ _ _ _ us hl => match us, hl with | [_, _], _ => rfl
  have M46 : Mf K (He.ga K "Program") "plain_step" "Program.plain_step" s_Program_plain_step (He.fAd K ("Program", some "plain_step")) k46 ["self", "words"] := ⟨funOf (st := s_Program_plain_step) F46, He.meth_ok (c.fact 96 (f := .meth "Program" "plain_step") rfl), b46⟩
  have b47 : Binds K k47 ["self", "port", "door", "word"] [] := FunD.bindsN F47 fun _ _ _ _ _ _ us hl => match us, hl with | [_, _, _, _], _ => rfl
  have M47 : Mf K (He.ga K "Program") "ask_step" "Program.ask_step" s_Program_ask_step (He.fAd K ("Program", some "ask_step")) k47 ["self", "port", "door", "word"] := ⟨funOf (st := s_Program_ask_step) F47, He.meth_ok (c.fact 97 (f := .meth "Program" "ask_step") rfl), b47⟩
  have b48 : Binds K k48 ["self", "word"] [] := FunD.bindsN F48 fun _ _ _ _ _ _ us hl => match us, hl with | [_, _], _ => rfl
  have M48 : Mf K (He.ga K "Program") "cell" "Program.cell" s_Program_cell (He.fAd K ("Program", some "cell")) k48 ["self", "word"] := ⟨funOf (st := s_Program_cell) F48, He.meth_ok (c.fact 98 (f := .meth "Program" "cell") rfl), b48⟩
  have b49 : Binds K k49 ["self", "word"] [] := FunD.bindsN F49 fun _ _ _ _ _ _ us hl => match us, hl with | [_, _], _ => rfl
  have M49 : Mf K (He.ga K "Program") "source" "Program.source" s_Program_source (He.fAd K ("Program", some "source")) k49 ["self", "word"] := ⟨funOf (st := s_Program_source) F49, He.meth_ok (c.fact 99 (f := .meth "Program" "source") rfl), b49⟩
  have b50 : Binds K k50 ["self", "words"] [] := FunD.bindsN F50 fun _ _ _ _ _ _ us hl => match us, hl with | [_, _], _ => rfl
  have M50 : Mf K (He.ga K "Program") "condition" "Program.condition" s_Program_condition (He.fAd K ("Program", some "condition")) k50 ["self", "words"] := ⟨funOf (st := s_Program_condition) F50, He.meth_ok (c.fact 100 (f := .meth "Program" "condition") rfl), b50⟩
  have b51 : Binds K k51 ["self", "worths", "text"] [] := FunD.bindsN F51 fun _ _ _ _ _ _ us hl => match us, hl with | [_, _, _], _ => rfl
  have CLs : ClL K (He.ga K "Lines") := ⟨He.cls_ok (c.fact 62 (f := .cls "Lines") rfl), He.noat_ok (c.fact 68 (f := .noat "Lines" "rows") rfl), He.noat_ok (c.fact 69 (f := .noat "Lines" "at") rfl)⟩
  have CPr : ClP K (He.ga K "Program") := by
    refine ⟨He.cls_ok (c.fact 64 (f := .cls "Program") rfl), fun x hx => ?_⟩
    unfold pNames at hx
    simp only [List.mem_cons, List.not_mem_nil, or_false] at hx
    rcases hx with rfl | rfl | rfl | rfl | rfl | rfl | rfl
    · exact He.noat_ok (c.fact 70 (f := .noat "Program" "lines") rfl)
    · exact He.noat_ok (c.fact 71 (f := .noat "Program" "worths") rfl)
    · exact He.noat_ok (c.fact 72 (f := .noat "Program" "cells") rfl)
    · exact He.noat_ok (c.fact 73 (f := .noat "Program" "ports") rfl)
    · exact He.noat_ok (c.fact 74 (f := .noat "Program" "steps") rfl)
    · exact He.noat_ok (c.fact 75 (f := .noat "Program" "asks") rfl)
    · exact He.noat_ok (c.fact 76 (f := .noat "Program" "many") rfl)
  have CPt : ClT K (He.ga K "Part") := by
    refine ⟨He.cls_ok (c.fact 66 (f := .cls "Part") rfl), fun x hx => ?_⟩
    simp only [List.mem_cons, List.not_mem_nil, or_false] at hx
    rcases hx with rfl | rfl | rfl | rfl | rfl | rfl | rfl | rfl
    · exact He.noat_ok (c.fact 77 (f := .noat "Part" "worths") rfl)
    · exact He.noat_ok (c.fact 78 (f := .noat "Part" "text") rfl)
    · exact He.noat_ok (c.fact 79 (f := .noat "Part" "cells") rfl)
    · exact He.noat_ok (c.fact 80 (f := .noat "Part" "ports") rfl)
    · exact He.noat_ok (c.fact 81 (f := .noat "Part" "starts") rfl)
    · exact He.noat_ok (c.fact 82 (f := .noat "Part" "doors") rfl)
    · exact He.noat_ok (c.fact 83 (f := .noat "Part" "steps") rfl)
    · exact He.noat_ok (c.fact 84 (f := .noat "Part" "asks") rfl)
  have KLines : Mk K (He.ga K "Lines") (He.fAd K ("Lines", some "__init__")) := He.mkr_ok (c.fact 63 (f := .mkr "Lines") rfl)
  have KProgram : Mk K (He.ga K "Program") (He.fAd K ("Program", some "__init__")) := He.mkr_ok (c.fact 65 (f := .mkr "Program") rfl)
  have KPart : Mk K (He.ga K "Part") (He.fAd K ("Part", some "__init__")) := He.mkr_ok (c.fact 67 (f := .mkr "Part") rfl)
  have gWireError : mg "WireError" = some (.ref (He.ga K "WireError")) := He.glo_ok X G (c.fact 32 (f := .glo "WireError") rfl)
  have gBadText : mg "BadText" = some (.ref (He.ga K "BadText")) := He.glo_ok X G (c.fact 33 (f := .glo "BadText") rfl)
  have gBadWorths : mg "BadWorths" = some (.ref (He.ga K "BadWorths")) := He.glo_ok X G (c.fact 34 (f := .glo "BadWorths") rfl)
  have gLines : mg "Lines" = some (.ref (He.ga K "Lines")) := He.glo_ok X G (c.fact 35 (f := .glo "Lines") rfl)
  have gProgram : mg "Program" = some (.ref (He.ga K "Program")) := He.glo_ok X G (c.fact 36 (f := .glo "Program") rfl)
  have gPart : mg "Part" = some (.ref (He.ga K "Part")) := He.glo_ok X G (c.fact 37 (f := .glo "Part") rfl)
  have cLOST : ∃ t, mg "LOST" = some (.int (-1) t) := He.int_ok X G (c.fact 54 (f := .int "LOST" (-1)) rfl)
  have cBUSY : ∃ t, mg "BUSY" = some (.int (-2) t) := He.int_ok X G (c.fact 55 (f := .int "BUSY" (-2)) rfl)
  have cMOST_IN_BLOCK : ∃ t, mg "MOST_IN_BLOCK" = some (.int 8 t) := He.int_ok X G (c.fact 56 (f := .int "MOST_IN_BLOCK" 8) rfl)
  have cMOST_STATEMENTS : ∃ t, mg "MOST_STATEMENTS" = some (.int 24 t) := He.int_ok X G (c.fact 57 (f := .int "MOST_STATEMENTS" 24) rfl)
  have cDEEPEST : ∃ t, mg "DEEPEST" = some (.int 3 t) := He.int_ok X G (c.fact 58 (f := .int "DEEPEST" 3) rfl)
  have cMOST_CELLS : ∃ t, mg "MOST_CELLS" = some (.int 3 t) := He.int_ok X G (c.fact 59 (f := .int "MOST_CELLS" 3) rfl)
  have cMOST_PORTS : ∃ t, mg "MOST_PORTS" = some (.int 2 t) := He.int_ok X G (c.fact 60 (f := .int "MOST_PORTS" 2) rfl)
  have cMOST_DOORS : ∃ t, mg "MOST_DOORS" = some (.int 3 t) := He.int_ok X G (c.fact 61 (f := .int "MOST_DOORS" 3) rfl)
  have cBAR : ∃ b, mg "BARRED_CELLS" = some (.ref b) ∧ ∀ H : Hp, SqT K H b ((["it", "got", "lost", "busy"] : List Str).map V.str) := ⟨_, He.glo_ok X G (c.fact 38 (f := .glo "BARRED_CELLS") rfl), fun H => He.tupB_ok (all_at e2 9 rfl) H⟩
  have ET : Er K mg "BadText" (He.ga K "BadText") (He.fAd K ("WireError", some "__init__")) := er_of X G gBadText eT e2
  have EW : Er K mg "BadWorths" (He.ga K "BadWorths") (He.fAd K ("WireError", some "__init__")) := er_of X G gBadWorths eW e2
  refine ⟨_, fun s v => FunD.bindsA (ps := ["_law_script"]) F31 (fun _ _ _ _ _ _ us hl => match us, hl with | [_], _ => rfl) s [v] rfl, fun base XB GB TB1 TF1 => ?_⟩
  have Gneed := ok_need (P := P) (w := w) (mg := mg) (base := base) CLs M37.F ET U32 b32
  have Gnum := ok_number (P := P) (w := w) (mg := mg) (base := base) Bt0 D7
  have Gname := ok_is_name (P := P) (w := w) (mg := mg) (base := base) Bt0 D4
  have Gdoor := ok_is_door (P := P) (w := w) (mg := mg) (base := base) Bt0 D5 D4
  have Gwords := ok_words (P := P) (w := w) (mg := mg) (base := base) Bt0 CLs M34.F
  have Gbeg := ok_begins (P := P) (w := w) (mg := mg) (base := base) Bt0 CLs M35.F M34
  have Gstep := ok_step (P := P) (w := w) (mg := mg) (base := base) CLs M36.F
  have Gend := ok_need_end (P := P) (w := w) (mg := mg) (base := base) Bt0 CLs M38.F M37 ET U32 b32
  have GLi := ok_Lines_init (P := P) (w := w) (mg := mg) (base := base) Bt0 CLs U33 ET U32 b32
  have Gerr := ok_err (P := P) (w := w) (mg := mg) (base := base) U32
  have Gwo := ok_is_worths (P := P) (w := w) (mg := mg) (base := base) Bt0 D2 D0
  have N1 : En P w K mg base _ _ _ _ _ _ _ _ _ := ⟨Bt0, CLs, CPr, M37, Gneed, D7, Gnum, D5, Gdoor⟩
  have Gcond := ok_condition N1 M50.F M49
  have Gplain := ok_plain_step N1 M46.F M49 M48 M47
  have N2 : En2 P w K mg base _ _ _ _ _ _ _ _ _ _ _ := ⟨M34, Gwords, M36, Gstep, M50, Gcond, M46, Gplain, cDEEPEST, cMOST_IN_BLOCK, cMOST_STATEMENTS⟩
  have N3 : En3 K (He.ga K "Program") _ _ _ _ _ _ _ _ _ _ := ⟨M45, M43, M44, M42, M41⟩
  have Gblock := ok_block N1 N2 N3 2 (by decide)
  have Grd := ok_read_door N1 M40.F M41 Gblock
  have GPi := ok_Program_init (P := P) (w := w) (mg := mg) (base := base) CPr U39
  have N4 : En4 P w K mg base (He.ga K "Lines") (He.ga K "BadText") _ _ _ _ _ _ _ _ _ _ _ _ _ _ := ⟨Bt0, CLs, M35, Gbeg, M34, Gwords, M36, Gstep, M37, Gneed, D4, Gname, D5, Gdoor, D7, Gnum, cMOST_PORTS, cMOST_CELLS, cMOST_DOORS, cBAR⟩
  have Gports := ok_read_ports N4 D20
  have Gcells := ok_read_cells N4 D19
  have Gdoors := ok_read_doors N4 CPr D21 M40 Grd
  have FT := funTOf (st := s_Part___init__) (p := ("Part", some "__init__")) F51
  have GPart := ok_Part_init N4 CPr CPt FT TB1 EW Gerr b32 D2 Gwo KLines gLines b33 GLi D19 Gcells D20 Gports KProgram gProgram b39 GPi D21 Gdoors M38 Gend
  have Gbel := ok_is_below (P := P) (w := w) (mg := mg) (base := base) Bt0 D1 D0
  have Gans := ok_is_answer (P := P) (w := w) (mg := mg) (base := base) Bt0 D3 D0
  have Ginn := ok_is_inner (P := P) (w := w) (mg := mg) (base := base) Bt0 (He.free_ok X G (c.fact 51 (f := .free "all") rfl)) CPt D11 D6 D0 D1 D12
  have Gdf := ok_deeds_from (P := P) (w := w) (mg := mg) (base := base) Bt0 (He.free_ok X G (c.fact 52 (f := .free "sorted") rfl)) CPt cLOST cBUSY D13 D14 D15 D16 D18 D17
  have Gcal := ok_called (P := P) (w := w) (mg := mg) (base := base) Bt0 CPt cBUSY D9 D11 Ginn D1 Gbel D13 Gdf
  have Gand := ok_answered (P := P) (w := w) (mg := mg) (base := base) Bt0 CPt D10 D11 Ginn D3 Gans D13 Gdf
  have FI := funTOf (st := s_first_inner) (p := ("first_inner", none)) F8
  have Gfi := ok_first_inner (P := P) (w := w) (mg := mg) (base := base) Bt0 CPt FI TF1
  have Gsome := ok_some (P := P) (w := w) (mg := mg) (base := base) Bt0 D25 D23
  have Gtold := ok_told (P := P) (w := w) (mg := mg) (base := base) Bt0 (He.free_ok X G (c.fact 52 (f := .free "sorted") rfl)) (He.free_ok X G (c.fact 53 (f := .free "set") rfl)) D26
  have RK : Rk P w K mg base (He.cT K ("Part", some "__init__")).2 (He.cT K ("first_inner", none)).2 (He.ga K "Part") (He.ga K "BadText") (He.ga K "BadWorths") _ _ _ _ _ _ _ _ _ _ _ _ _ _ _ _ := { B := Bt0, DT := D23, DO := D24, DS := D25, GS := Gsome, DC := D9, GC := Gcal, DA := D10, GA := Gand, gF := He.glo_ok X G (c.fact 8 (f := .glo "first_inner") rfl), kF := FI.kp, bF := b8, GF := Gfi, DL := D26, GL := Gtold, MP := KPart, gP := gPart, bP := b51, GP := GPart, CC := CPt }
  have G1 := ok_draws RK D27
  have G2 := ok_many RK (He.free_ok X G (c.fact 52 (f := .free "sorted") rfl)) D28
  have G3 := ok_loop RK D29
  have G4 := ok_lost RK D30
  have Gbox := ok_box (P := P) (w := w) (mg := mg) (base := base) Bt0 D22
  exact ok_law Bt0 D22 Gbox D27 G1 D28 G2 D29 G3 D30 G4 D31.F
end
end K5
namespace K5
open PySem PySem.Spec PyProof.Rows L2
abbrev R5 : PySem.W.OpenRow := PySem.W.OpenLaw.row PySem.Challenge.rw_truestandins_k06_draws_and_answers_by_ha
def namesL : List Str := (["_wall", "__name__", "WireError", "BadWorths", "BadText", "BadInner", "BadCall", "BadAnswer", "is_integer", "is_below", "is_worths", "is_answer"] : List Str) ++ (["is_name", "is_door", "is_tuple", "LOST", "BUSY", "first_inner", "called", "answered", "is_inner", "is_wait", "deeds_from", "deed_of"] : List Str) ++ (["places_behind", "worth_of", "holds", "put", "Lines", "number", "MOST_IN_BLOCK", "MOST_STATEMENTS", "DEEPEST", "Program", "BARRED_CELLS", "MOST_CELLS"] : List Str) ++ (["MOST_PORTS", "MOST_DOORS", "Part", "read_cells", "read_ports", "read_doors", "_law_box", "_law_take", "_law_of", "_law_some", "_law_told", "_law_draws_right"] : List Str) ++ (["_law_many_draws_right", "_law_loop_right", "_law_lost_right"] : List Str)
abbrev hk5 : PySem.W.Hook := He.hookX 5 faL fnL [] tfL exB
def ob5 (s : PySem.W.SharedT) : He.AlX := He.obsX 5 faL fnL [] tfL exB (HandSHeadRun.getT s)
theorem ob5_eq (s : PySem.W.SharedT) : ob5 s = hk5.obs s.abs := He.obsX_eq (HandSHeadRun.getT_eq s)
theorem run5 (w : World) : HandSHeadRun.RunEq R5 (PySem.W.view R5.prog [57]) hk5 ob5 6000 namesL w := by
  intro os
  kernel_rfl
end K5
namespace K5
open PySem PySem.Spec PyProof.Rows L2
theorem walk5 {q : Program} {loose : List Str} {XP : (Str → Option Value) → Heap → Prop} {d : DefRec} (hn : (PySem.Challenge.rw_truestandins_k06_draws_and_answers_by_ha).most = some 63) (hdf : d.params.defaults = []) (hname : d.name = ("law" : Str)) :
    PySem.W.WalkO q loose XP hk5.says (PySem.W.OpenLaw.row PySem.Challenge.rw_truestandins_k06_draws_and_answers_by_ha).toRowW d [] (fun f vs => PySem.call f vs) := by
  refine Att.attach_callB hn hdf fun w s₀ st mg mb fa o pm cd doc a us ns G Y ho hd hcd hmg arg whole len bits gens => ?_
  obtain ⟨K, KX, c⟩ := Y
  rw [hname] at hmg
  have mem1 : (("Part", some "__init__") : He.Defn) ∈ tfL := by simp
  have mem2 : (("first_inner", none) : He.Defn) ∈ tfL := by simp
  have all2 : ∀ p ∈ [He.cT K ("Part", some "__init__"), He.cT K ("first_inner", none)], ∃ d ∈ tfL, p = He.cT K d := fun p hp => by
    rcases List.mem_cons.mp hp with e | hp
    · exact ⟨_, mem1, e⟩
    · exact ⟨_, mem2, List.mem_singleton.mp hp⟩
  have p12 : (He.cT K ("Part", some "__init__")).2 ≠ (He.cT K ("first_inner", none)).2 := of_decide_eq_true (all_at c.more 10 rfl)
  obtain ⟨fd, hb, hF⟩ := all_mk (P := (PySem.Challenge.rw_truestandins_k06_draws_and_answers_by_ha).prog) (w := w) KX G.T.g hmg c.t.d c.more
  have in1 : He.cT K ("Part", some "__init__") ∈ [He.cT K ("Part", some "__init__"), He.cT K ("first_inner", none)] := List.mem_cons_self
  have in2 : He.cT K ("first_inner", none) ∈ [He.cT K ("Part", some "__init__"), He.cT K ("first_inner", none)] := List.mem_cons_of_mem _ List.mem_cons_self
  refine law_G (cs := [He.cT K ("Part", some "__init__"), He.cT K ("first_inner", none)]) (x := "_law_script") (lv := 27) KX G.T.g G.T.b G.T.builtins G.T.nolimit gens (fun p hp => ?_) (fun p hp => ?_) (fun p hp => ?_) G.T.bmain arg whole (Nat.le_trans len (by decide)) ⟨rfl, by decide, by decide⟩ (fun base XB GB TB => hF base XB GB (TB _ in1) (TB _ in2)) hb (fun H hH hS => ?_) fun H e s2 z => ?_
  · obtain ⟨d, m, rfl⟩ := all2 p hp
    exact c.empty _ m
  · obtain ⟨d, m, rfl⟩ := all2 p hp
    exact c.out _ m
  · obtain ⟨d, m, rfl⟩ := all2 p hp
    exact PySem.W.codeHd_of_K KX (c.hd _ m)
  · have hT1 := hH _ in1
    have hT2 := hH _ in2
    have ne : ∀ T : Addr, H T = some (.tbl #[]) → K.lookup T = none → a ≠ T := fun T hT out e => by
      rw [e] at hS
      rcases hS with (h | ⟨u, h⟩) | ⟨u, its, m, lk, _⟩
      · rw [hT] at h
        cases h
      · rw [hT] at h
        cases h
      · rw [out] at lk
        cases lk
    exact ⟨a, ns, rfl, hS, ⟨#[], hT1, trivial⟩, ⟨#[], hT2, trivial⟩, p12, ne _ hT1 (c.out _ mem1), ne _ hT2 (c.out _ mem2), fun _ => rfl⟩
  · obtain ⟨_, _, _, _, _, _, _, _, _, _, _, _, z⟩ := z
    exact z.elim
end K5
open PySem PySem.W PySem.Calls PyProof.Rows
theorem PySem.Challenge.cw_truestandins_k06_draws_and_answers_by_ha_holds : PySem.Challenge.rw_truestandins_k06_draws_and_answers_by_ha.Holds := by
  w_on; o_law
  refine HandSHeadRun.head_any (r := K5.R5) (q := view K5.R5.prog [57]) (H := K5.hk5) (ob := K5.ob5) (M := 6000) (loose := K5.namesL) (d := HandSHeadRun.topDef K5.R5.prog 57) (kwd := []) K5.ob5_eq
    (by kernel_rfl) (fun s => by kernel_rfl) K5.run5 (by kernel_rfl) (by kernel_rfl) (by kernel_rfl) (by rfl) (by first | assumption | decide +kernel) (by decide +kernel) ⟨rfl, rfl, rfl, rfl, rfl, by decide +kernel⟩ ?hw ?hc
  case hw => w_witness2
  case hc => exact K5.walk5 rfl (by kernel_rfl) (by kernel_rfl)
