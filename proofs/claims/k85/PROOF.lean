import PyProof.Rows.All
import Wide.All
import OpenK.AllK
import Wide.FinOn
import HandS.ForMost
import HandS.Wide
import HandS.Steps
import HandS.IsInst
import HandS.StrMore
import HandS.Flow
import HandS.ForExc
import HandS.ExcInit
import HandS.Text
import PyProof.StrLawsChain
import HandS.TupAny
import HandS.Strs
import HandS.Conv
import HandS.NoneIn
import KE.KUnpackStar
import HandS.FStr
import PyProof.ReprReads
import PyProof.StrLawsRepr
import PyProof.StrLawsIn
import HandS.RaiseMore
import PyProof.ReprRoads
import PyProof.Rows.RegFStrParts
import HandS.ListItems
import HandS.Deep
import KE.KExcIs
import HandS.ExcField
import HandS.ExcIs
import HandS.CallLocal
import KE.KRevSl
import HandS.Style
import PyProof.StrLawsTight
import HandS.AnyAll
import HandS.HeadHook4
import HandS.HeadWalk
import HandS.Head2
import PySem.Challenge.RW_truestandins_k85_runs_as_texts
set_option Elab.async false
set_option linter.all false
set_option maxRecDepth 100000
set_option maxHeartbeats 0
namespace K5
open PySem PySem.Spec PyProof.Rows L2
def topS (i : Nat) : Stmt := PySem.Challenge.pw_truestandins_k85_runs_as_texts.main.body.getD (i + 1) (.Pass ⟨0, 0, 0, 0⟩)
/-! ### values that leave the heap as it is -/
section
variable {X : Cx} {K : PySem.W.Frag} {σ : L2.St} {H : Hp} {ta tb : TE} {i j : Int} {p : Addr} {xs : List V} {v : V}
theorem val_ixL (ha : Val ta σ H (.ref p)) (hb : Val tb σ H (.int i)) (hS : SqL K H p xs) (h : atI xs i = some v) : Val (tOp (rIxL K) ta tb) σ H v :=
  val_op ha hb fun Q q => ⟨p, xs, i, v, rfl, rfl, hS, h, q⟩
theorem val_i0 {g : Int → Int → Int} (ha : Val ta σ H (.int i)) (hb : Val tb σ H (.int j)) : Val (tOp (rI0 fun i j => .int (g i j)) ta tb) σ H (.int (g i j)) :=
  val_op ha hb fun Q q => ⟨i, j, rfl, rfl, q⟩
theorem val_iC {C : Int → Int → Prop} {g : Int → Int → Int} (ha : Val ta σ H (.int i)) (hb : Val tb σ H (.int j)) (hc : C i j) : Val (tOp (rI C fun i j => .int (g i j)) ta tb) σ H (.int (g i j)) :=
  val_op ha hb fun Q q => ⟨i, j, rfl, rfl, hc, q⟩
def rInt1 : List V → Hp → VK → Prop := fun xs H Q => (∃ i, xs = [.int i] ∧ Q (.int i) H) ∨ ∃ k, xs = [.bl k] ∧ Q (.int (if k then 1 else 0)) H
theorem pe_toInt {e : Expr} {te : TE} {p pos : Pos} (hg : Gl X "int") (hm : X.mg "int" = none) (h : PE X e te)
    (he : starEach (e :: []) X.env = (false, eval e X.env) :: starEach [] X.env := by rfl) (hpl : (backTo pos (starEach [] X.env)).any (·.1) = false := by rfl) : PE X (.Call (.Name "int" p) [e] [] pos) (tCB rInt1 (tCons te tNil)) :=
  pe_callTy call_int1 hg hm PyProof.Rows.boot_int (pa_cons h pa_nil he) (he := he) (hpl := hpl)
theorem val_toInt (h : Val ta σ H (.int i)) : Val (tCB rInt1 (tCons ta tNil)) σ H (.int i) := fun Q q => h _ (.inl ⟨i, rfl, q⟩)
theorem val_toIntB {b : Bool} (h : Val ta σ H (.bl b)) : Val (tCB rInt1 (tCons ta tNil)) σ H (.int (if b then 1 else 0)) := fun Q q => h _ (.inr ⟨b, rfl, q⟩)
end
/-! ### the box of draws -/
def bx (p q n : Int) : List V := [.int p, .int q, .int n]
structure Box (p q n : Int) : Prop where
  p0 : 0 ≤ p
  q0 : 0 ≤ q
  q1 : q < 2305843009213693921
  n0 : 0 ≤ n
  n1 : n ≤ 1000000
abbrev sTake : Stmt := topS 31
theorem scTake : FnScope ["_law_box_here", "_law_many", "_law_digit", "_law_big"] ["_law_box_here", "_law_many"] (defScope sTake) := ⟨rfl, rfl, rfl, by decide +kernel, rfl, by decide +kernel, by decide +kernel⟩
/-- a draw: the box goes on, at most one more is counted -/
def spTake : Sp := fun vs H Q _ => ∃ (b : Addr) (m p q n : Int), vs = [.ref b, .int m] ∧ H b = some (.lst (bx p q n)) ∧ Box p q n ∧ n < 1000000 ∧ 0 < m ∧ m < 1000000 ∧
  ∀ d p' n' : Int, 0 ≤ d → d < m → Box p' q n' → n' ≤ n + 1 → Q (.int d) (upd H b (.lst (bx p' q n')))
section
variable {P : Program} {w : World} {K : PySem.W.Frag} {mg : Str → Option Value} {base : Heap}
theorem ok_take {f : Addr} {fd : FuncData} {CX : CXT} (F : Fun K "_law_take" "_law_take" sTake f fd) (mI : mg "int" = none) : FnOk P w K mg base CX0 1 f fd ["_law_box_here", "_law_many"] spTake := by
  refine F.ok scTake (fun vs H Q E h => ?_) (fun cdv A outer s H vs Q E hr h => ?_)
  · obtain ⟨b, m, p, q, n, rfl, _⟩ := h
    rfl
  · obtain ⟨b, m, p, q, n, rfl, hb, B, hn, m0, m1, k⟩ := h
    refine ⟨_, pss_cons (ps_if (pt_cmpR op_gt (pe_ix ix_list (pv 0) pe_int (fun _ _ => rfl)) pe_int (nomark _))
        (pss_cons (ps_set (i := 2) scTake.nd rfl (.inl rfl) (pe_op op_mod (pe_toInt (by rfl) mI (pe_ix ix_list (pv 0) pe_int (fun _ _ => rfl))) (pv 1)))
        (pss_cons (ps_asg (pe_op op_fdiv (pe_ix ix_list (pv 0) pe_int (fun _ _ => rfl)) (pv 1)) (pg_sub (pv 0) pe_int set_list))
        (pss_one (ps_ret (pv 2))))) pss_nil)
      (pss_cons (ps_asg (pe_op op_add (pe_ix ix_list (pv 0) pe_int (fun _ _ => rfl)) pe_int) (pg_sub (pv 0) pe_int set_list))
      (pss_cons (ps_set (i := 3) scTake.nd rfl (.inl rfl) (pe_op op_mod (pe_toInt (by rfl) mI (pe_op op_mul (pe_op op_add (pe_op op_add (pe_ix ix_list (pv 0) pe_int (fun _ _ => rfl)) (pe_op op_mul (pe_op op_mul pe_int (pe_ix ix_list (pv 0) pe_int (fun _ _ => rfl))) (pe_ix ix_list (pv 0) pe_int (fun _ _ => rfl)))) pe_int) pe_int)) pe_int))
      (pss_cons (ps_set (i := 3) scTake.nd rfl (.inl rfl) (pe_op op_mod (pe_toInt (by rfl) mI (pe_op op_mul (pv 3) (pe_op op_add (pe_op op_mod (pe_toInt (by rfl) mI (pv 3)) pe_int) (pe_op op_mul pe_int (pe_ix ix_list (pv 0) pe_int (fun _ _ => rfl)))))) pe_int))
      (pss_one (ps_ret (pe_op op_mod (pe_toInt (by rfl) mI (pe_op op_add (pe_op op_fdiv (pv 3) pe_int) (pe_op op_fdiv (pv 3) pe_int))) (pv 1))))))), ?_⟩
    have hS : SqL K H b (bx p q n) := SqL.of hb
    refine (val_ixL (val_var rfl) val_c hS (atI_nat (j := 0) rfl)) _ ?_
    refine ⟨_, _, rfl, rfl, _, rfl, ite2 (fun e => ?_) (fun e => ?_)⟩
    · refine (val_iC (val_toInt (val_ixL (val_var rfl) val_c hS (atI_nat (j := 0) rfl))) (val_var rfl) m0) _ ?_
      refine (val_iC (val_ixL (val_var rfl) val_c hS (atI_nat (j := 0) rfl)) (val_var rfl) ⟨m0, by omega⟩) _ ?_
      refine ⟨_, rfl, b, _, 0, 0, rfl, rfl, hb, rfl, ?_⟩
      refine ⟨_, rfl, ?_⟩
      have hp : 0 < p := of_decide_eq_true e
      exact k _ _ _ (Int.emod_nonneg _ (by omega)) (Int.emod_lt_of_pos _ m0) ⟨Int.ediv_nonneg B.p0 (by omega), B.q0, B.q1, B.n0, B.n1⟩ (by omega)
    · refine (val_i0 (val_ixL (val_var rfl) val_c hS (atI_nat (j := 2) rfl)) val_c) _ ?_
      refine ⟨_, rfl, b, _, 2, 2, rfl, rfl, hb, rfl, ?_⟩
      have h1 : (upd H b (.lst (bx p q (n + 1)))) b = some (.lst (bx p q (n + 1))) := upd_same
      have hS1 : SqL K (upd H b (.lst (bx p q (n + 1)))) b (bx p q (n + 1)) := SqL.of h1
      refine (val_iC (val_toInt (val_iC (val_i0 (val_i0 (val_ixL (val_var rfl) val_c hS1 (atI_nat (j := 1) rfl)) (val_iC (val_iC val_c (val_ixL (val_var rfl) val_c hS1 (atI_nat (j := 2) rfl)) ?_) (val_ixL (val_var rfl) val_c hS1 (atI_nat (j := 2) rfl)) ?_)) val_c) val_c ?_)) val_c ?_) _ ?_
      · exact .inl ⟨by decide, by decide⟩
      · exact .inr ⟨by have := B.n0; omega, by omega⟩
      · exact .inr ⟨by decide, by decide⟩
      · show (0 : Int) < 2305843009213693921
        decide
      generalize hz : (q + 65543 * (n + 1) * (n + 1) + 41) * 48271 % 2305843009213693921 = z
      have z0 : 0 ≤ z := by rw [← hz]; exact Int.emod_nonneg _ (by decide)
      have z1 : z < 2305843009213693921 := by rw [← hz]; exact Int.emod_lt_of_pos _ (by decide)
      refine (val_iC (val_toInt (val_iC (val_var rfl) (val_i0 (val_iC (val_toInt (val_var rfl)) val_c ?_) (val_iC val_c (val_ixL (val_var rfl) val_c hS1 (atI_nat (j := 2) rfl)) ?_)) ?_)) val_c ?_) _ ?_
      · show (0 : Int) < 1000003
        decide
      · exact .inl ⟨by decide, by decide⟩
      · exact .inl ⟨by omega, by omega⟩
      · show (0 : Int) < 2305843009213693907
        decide
      refine (val_iC (val_toInt (val_i0 (val_iC (val_var rfl) val_c ⟨by decide, by decide⟩) (val_iC (val_var rfl) val_c ⟨by decide, by decide⟩))) (val_var rfl) m0) _ ?_
      exact k _ _ _ (Int.emod_nonneg _ (by omega)) (Int.emod_lt_of_pos _ m0) ⟨B.p0, B.q0, B.q1, by have := B.n0; omega, by omega⟩ (by omega)
end
end K5
namespace K5
open PySem PySem.Spec PyProof.Rows L2
/-- the built-ins' names still are the built-ins' -/
structure Bt (mg : Str → Option Value) : Prop where
  m_int : mg "int" = none
  m_len : mg "len" = none
  m_abs : mg "abs" = none
  m_max : mg "max" = none
  m_min : mg "min" = none
  m_list : mg "list" = none
  m_str : mg "str" = none
  m_bool : mg "bool" = none
  m_range : mg "range" = none
  m_isinstance : mg "isinstance" = none
  m_tuple : mg "tuple" = none
  m_repr : mg "repr" = none
/-- a def of the top -/
structure Df (K : PySem.W.Frag) (mg : Str → Option Value) (x : Str) (st : Stmt) (f : Addr) (fd : FuncData) (ps : List Str) : Prop where
  F : Fun K x x st f fd
  g : mg x = some (.ref f)
  b : Binds K fd ps []
/-- a method -/
structure Mf (K : PySem.W.Frag) (C : Addr) (x qual : Str) (st : Stmt) (f : Addr) (fd : FuncData) (ps : List Str) : Prop where
  F : Fun K x qual st f fd
  m : Meth K C x f
  b : Binds K fd ps []
/-! ### heaps -/
theorem same_upd {H : Hp} {p : Addr} {o : HO} (h : H p = none) : Same H (upd H p o) := fun b x e => by
  rw [upd_ne (ne_of_none e h)]
  exact e
/-- all that was tracked is as it was, but the list at b -/
def SameBut (b : Addr) (H H' : Hp) : Prop := ∀ a o, a ≠ b → H a = some o → H' a = some o
theorem SameBut.of_same {b : Addr} {H H' : Hp} (e : Same H H') : SameBut b H H' := fun a o _ h => e a o h
theorem SameBut.trans {b : Addr} {H H1 H2 : Hp} (x : SameBut b H H1) (y : SameBut b H1 H2) : SameBut b H H2 := fun a o n h => y a o n (x a o n h)
theorem SameBut.upd (b : Addr) (H : Hp) (o : HO) : SameBut b H (upd H b o) := fun a u n h => by
  rw [upd_ne n]
  exact h
/-! ### numbers -/
def CPowB (i j : Int) : Prop := 0 ≤ j ∧ (Builtin.Int.intBits i : Int) * j ≤ 2 ^ 27
theorem op_powB {X : Cx} : OpR X (binaryOp .Pow) (rI CPowB fun i j => .int (i ^ j.toNat)) := opI fun _ _ _ _ _ _ _ hc q => pow_int hc.1 hc.2 q
section
variable {X : Cx} {K : PySem.W.Frag} {σ : L2.St} {H : Hp} {ta tb : TE} {i j : Int} {p : Addr} {xs : List V} {v : V}
theorem val_i0b {g : Int → Int → Bool} (ha : Val ta σ H (.int i)) (hb : Val tb σ H (.int j)) : Val (tOp (rI0 fun i j => .bl (g i j)) ta tb) σ H (.bl (g i j)) :=
  val_op ha hb fun Q q => ⟨i, j, rfl, rfl, q⟩
def rAbs : List V → Hp → VK → Prop := fun xs H Q => ∃ i, xs = [.int i] ∧ Q (.int (if i < 0 then -i else i)) H
theorem val_abs (h : Val ta σ H (.int i)) : Val (tCB rAbs (tCons ta tNil)) σ H (.int (if i < 0 then -i else i)) := fun Q q => h _ ⟨i, rfl, q⟩
def rLenSq (K : PySem.W.Frag) : List V → Hp → VK → Prop := fun xs H Q => ∃ p ys, xs = [.ref p] ∧ (SqL K H p ys ∨ SqT K H p ys) ∧ Q (.int ys.length) H
theorem val_lenL (h : Val ta σ H (.ref p)) (hS : SqL K H p xs) : Val (tCB (rLenSq K) (tCons ta tNil)) σ H (.int xs.length) := fun Q q => h _ ⟨p, xs, rfl, .inl hS, q⟩
end
theorem b01 (b : Bool) : -(2 ^ 64) < (if b = true then (1 : Int) else 0) ∧ (if b = true then (1 : Int) else 0) < 2 ^ 64 := by cases b <;> exact ⟨by decide, by decide⟩
theorem b0 (b : Bool) : 0 ≤ (if b = true then (1 : Int) else 0) := by cases b <;> decide
theorem step_int {te : TE} {σ : L2.St} {H : Hp} {Q : VK} (h : ∃ z : Int, Val te σ H (.int z)) (k : ∀ z : Int, Q (.int z) H) : te σ H Q := by
  obtain ⟨z, hz⟩ := h
  exact hz Q (k z)
/-! ### a fresh box -/
abbrev s__law_box : Stmt := topS 30
theorem sc__law_box : FnScope ["_law_script", "_law_k", "_law_first", "_law_own"] ["_law_script", "_law_k"] (defScope s__law_box) := ⟨rfl, rfl, rfl, by decide +kernel, rfl, by decide +kernel, by decide +kernel⟩
def spBox (K : PySem.W.Frag) : Sp := fun vs H Q _ => ∃ (a : Addr) (ns : List Int) (k : Int), vs = [.ref a, .int k] ∧ SqL K H a (ns.map V.int) ∧ 0 ≤ k ∧ k < 100 ∧
  ∀ (b : Addr) (p q : Int), H b = none → Box p q 0 → Q (.ref b) (upd H b (.lst (bx p q 0)))
section
variable {P : Program} {w : World} {K : PySem.W.Frag} {mg : Str → Option Value} {base : Heap}
theorem ok_box {f : Addr} {fd : FuncData} (B : Bt mg) (D : Df K mg "_law_box" s__law_box f fd ["_law_script", "_law_k"]) : FnOk P w K mg base CX0 1 f fd ["_law_script", "_law_k"] (spBox K) := by
  refine D.F.ok sc__law_box (fun vs H Q E h => ?_) (fun cdv A outer s H vs Q E hr h => ?_)
  · obtain ⟨a, ns, k, rfl, _⟩ := h
    rfl
  · obtain ⟨a, ns, k, rfl, hS, k0, k1, kk⟩ := h
    have S := sc__law_box
    refine ⟨_, (pss_cons (ps_set (i := 2) S.nd rfl (.inl rfl) (pe_ifExp (pt_cmpR op_lt (pv 1) (pe_callB call_len_seq (by rfl) B.m_len PySem.boot_len (pa_cons (pv 0) pa_nil)) (nomark _)) (pe_ix ix_list (pv 0) (pv 1) (fun _ _ => rfl)) (pe_op op_add (pe_op op_mul pe_int (pv 1)) pe_int)))
      (pss_cons (ps_set (i := 3) S.nd rfl (.inl rfl) (pe_op op_mul (pe_op op_mod (pe_toInt (by rfl) B.m_int (pe_callB call_abs (by rfl) B.m_abs PyProof.Rows.boot_abs (pa_cons (pv 2) pa_nil))) (pe_op op_powB (pe_op op_pow pe_int pe_int) pe_int)) (pe_toInt (by rfl) B.m_int (pe_cmpR op_ge (pe_callB call_abs (by rfl) B.m_abs PyProof.Rows.boot_abs (pa_cons (pv 2) pa_nil)) (pe_op op_pow pe_int pe_int) (nomark _)))))
      (pss_one (ps_ret (pe_lst (pa_cons (pv 3) (pa_cons (pe_op op_mod (pe_toInt (by rfl) B.m_int (pe_op op_add (pe_op op_add (pe_op op_mul (pe_op op_mod (pe_toInt (by rfl) B.m_int (pv 2)) pe_int) pe_int) (pe_op op_mul (pe_op op_mul pe_int (pv 1)) (pv 1))) pe_int)) pe_int) (pa_cons pe_int pa_nil)))))))), ?_⟩
    show tIf _ _ _ _ _ _
    refine step_int ?_ fun z => ?_
    · by_cases hk : k < (ns.map V.int).length
      · have hk' : k.toNat < ns.length := by
          rw [List.length_map] at hk
          omega
        refine ⟨ns[k.toNat], fun Q q => ?_⟩
        refine (val_i0b (val_var rfl) (val_lenL (val_var rfl) hS)) _ ⟨_, rfl, ?_⟩
        rw [decide_eq_true hk]
        refine iteT ((val_ixL (val_var rfl) (val_var rfl) hS (at_of (j := k.toNat) (by omega) ?_)) _ q)
        rw [List.getElem?_map, List.getElem?_eq_getElem hk']
        rfl
      · refine ⟨37 * k + 11, fun Q q => ?_⟩
        refine (val_i0b (val_var rfl) (val_lenL (val_var rfl) hS)) _ ⟨_, rfl, ?_⟩
        rw [decide_eq_false hk]
        exact iteF ((val_i0 (val_iC val_c (val_var rfl) (.inl ⟨by decide, by decide⟩)) val_c) _ q)
    · refine (val_iC (val_iC (val_toInt (val_abs (val_var rfl))) (val_iC (val_iC val_c val_c ⟨by decide, by decide, by decide⟩) val_c ⟨by decide, by decide +kernel⟩) ?_) (val_toIntB (val_i0b (val_abs (val_var rfl)) (val_iC val_c val_c ⟨by decide, by decide, by decide⟩))) ?_) _ ?_
      · show (0 : Int) < (10 ^ (60 : Int).toNat) ^ (4 : Int).toNat
        decide +kernel
      · exact .inr (b01 _)
      generalize hp : (if z < 0 then -z else z) % (10 ^ (60 : Int).toNat) ^ (4 : Int).toNat * (if decide (10 ^ (18 : Int).toNat ≤ if z < 0 then -z else z) = true then 1 else 0) = p
      have p0 : 0 ≤ p := by
        rw [← hp]
        exact Int.mul_nonneg (Int.emod_nonneg _ (by decide +kernel)) (b0 _)
      refine ⟨_, rfl, ?_⟩
      have m1 : 0 ≤ z % 2305843009213693951 := Int.emod_nonneg _ (by decide)
      have m2 : z % 2305843009213693951 < 2305843009213693951 := Int.emod_lt_of_pos _ (by decide)
      refine (val_iC (val_toInt (val_i0 (val_i0 (val_iC (val_iC (val_toInt (val_var rfl)) val_c ?_) val_c ?_) (val_iC (val_iC val_c (val_var rfl) ?_) (val_var rfl) ?_)) val_c)) val_c ?_) _ ?_
      · show (0 : Int) < 2305843009213693951
        decide
      · exact .inr ⟨by decide, by decide⟩
      · exact .inl ⟨by decide, by decide⟩
      · exact .inr ⟨by omega, by omega⟩
      · show (0 : Int) < 2305843009213693921
        decide
      refine ⟨by show 3 ≤ sizeLine; decide, fun b hb => ?_⟩
      exact kk b _ _ hb ⟨p0, Int.emod_nonneg _ (by decide), Int.emod_lt_of_pos _ (by decide), by decide, by decide⟩
end
end K5
namespace K5
open PySem PySem.Spec PyProof.Rows L2
/-! ### kinds of values -/
inductive Kd (H : Hp) : V → String → Prop
  | non : Kd H .non "NoneType"
  | bl (b : Bool) : Kd H (.bl b) "bool"
  | int (i : Int) : Kd H (.int i) "int"
  | str (x : Str) : Kd H (.str x) "str"
  | lst {a : Addr} {xs : List V} (h : H a = some (.lst xs)) : Kd H (.ref a) "list"
  | tup {a : Addr} {xs : List V} (h : H a = some (.tup xs)) : Kd H (.ref a) "tuple"
  | dK {a : Addr} {kvs : List (Key × V)} (h : H a = some (.dK kvs)) : Kd H (.ref a) "dict"
theorem Kd.ty {K : PySem.W.Frag} {H : Hp} {x : V} {T : String} (h : Kd H x T) : TyX K H x (.type T) := by
  cases h with
  | non => exact .base .non
  | bl b => exact .base (.bl b)
  | int i => exact .base (.int i)
  | str x => exact .base (.str x)
  | lst h => exact .base (.lst h)
  | tup h => exact .base (.tup h)
  | dK h => exact .base (.dK h)
theorem Kd.mono {H H' : Hp} {x : V} {T : String} (h : Kd H x T) (e : Same H H') : Kd H' x T := by
  cases h with
  | non => exact .non
  | bl b => exact .bl b
  | int i => exact .int i
  | str x => exact .str x
  | lst h => exact .lst (e _ _ h)
  | tup h => exact .tup (e _ _ h)
  | dK h => exact .dK (e _ _ h)
def isI : V → Bool
  | .int _ => true
  | _ => false
def isIB : V → Bool
  | .int _ => true
  | .bl _ => true
  | _ => false
def isB : V → Bool
  | .bl _ => true
  | _ => false
def isS : V → Bool
  | .str _ => true
  | _ => false
theorem Kd.int_ {H : Hp} {x : V} {T : String} (h : Kd H x T) : kitB T "int" = some (isIB x) := by cases h <;> (simp only [isIB, isB, isS]; decide +kernel)
theorem Kd.bool_ {H : Hp} {x : V} {T : String} (h : Kd H x T) : kitB T "bool" = some (isB x) := by cases h <;> (simp only [isIB, isB, isS]; decide +kernel)
theorem Kd.str_ {H : Hp} {x : V} {T : String} (h : Kd H x T) : kitB T "str" = some (isS x) := by cases h <;> (simp only [isIB, isB, isS]; decide +kernel)
section
variable {X : Cx} {K : PySem.W.Frag} {σ : L2.St} {H : Hp} {ta tb tc : TE} {i j k : Int} {p : Addr} {xs : List V} {v x : V} {a b : Bool}
theorem val_isi {T C : String} (ha : Val ta σ H x) (hx : Kd H x T) (h : kitB T C = some b) : Val (tCB (rIsi K) (tCons ta (tCons (tC (.ty C)) tNil))) σ H (.bl b) := fun Q q =>
  ha _ ⟨x, .ty C, .type T, .type C, b, rfl, .ty C, hx.ty, kit_ty h, q⟩
theorem val_andV (ha : Val ta σ H (.bl a)) (hb : a = true → Val tb σ H (.bl b)) : Val (tAndV ta tb) σ H (.bl (a && b)) := fun Q q => ha _ ⟨a, rfl, by
  cases a with
  | true => exact iteT (hb rfl _ q)
  | false => exact iteF q⟩
theorem val_notV (ha : Val ta σ H (.bl a)) : Val (tNotV ta) σ H (.bl (!a)) := fun Q q => ha _ ⟨a, rfl, q⟩
theorem val_chain {g1 g2 : Int → Int → Bool} (ha : Val ta σ H (.int i)) (hb : Val tb σ H (.int j)) (hc : Val tc σ H (.int k)) :
    Val (tChain (rI0 fun i j => .bl (g1 i j)) (rI0 fun i j => .bl (g2 i j)) ta tb tc) σ H (.bl (g1 i j && g2 j k)) := fun Q q =>
  ha _ (hb _ ⟨i, j, rfl, rfl, g1 i j, rfl, by
    cases e : g1 i j with
    | true =>
      rw [e] at q
      exact iteT (hc _ ⟨j, k, rfl, rfl, q⟩)
    | false =>
      rw [e] at q
      exact iteF q⟩)
theorem pe_tyN {n : String} {y : Str} {pos : Pos} (hv : bootBuiltins y = some (.type n)) (hg : Gl X y) (hm : X.mg y = none) (hn : y ≠ "__name__" := by decide) (hdb : (y == ("__debug__" : Str)) = false := by decide) : PE X (.Name y pos) (tC (.ty n)) := pe_bltn hg hm hv rfl (hn := hn) (hd := hdb)
theorem bt_int : bootBuiltins "int" = some (.type "int") := by decide +kernel
theorem bt_bool : bootBuiltins "bool" = some (.type "bool") := by decide +kernel
theorem bt_str : bootBuiltins "str" = some (.type "str") := by decide +kernel
theorem val_call {sp : Sp} {E : XK} {t : TA} {vs : List V} (h : ∀ Q : List V → Hp → Prop, Q vs H → t σ H Q) (hs : ∀ Q : VK, Q v H → sp vs H Q E) : Val (tCall sp [] E t) σ H v := fun Q q =>
  h _ (by rw [List.append_nil]; exact hs Q q)
theorem va_nil : ∀ Q : List V → Hp → Prop, Q [] H → tNil σ H Q := fun _ q => q
theorem va_cons {t : TA} {vs : List V} (ha : Val ta σ H v) (ht : ∀ Q : List V → Hp → Prop, Q vs H → t σ H Q) : ∀ Q : List V → Hp → Prop, Q (v :: vs) H → tCons ta t σ H Q := fun Q q => ha _ (ht _ q)
def rLenS : List V → Hp → VK → Prop := fun xs H Q => ∃ z, xs = [.str z] ∧ z.length ≤ sizeLine ∧ Q (.int z.length) H
theorem val_lenS {z : Str} (h : Val ta σ H (.str z)) (hz : z.length ≤ sizeLine) : Val (tCB rLenS (tCons ta tNil)) σ H (.int z.length) := fun Q q => h _ ⟨z, rfl, hz, q⟩
theorem val_sb0 {g : Str → Bool} {z : Str} (h : Val ta σ H (.str z)) : Val (tBM0 K "str" (fun x xs H Q => ∃ a, x = .str a ∧ xs = [] ∧ True ∧ Q (.bl (g a)) H) ta) σ H (.bl (g z)) := fun Q q =>
  h _ ⟨rfl, z, rfl, rfl, True.intro, q⟩
end
/-! ### forms -/
def worthsOk : V → Bool
  | .int i => decide (2 ≤ i) && decide (i ≤ 4)
  | _ => false
def isName (z : Str) : Bool := (decide ((1 : Int) ≤ (z.length : Int)) && decide ((z.length : Int) ≤ 8)) && (Txt.isascii z && (Txt.isalpha z && Txt.islower z))
def isDoor (z : Str) : Bool := isName z && !decide (V.str z = V.str "any")
def spIsInt : Sp := fun vs H Q _ => ∃ (x : V) (T : String), vs = [x] ∧ Kd H x T ∧ Q (.bl (isI x)) H
def spIsWorths : Sp := fun vs H Q _ => ∃ (x : V) (T : String), vs = [x] ∧ Kd H x T ∧ Q (.bl (worthsOk x)) H
def nameV : V → Bool
  | .str z => isName z
  | _ => false
def doorV : V → Bool
  | .str z => isDoor z
  | _ => false
def spIsName : Sp := fun vs H Q _ => ∃ (x : V) (T : String), vs = [x] ∧ Kd H x T ∧ (∀ z : Str, x = .str z → z.length ≤ 10000000) ∧ Q (.bl (nameV x)) H
def spIsDoor : Sp := fun vs H Q _ => ∃ (x : V) (T : String), vs = [x] ∧ Kd H x T ∧ (∀ z : Str, x = .str z → z.length ≤ 10000000) ∧ Q (.bl (doorV x)) H
abbrev s_is_integer : Stmt := topS 5
theorem sc_is_integer : FnScope ["value"] ["value"] (defScope s_is_integer) := ⟨rfl, rfl, rfl, by decide +kernel, rfl, by decide +kernel, by decide +kernel⟩
abbrev s_is_name : Stmt := topS 8
theorem sc_is_name : FnScope ["value"] ["value"] (defScope s_is_name) := ⟨rfl, rfl, rfl, by decide +kernel, rfl, by decide +kernel, by decide +kernel⟩
abbrev s_is_door : Stmt := topS 9
theorem sc_is_door : FnScope ["value"] ["value"] (defScope s_is_door) := ⟨rfl, rfl, rfl, by decide +kernel, rfl, by decide +kernel, by decide +kernel⟩
theorem big_size {n : Nat} (h : n ≤ 10000000) : n ≤ sizeLine := Nat.le_trans h (by decide)
section
variable {P : Program} {w : World} {K : PySem.W.Frag} {mg : Str → Option Value} {base : Heap}
theorem ok_is_integer {f : Addr} {fd : FuncData} (B : Bt mg) (D : Df K mg "is_integer" s_is_integer f fd ["value"]) : FnOk P w K mg base CX0 1 f fd ["value"] spIsInt := by
  refine D.F.ok sc_is_integer (fun vs H Q E h => ?_) (fun cdv A outer s H vs Q E hr h => ?_)
  · obtain ⟨x, T, rfl, _⟩ := h
    rfl
  · obtain ⟨x, T, rfl, hx, k⟩ := h
    have S := sc_is_integer
    refine ⟨_, (pss_one (ps_ret (pe_and (pe_callB call_isi (by rfl) B.m_isinstance PyProof.Rows.boot_isinstance (pa_cons (pv 0) (pa_cons (pe_tyN bt_int (by rfl) B.m_int) pa_nil))) (pe_one (pe_not (pe_callB call_isi (by rfl) B.m_isinstance PyProof.Rows.boot_isinstance (pa_cons (pv 0) (pa_cons (pe_tyN bt_bool (by rfl) B.m_bool) pa_nil)))))))), ?_⟩
    refine (val_andV (val_isi (val_var rfl) hx hx.int_) fun _ => val_notV (val_isi (val_var rfl) hx hx.bool_)) _ ?_
    have e : (isIB x && !isB x) = isI x := by cases x <;> rfl
    rw [e]
    exact k
theorem ok_is_name {f : Addr} {fd : FuncData} (B : Bt mg) (D : Df K mg "is_name" s_is_name f fd ["value"]) : FnOk P w K mg base CX0 1 f fd ["value"] spIsName := by
  refine D.F.ok sc_is_name (fun vs H Q E h => ?_) (fun cdv A outer s H vs Q E hr h => ?_)
  · obtain ⟨x, Ty, rfl, _⟩ := h
    rfl
  · obtain ⟨x, Ty, rfl, hx, hz, k⟩ := h
    have S := sc_is_name
    refine ⟨_, (pss_cons (ps_if (pt_not (pt_val (pe_callB call_isi (by rfl) B.m_isinstance PyProof.Rows.boot_isinstance (pa_cons (pv 0) (pa_cons (pe_tyN bt_str (by rfl) B.m_str) pa_nil)))))
        (pss_one (ps_ret pe_bl))
        pss_nil)
      (pss_one (ps_ret (pe_and (pe_chain op_le op_le pe_int (pe_callB call_len_str (by rfl) B.m_len PySem.boot_len (pa_cons (pv 0) pa_nil)) pe_int) (pe_and (pe_bm0 PySem.F.plainAttrs_str PySem.F.slot_str_isascii PySem.F.type_str_isascii mt_isascii (pv 0)) (pe_and (pe_bm0 PySem.F.plainAttrs_str PySem.F.slot_str_isalpha PySem.F.type_str_isalpha mt_isalpha (pv 0)) (pe_one (pe_bm0 PySem.F.plainAttrs_str PySem.F.slot_str_islower PySem.F.type_str_islower mt_islower (pv 0))))))))), ?_⟩
    refine (val_isi (val_var rfl) hx hx.str_) _ ⟨_, rfl, ?_⟩
    cases x with
    | str z =>
      have hz := hz z rfl
      refine iteF ?_
      exact (val_andV (val_chain val_c (val_lenS (val_var rfl) (big_size hz)) val_c) fun _ => val_andV (val_sb0 (val_var rfl)) fun _ => val_andV (val_sb0 (val_var rfl)) fun _ => val_sb0 (val_var rfl)) _ k
    | _ => exact iteT (val_c _ k)
theorem ok_is_door {f fN : Addr} {fd fdN : FuncData} (B : Bt mg) (D : Df K mg "is_door" s_is_door f fd ["value"]) (D_is_name : Df K mg "is_name" s_is_name fN fdN ["value"]) : FnOk P w K mg base CX0 2 f fd ["value"] spIsDoor := by
  have G_is_name : FnOk P w K mg base CX0 1 fN fdN ["value"] spIsName := ok_is_name B D_is_name
  refine D.F.ok sc_is_door (fun vs H Q E h => ?_) (fun cdv A outer s H vs Q E hr h => ?_)
  · obtain ⟨x, Ty, rfl, _⟩ := h
    rfl
  · obtain ⟨x, Ty, rfl, hx, hz, k⟩ := h
    have S := sc_is_door
    refine ⟨_, (pss_one (ps_ret (pe_and (pe_call G_is_name (hr.mono (by decide)) (by rfl) D_is_name.g D_is_name.F.kp D_is_name.b .nil pass0 (pa_cons (pv 0) pa_nil)) (pe_one (pe_cmpR op_ne (pv 0) pe_str (nomark _)))))), ?_⟩
    refine (val_call (va_cons (val_var rfl) va_nil) fun Q q => ⟨x, Ty, rfl, hx, hz, q⟩) _ ⟨_, rfl, ?_⟩
    cases x with
    | str z =>
      have k : Q (.bl (isName z && !decide (V.str z = V.str "any"))) H := k
      show if isName z = true then _ else _
      cases c : isName z with
      | true =>
        rw [c, Bool.true_and] at k
        exact iteT ((val_op (val_var rfl) val_c fun Q q => ⟨rfl, q⟩) _ k)
      | false =>
        rw [c, Bool.false_and] at k
        exact iteF k
    | _ => exact iteF k
end
end K5
namespace K5
open PySem PySem.Spec PyProof.Rows L2
/-! ### numbers as words -/
theorem dec_range : ∀ c : Nat, c < 128 → Unicode.isDecimal c = true → 48 ≤ c ∧ c < 58 := by
  have h : ∀ c : Fin 128, Unicode.isDecimal c.val = true → 48 ≤ c.val ∧ c.val < 58 := by decide +kernel
  exact fun c hc => h ⟨c, hc⟩
def okNum (z : Str) : Bool := match PySem.intText? z with
  | some n => decide (0 ≤ n ∧ n ≤ 999)
  | none => false
theorem okNum_spec {z : Str} (h : okNum z = true) : ∃ n, PySem.intText? z = some n ∧ 0 ≤ n ∧ n ≤ 999 := by
  unfold okNum at h
  cases e : PySem.intText? z with
  | none => rw [e] at h; cases h
  | some n =>
    rw [e] at h
    exact ⟨n, rfl, of_decide_eq_true h⟩
theorem ok1 : ∀ a : Fin 10, okNum ⟨#[48 + a.val]⟩ = true := by decide +kernel
theorem ok2 : ∀ a b : Fin 10, okNum ⟨#[48 + a.val, 48 + b.val]⟩ = true := by decide +kernel
theorem ok3 : ∀ a b c : Fin 10, okNum ⟨#[48 + a.val, 48 + b.val, 48 + c.val]⟩ = true := by decide +kernel
theorem digits3 {z : Str} (h3 : z.length ≤ 3) (ha : Txt.isascii z = true) (hd : Txt.isdecimal z = true) : okNum z = true := by
  obtain ⟨⟨l⟩⟩ := z
  have hall : ∀ c ∈ l, 48 ≤ c ∧ c < 58 := by
    intro c hc
    unfold Txt.isascii at ha
    unfold Txt.isdecimal at hd
    rw [Bool.and_eq_true] at hd
    have h1 := hd.2
    rw [List.all_toArray, List.all_eq_true] at h1 ha
    exact dec_range c (of_decide_eq_true (ha c hc)) (h1 c hc)
  have hl : 0 < l.length := by
    unfold Txt.isdecimal at hd
    rw [Bool.and_eq_true] at hd
    exact of_decide_eq_true hd.1
  have hl3 : l.length ≤ 3 := h3
  match l, hl, hl3, hall with
  | [a], _, _, hall =>
    have q := hall a (by simp)
    have z := ok1 ⟨a - 48, by omega⟩
    rw [show 48 + (a - 48) = a by omega] at z
    exact z
  | [a, b], _, _, hall =>
    have q1 := hall a (by simp)
    have q2 := hall b (by simp)
    have z := ok2 ⟨a - 48, by omega⟩ ⟨b - 48, by omega⟩
    rw [show 48 + (a - 48) = a by omega, show 48 + (b - 48) = b by omega] at z
    exact z
  | [a, b, c], _, _, hall =>
    have q1 := hall a (by simp)
    have q2 := hall b (by simp)
    have q3 := hall c (by simp)
    have z := ok3 ⟨a - 48, by omega⟩ ⟨b - 48, by omega⟩ ⟨c - 48, by omega⟩
    rw [show 48 + (a - 48) = a by omega, show 48 + (b - 48) = b by omega, show 48 + (c - 48) = c by omega] at z
    exact z
def numV (z : Str) : Int := (PySem.intText? z).getD 0
def numOf (z : Str) (many : Int) : Int :=
  if (decide ((3 : Int) < (z.length : Int)) || !(Txt.isascii z && Txt.isdecimal z)) = true then -1
  else if (decide (V.str (toString (numV z)) = V.str z) && decide (numV z < many)) = true then numV z else -1
section
variable {X : Cx} {K : PySem.W.Frag} {σ : L2.St} {H : Hp} {ta tb tc : TE} {t u : TT} {i j k : Int} {p : Addr} {xs : List V} {v x : V} {a b : Bool}
theorem ans_or2 (h1 : Ans t σ H a) (h2 : a = false → Ans u σ H b) : Ans (tOr t u) σ H (a || b) := by
  intro Q q
  refine h1 _ ?_
  cases a with
  | true => exact iteT q
  | false => exact iteF (h2 rfl Q q)
theorem ans_and3 (h1 : Ans t σ H a) (h2 : a = true → Ans u σ H b) : Ans (tAnd t u) σ H (a && b) := by
  intro Q q
  refine h1 _ ?_
  cases a with
  | true => exact iteT (h2 rfl Q q)
  | false => exact iteF q
theorem ans_i0 {g : Int → Int → Bool} (ha : Val ta σ H (.int i)) (hb : Val tb σ H (.int j)) : Ans (tTest (tOp (rI0 fun i j => .bl (g i j)) ta tb)) σ H (g i j) := fun Q q =>
  (val_i0b ha hb) _ ⟨_, rfl, q⟩
theorem ans_eq2 (ha : Val ta σ H x) (hb : Val tb σ H v) (hs : scal x v = true) : Ans (tTest (tOp rEq ta tb)) σ H (decide (x = v)) := ans_eq ha hb hs rfl
theorem val_ite (ht : Ans t σ H a) (h1 : a = true → Val ta σ H x) (h2 : a = false → Val tb σ H v) : Val (tIf t ta tb) σ H (if a = true then x else v) := fun Q q => ht _ (by
  cases a with
  | true => exact iteT (h1 rfl Q q)
  | false => exact iteF (h2 rfl Q q))
theorem val_neg (h : Val ta σ H (.int i)) : Val (tUn (rU fun i => .int (-i)) ta) σ H (.int (-i)) := fun Q q => h _ ⟨i, rfl, q⟩
theorem val_intS {z : Str} {n : Int} (h : Val ta σ H (.str z)) (hn : PySem.intText? z = some n) (hl : z.length ≤ 640) : Val (tCB (fun xs H Q => ∃ a n, xs = [.str a] ∧ PySem.intText? a = some n ∧ a.length ≤ 640 ∧ Q (.int n) H) (tCons ta tNil)) σ H (.int n) := fun Q q => h _ ⟨z, n, rfl, hn, hl, q⟩
theorem val_strI {n : Int} (h : Val ta σ H (.int n)) (hl : n.natAbs.log2 < 1920) : Val (tCB (fun xs H Q => ∃ i, xs = [.int i] ∧ i.natAbs.log2 < 1920 ∧ Q (.str (toString i)) H) (tCons ta tNil)) σ H (.str (toString n)) := fun Q q => h _ ⟨n, rfl, hl, q⟩
end
def spNumber : Sp := fun vs H Q _ => ∃ (z : Str) (m : Int), vs = [.str z, .int m] ∧ z.length ≤ 10000000 ∧ Q (.int (numOf z m)) H
abbrev s_number : Stmt := topS 13
theorem sc_number : FnScope ["word", "many", "worth"] ["word", "many"] (defScope s_number) := ⟨rfl, rfl, rfl, by decide +kernel, rfl, by decide +kernel, by decide +kernel⟩
theorem log_small {n : Nat} (h : n ≤ 999) : n.log2 < 1920 := by
  by_cases h0 : n = 0
  · rw [h0]; decide
  · exact Nat.lt_of_lt_of_le ((Nat.log2_lt h0).mpr (show n < 2 ^ 10 by omega)) (by decide)
section
variable {P : Program} {w : World} {K : PySem.W.Frag} {mg : Str → Option Value} {base : Heap}
theorem ok_number {f : Addr} {fd : FuncData} (B : Bt mg) (D : Df K mg "number" s_number f fd ["word", "many"]) : FnOk P w K mg base CX0 1 f fd ["word", "many"] spNumber := by
  refine D.F.ok sc_number (fun vs H Q E h => ?_) (fun cdv A outer s H vs Q E hr h => ?_)
  · obtain ⟨z, m, rfl, _⟩ := h
    rfl
  · obtain ⟨z, m, rfl, hz, k⟩ := h
    have S := sc_number
    refine ⟨_, (pss_cons (ps_if (PW.pt (pw_or (pt_cmpR op_gt (pe_callB call_len_str (by rfl) B.m_len PySem.boot_len (pa_cons (pv 0) pa_nil)) pe_int (nomark _)) (pw_or1 (pt_not (PW.pt (pw_and (pt_val (pe_bm0 PySem.F.plainAttrs_str PySem.F.slot_str_isascii PySem.F.type_str_isascii mt_isascii (pv 0))) (pw_and1 (pt_val (pe_bm0 PySem.F.plainAttrs_str PySem.F.slot_str_isdecimal PySem.F.type_str_isdecimal mt_isdecimal (pv 0))))))))))
        (pss_one (ps_ret (pe_un un_neg pe_int)))
        pss_nil)
      (pss_cons (ps_set (i := 2) S.nd rfl (.inl rfl) (pe_callTy call_int_str (by rfl) B.m_int PyProof.Rows.boot_int (pa_cons (pv 0) pa_nil)))
      (pss_one (ps_ret (pe_ifExp (PW.pt (pw_and (pt_cmpR op_eq (pe_callTy call_str_int (by rfl) B.m_str (by decide +kernel) (pa_cons (pv 2) pa_nil)) (pv 0) (nomark _)) (pw_and1 (pt_cmpR op_lt (pv 2) (pv 1) (nomark _))))) (pv 2) (pe_un un_neg pe_int)))))), ?_⟩
    refine (ans_or2 (ans_i0 (val_lenS (val_var rfl) (big_size hz)) val_c) fun _ => ans_not (ans_and3 (ans_val (val_sb0 (val_var rfl))) fun _ => ans_val (val_sb0 (val_var rfl)))) _ ?_
    by_cases c : (decide ((3 : Int) < (z.length : Int)) || !(Txt.isascii z && Txt.isdecimal z)) = true
    · rw [c]
      refine iteT ((val_neg val_c) _ ?_)
      have e : numOf z m = -1 := if_pos c
      rw [e] at k
      exact k
    · have e : numOf z m = if (decide (V.str (toString (numV z)) = V.str z) && decide (numV z < m)) = true then numV z else -1 := if_neg c
      rw [Bool.not_eq_true] at c
      rw [c]
      rw [Bool.or_eq_false_iff, Bool.not_eq_false', Bool.and_eq_true] at c
      obtain ⟨c1, c2, c3⟩ := c
      have h3 : z.length ≤ 3 := by
        have := of_decide_eq_false c1
        omega
      obtain ⟨n, hn, n0, n1⟩ := okNum_spec (digits3 h3 c2 c3)
      have en : numV z = n := by
        unfold numV
        rw [hn]
        rfl
      refine iteF ?_
      dsimp only [tNext, tSeq, tAsg]
      refine (val_intS (val_var rfl) hn (by omega)) _ ?_
      refine (val_ite (ans_and3 (ans_eq2 (val_strI (val_var rfl) (log_small (by omega))) (val_var rfl) rfl) fun _ => ans_i0 (val_var rfl) (val_var rfl)) (fun _ => val_var rfl) fun _ => val_neg val_c) _ ?_
      rw [en] at e
      rw [e] at k
      cases q : (decide (V.str (toString n) = V.str z) && decide (n < m)) with
      | true =>
        rw [q, if_pos rfl] at k
        rw [if_pos rfl]
        exact k
      | false =>
        rw [q, if_neg Bool.false_ne_true] at k
        rw [if_neg Bool.false_ne_true]
        exact k
end
end K5
namespace K5
open PySem PySem.Spec PyProof.Rows L2
/-! ### errors -/
/-- the error x's class at C, its __init__ at fI -/
structure Er (K : PySem.W.Frag) (mg : Str → Option Value) (x : Str) (C fI : Addr) : Prop where
  O : OexC K C
  g : mg x = some (.ref C)
  iC : PySem.W.findIn K (.ref C) "__init__" = some (some (.ref fI))
  tI : PySem.W.typeIn K (.ref fI) = some (.type "function")
  nv : PySem.W.findIn K (.ref C) "value" = some none
/-- an error of the class at C with this value lies behind H -/
def ErrK (C : Addr) (v : V) (H : Hp) (E : XK) : Prop := ∀ (d : Addr) (H' : Hp), Same H H' → H d = none → H' d = some (.xd [(("value" : Str), v)]) → E (.ref C) (some d) H'
theorem ErrK.mono {C : Addr} {v : V} {H H1 : Hp} {E : XK} (h : ErrK C v H E) (e : Same H H1) : ErrK C v H1 E := fun d H' e2 nd hd => h d H' (e.trans e2) (e.free nd) hd
def spErr (K : PySem.W.Frag) : Sp := fun vs H Q _ => ∃ (a C : Addr) (v : V), vs = [.ref a, v] ∧ OexC K C ∧ PySem.W.findIn K (.ref C) "value" = some none ∧ H a = some (exo a C none) ∧
  ∀ dx, H dx = none → dx ≠ a → Q .non (upd (upd H dx (exd dx [(("value" : Str), v)])) a (exo a C (some dx)))
abbrev s_err : Stmt := inClass (topS 1) 0
theorem sc_err : FnScope ["self", "value"] ["self", "value"] (defScope s_err) := ⟨rfl, rfl, rfl, by decide +kernel, rfl, by decide +kernel, by decide +kernel⟩
section
variable {P : Program} {w : World} {K : PySem.W.Frag} {mg : Str → Option Value} {base : Heap}
theorem ok_err {f : Addr} {fd : FuncData} (F : Fun K "__init__" "WireError.__init__" s_err f fd) : FnOk P w K mg base CX0 1 f fd ["self", "value"] (spErr K) := by
  refine F.ok sc_err (fun vs H Q E h => ?_) (fun cdv A outer s H vs Q E hr h => ?_)
  · obtain ⟨a, C, v, rfl, _⟩ := h
    rfl
  · obtain ⟨a, C, v, rfl, T, hn, ha, k⟩ := h
    refine ⟨_, pss_one (ps_ost (pv 0) (pv 1)), ?_⟩
    exact ⟨v, rfl, .ref a, rfl, a, C, rfl, T, hn, .inl ⟨ha, fun dx nd ne => k dx nd ne⟩⟩
end
/-- raise X(e), the value of e known -/
theorem raise_run {K : PySem.W.Frag} {C : Addr} {ta : TE} {σ : L2.St} {H : Hp} {v : V} {Q : XK} (T : OexC K C) (hn : PySem.W.findIn K (.ref C) "value" = some none) (hv : Val ta σ H v) (h : ErrK C v H Q) :
    tMkO C (spErr K) [] (tCons ta tNil) σ H Q := by
  refine hv _ ⟨by show 1 ≤ 1000; decide, fun a na => ?_⟩
  refine ⟨a, C, v, rfl, T, hn, upd_same, fun dx nd ne => ⟨rfl, dx, [(("value" : Str), v)], upd_same, ?_, ?_, ?_⟩⟩
  · rw [upd_ne ne, upd_same]
  · rw [upd_ne ne] at nd
    exact nd
  · have nd' : H dx = none := by
      rw [upd_ne ne] at nd
      exact nd
    refine h dx _ (fun b o e => ?_) nd' upd_same
    have n1 : b ≠ dx := ne_of_none e nd'
    have n2 : b ≠ a := ne_of_none e na
    rw [upd_ne n1, del_ne n2, upd_ne n2, upd_ne n1, upd_ne n2]
    exact e
/-! ### texts -/
def rRepS : R2 := fun x y H Q => ∃ z n, x = .str z ∧ y = .int n ∧ MulOk z n ∧ Q (.str (Txt.mul z n)) H
theorem op_repS {X : Cx} : OpR X (binaryOp .Mult) rRepS := by
  intro pins s σ H x y v u Q I rx ry h
  obtain ⟨z, n, rfl, rfl, hc, q⟩ := h
  obtain ⟨t, rfl⟩ := rx
  obtain ⟨t', rfl⟩ := ry
  exact SB.mul hc fun t' k => ⟨.str _, H, I.tok _, ⟨_, rfl⟩, q⟩
/-! ### lines -/
theorem lk_hd {f : Str} {v : V} {r : List (Str × V)} : List.lookup f ((f, v) :: r) = some v := by simp [List.lookup]
theorem lk_tl {f g : Str} {v : V} {r : List (Str × V)} (h : ¬ f = g) : List.lookup f ((g, v) :: r) = List.lookup f r := by
  have e : (f == g) = false := by simpa using h
  simp [List.lookup, e]
theorem put_hd {f : Str} {v x : V} {r : List (Str × V)} : putF f v ((f, x) :: r) = (f, v) :: r := by
  unfold putF
  rw [if_pos rfl]
theorem put_tl {f g : Str} {v x : V} {r : List (Str × V)} (h : ¬ g = f) : putF f v ((g, x) :: r) = (g, x) :: putF f v r := by
  show (if g = f then _ else _) = _
  rw [if_neg h]
structure ClL (K : PySem.W.Frag) (C : Addr) : Prop where
  cl : Cls K C
  nr : NoAttr K C "rows"
  na : NoAttr K C "at"
def lf (r : Addr) (n : Int) : List (Str × V) := [("rows", .ref r), ("at", .int n)]
theorem lf_rows {r : Addr} {n : Int} : (lf r n).lookup ("rows" : Str) = some (.ref r) := lk_hd
theorem lf_at {r : Addr} {n : Int} : (lf r n).lookup ("at" : Str) = some (.int n) := (lk_tl (by decide +kernel)).trans lk_hd
theorem lf_no {r : Addr} {n : Int} {m : Str} (h1 : ¬ m = "rows") (h2 : ¬ m = "at") : (lf r n).lookup m = none := (lk_tl h1).trans (lk_tl h2)
theorem lf_put {r : Addr} {n k : Int} : putF "at" (.int k) (lf r n) = lf r k := (put_tl (by decide +kernel)).trans (congrArg _ put_hd)
/-- a reader of these rows, at a line -/
structure LinesAt (C : Addr) (H : Hp) (l dx r : Addr) (rows : List Str) (n : Nat) : Prop where
  o : H l = some (.ins C dx (lf r n))
  r : H r = some (.lst (rows.map V.str))
  le : n ≤ rows.length
theorem LinesAt.mono {C : Addr} {H H' : Hp} {l dx r : Addr} {rows : List Str} {n : Nat} (h : LinesAt C H l dx r rows n) (e : Same H H') : LinesAt C H' l dx r rows n := ⟨e _ _ h.o, e _ _ h.r, h.le⟩
/-- sizes that are never met -/
structure Sz (rows : List Str) : Prop where
  len : rows.length ≤ 14001
  row : ∀ z ∈ rows, z.length ≤ 14000
  ok : ∀ z ∈ rows, PyData.strOk z = true
/-! ### what stands in the parts of a text -/
theorem cps_append (x y : Str) : (x ++ y).cps.toList = x.cps.toList ++ y.cps.toList := by
  show (x.cps ++ y.cps).toList = _
  exact Array.toList_append
theorem join_mem {y p : Str} {c : Nat} : ∀ {ps : List Str}, p ∈ ps → c ∈ p.cps.toList → c ∈ (Str.join y ps).cps.toList
  | [x], hp, hc => by
    have e : p = x := by simpa using hp
    rw [← e]
    exact hc
  | x :: z :: r, hp, hc => by
    show c ∈ (x ++ y ++ Str.join y (z :: r)).cps.toList
    rw [cps_append, cps_append]
    rcases List.mem_cons.mp hp with e | e
    · rw [e] at hc
      exact List.mem_append_left _ (List.mem_append_left _ hc)
    · exact List.mem_append_right _ (join_mem e hc)
theorem join_len {y p : Str} : ∀ {ps : List Str}, p ∈ ps → p.length ≤ (Str.join y ps).length
  | [x], hp => by
    have e : p = x := by simpa using hp
    rw [← e]
    exact Nat.le_refl _
  | x :: z :: r, hp => by
    have e0 : (Str.join y (x :: z :: r)).length = x.length + y.length + (Str.join y (z :: r)).length := by
      show (x.cps ++ y.cps ++ (Str.join y (z :: r)).cps).size = _
      rw [Array.size_append, Array.size_append]
      rfl
    rw [e0]
    rcases List.mem_cons.mp hp with e | e
    · rw [e]
      omega
    · have := join_len (y := y) e
      omega
theorem join_many {y : Str} (hy : 1 ≤ y.length) : ∀ {ps : List Str}, ps.length ≤ (Str.join y ps).length + 1
  | [] => Nat.zero_le _
  | [x] => Nat.le_add_left _ _
  | x :: z :: r => by
    have ih := join_many hy (ps := z :: r)
    have e0 : (Str.join y (x :: z :: r)).length = x.length + y.length + (Str.join y (z :: r)).length := by
      show (x.cps ++ y.cps ++ (Str.join y (z :: r)).cps).size = _
      rw [Array.size_append, Array.size_append]
      rfl
    rw [e0, List.length_cons]
    omega
theorem split_len {x y p : Str} (h : p ∈ Txt.split x y) : p.length ≤ x.length := by
  have := join_len (y := y) h
  rw [StrLaws.join_split] at this
  exact this
theorem split_ok {x y p : Str} (h : p ∈ Txt.split x y) (hx : PyData.strOk x = true) : PyData.strOk p = true := by
  unfold PyData.strOk at hx ⊢
  rw [Array.all_eq_true'] at hx ⊢
  intro c hc
  have := join_mem (y := y) h (Array.mem_toList_iff.mpr hc)
  rw [StrLaws.join_split] at this
  exact hx c (Array.mem_toList_iff.mp this)
theorem cut_ok {x : Str} {lo hi : Option Int} (hx : PyData.strOk x = true) : PyData.strOk (cutS x lo hi) = true := by
  unfold PyData.strOk at hx ⊢
  rw [Array.all_eq_true'] at hx ⊢
  intro c hc
  refine hx c (Array.mem_toList_iff.mp ?_)
  have h1 : c ∈ (cutS x lo hi).cps.toList := Array.mem_toList_iff.mpr hc
  have h2 : c ∈ (x.cps.toList.drop (HT.sIx x.length 0 lo)).take (HT.sIx x.length x.length hi - HT.sIx x.length 0 lo) := h1
  exact List.mem_of_mem_drop (List.mem_of_mem_take h2)
theorem sz_rows {z : Str} (hz : z.length ≤ 14000) (ho : PyData.strOk z = true) : Sz (Txt.split z "\n") where
  len := by
    have := join_many (y := "\n") (by decide +kernel) (ps := Txt.split z "\n")
    rw [StrLaws.join_split] at this
    omega
  row := fun p hp => Nat.le_trans (split_len hp) hz
  ok := fun p hp => split_ok hp ho
def margin (dp : Nat) : Str := Txt.mul "  " (dp : Int)
def cleanWords (ws : List Str) : List Str := if inV (.str "") (ws.map V.str) = true then [] else ws
def restWords (row : Str) (dp : Nat) : List Str := Txt.split (cutS row (some ((margin dp).length : Int)) none) " "
def rowWords (row : Str) (dp : Nat) : List Str := if Txt.startswith row (margin dp) = true then cleanWords (restWords row dp) else []
def wordsAt (rows : List Str) (n dp : Nat) : List Str := match rows[n]? with
  | none => []
  | some row => rowWords row dp
theorem words_ok {rows : List Str} {n dp : Nat} (sz : Sz rows) : ∀ z ∈ wordsAt rows n dp, PyData.strOk z = true ∧ z.length ≤ 14000 := by
  intro z hz
  unfold wordsAt at hz
  cases e : rows[n]? with
  | none =>
    rw [e] at hz
    cases hz
  | some row =>
    rw [e] at hz
    have hr : row ∈ rows := List.mem_of_getElem? e
    have h2 : z ∈ restWords row dp := by
      unfold rowWords cleanWords at hz
      dsimp only at hz
      split at hz
      · split at hz
        · cases hz
        · exact hz
      · cases hz
    exact ⟨split_ok h2 (cut_ok (sz.ok _ hr)), Nat.le_trans (split_len h2) (Nat.le_trans (cutS_length _ _ _) (sz.row _ hr))⟩
theorem words_many {rows : List Str} {n dp : Nat} (sz : Sz rows) : (wordsAt rows n dp).length ≤ 14001 := by
  unfold wordsAt
  cases e : rows[n]? with
  | none => exact Nat.zero_le _
  | some row =>
    have hr : row ∈ rows := List.mem_of_getElem? e
    have h1 : (restWords row dp).length ≤ 14001 := by
      have := join_many (y := " ") (by decide +kernel) (ps := restWords row dp)
      unfold restWords at this ⊢
      rw [StrLaws.join_split] at this
      have h2 := cutS_length row (some ((margin dp).length : Int)) none
      have h3 := sz.row _ hr
      omega
    show (rowWords row dp).length ≤ _
    unfold rowWords cleanWords
    split
    · split
      · exact Nat.zero_le _
      · exact h1
    · exact Nat.zero_le _
/-- a list or tuple of texts, as data -/
theorem dpAll_strs {K : PySem.W.Frag} {H : Hp} : ∀ l : List Str, DpAll K H (l.map V.str) (l.map PyData.str)
  | [] => .nil
  | z :: r => .cons (.str z) (dpAll_strs r)
theorem lay_strs : ∀ {l : List Str}, (∀ z ∈ l, PyData.strOk z = true) → PyData.canLayAll0 (l.map PyData.str) = true ∧ PyData.depthAll (l.map PyData.str) = 0
  | [], _ => ⟨by simp [PyData.canLayAll0], by simp [PyData.depthAll]⟩
  | z :: r, h => by
    have ih := lay_strs (l := r) fun y hy => h y (List.mem_cons_of_mem _ hy)
    have hz := h z (List.mem_cons_self ..)
    constructor
    · simp [PyData.canLayAll0, PyData.canLay0, hz, ih.1]
    · simp [PyData.depthAll, PyData.depth, ih.2]
theorem shaped_strs {l : List Str} (h : ∀ z ∈ l, PyData.strOk z = true) : SeqAt.shaped (.list (l.map PyData.str)) = true := by
  have q := lay_strs h
  unfold SeqAt.shaped
  simp [PyData.canLay0, PyData.depth, q.1, q.2]
theorem eqv_strs : ∀ a b : List Str, PyData.eqvAll (a.map PyData.str) (b.map PyData.str) = decide (a = b)
  | [], [] => by simp [PyData.eqvAll]
  | [], _ :: _ => by simp [PyData.eqvAll]
  | _ :: _, [] => by simp [PyData.eqvAll]
  | x :: a, y :: b => by
    rw [List.map_cons, List.map_cons, PyData.eqvAll, eqv_strs a b, PyData.eqv]
    by_cases h : x = y
    · subst h
      simp
    · simp [h]
theorem margin_ok {dp : Nat} (h : dp ≤ 3) : MulOk ("  " : Str) (dp : Int) ∧ (margin dp).length ≤ 6 := by
  match dp, h with
  | 0, _ => exact ⟨⟨by decide, fun q => absurd (by decide) q, fun q => absurd (by decide) q⟩, by decide +kernel⟩
  | 1, _ => exact ⟨⟨by decide, fun _ q => absurd q (by decide), fun _ q => absurd q (by decide)⟩, by decide +kernel⟩
  | 2, _ => exact ⟨⟨by decide, fun _ _ => by decide +kernel, fun _ _ => by decide +kernel⟩, by decide +kernel⟩
  | 3, _ => exact ⟨⟨by decide, fun _ _ => by decide +kernel, fun _ _ => by decide +kernel⟩, by decide +kernel⟩
end K5
namespace K5
open PySem PySem.Spec PyProof.Rows L2
theorem cutS_le {z : Str} {lo hi : Option Int} : (cutS z lo hi).length ≤ z.length := cutS_length z lo hi
abbrev s_Lines___init__ : Stmt := inClass (topS 12) 0
theorem sc_Lines___init__ : FnScope ["self", "text"] ["self", "text"] (defScope s_Lines___init__) := ⟨rfl, rfl, rfl, by decide +kernel, rfl, by decide +kernel, by decide +kernel⟩
abbrev s_Lines_words : Stmt := inClass (topS 12) 1
theorem sc_Lines_words : FnScope ["self", "depth", "margin", "words"] ["self", "depth"] (defScope s_Lines_words) := ⟨rfl, rfl, rfl, by decide +kernel, rfl, by decide +kernel, by decide +kernel⟩
abbrev s_Lines_step : Stmt := inClass (topS 12) 5
theorem sc_Lines_step : FnScope ["self"] ["self"] (defScope s_Lines_step) := ⟨rfl, rfl, rfl, by decide +kernel, rfl, by decide +kernel, by decide +kernel⟩
abbrev s_Lines_need : Stmt := inClass (topS 12) 6
theorem sc_Lines_need : FnScope ["self", "right"] ["self", "right"] (defScope s_Lines_need) := ⟨rfl, rfl, rfl, by decide +kernel, rfl, by decide +kernel, by decide +kernel⟩
/-! ### promises -/
def rowsOf (z : Str) : List Str := Txt.split z "\n"
def spLinesInit (C CT : Addr) : Sp := fun vs H Q E => ∃ (l dx : Addr) (x : V) (T : String), vs = [.ref l, x] ∧ H l = some (.ins C dx []) ∧ Kd H x T ∧
  (∀ z : Str, x = .str z → z.length ≤ 14000 ∧ ∀ (H' : Hp) (r : Addr), SameBut l H H' → H r = none → LinesAt C H' l dx r (rowsOf z) 0 → Q .non H') ∧
  (isS x = false → ErrK CT (.int (-1)) H E)
def spWords (C : Addr) : Sp := fun vs H Q _ => ∃ (l dx r : Addr) (rows : List Str) (n dp : Nat), vs = [.ref l, .int dp] ∧ LinesAt C H l dx r rows n ∧ Sz rows ∧ dp ≤ 3 ∧
  ∀ (H' : Hp) (p : Addr), Same H H' → H p = none → H' p = some (.lst ((wordsAt rows n dp).map V.str)) → Q (.ref p) H'
def spBegins (C : Addr) : Sp := fun vs H Q _ => ∃ (l dx r : Addr) (rows : List Str) (n : Nat) (z : Str), vs = [.ref l, .str z] ∧ LinesAt C H l dx r rows n ∧ Sz rows ∧ PyData.strOk z = true ∧
  ∀ H' : Hp, Same H H' → Q (.bl (decide ((wordsAt rows n 0).take 1 = [z]))) H'
def spStep (C : Addr) : Sp := fun vs H Q _ => ∃ (l dx r : Addr) (rows : List Str) (n : Nat), vs = [.ref l] ∧ LinesAt C H l dx r rows n ∧ n < rows.length ∧
  ∀ H' : Hp, SameBut l H H' → LinesAt C H' l dx r rows (n + 1) → Q .non H'
def spNeed (K : PySem.W.Frag) (C CT : Addr) : Sp := fun vs H Q E => ∃ (l dx r : Addr) (rows : List Str) (n : Nat) (x : V) (b : Bool), vs = [.ref l, x] ∧ LinesAt C H l dx r rows n ∧ TruV K x H b ∧
  (b = true → Q .non H) ∧ (b = false → ErrK CT (.int n) H E)
def spNeedEnd (C CT : Addr) : Sp := fun vs H Q E => ∃ (l dx r : Addr) (rows : List Str) (n : Nat), vs = [.ref l] ∧ LinesAt C H l dx r rows n ∧
  (n = rows.length → Q .non H) ∧ (n ≠ rows.length → ErrK CT (.int n) H E)
section
variable {X : Cx} {K : PySem.W.Frag} {σ : L2.St} {H : Hp} {ta tb tc : TE} {t u : TT} {i j k : Int} {p : Addr} {xs : List V} {v x : V} {a b : Bool}
theorem val_repS {z : Str} {n : Int} (ha : Val ta σ H (.str z)) (hb : Val tb σ H (.int n)) (hc : MulOk z n) : Val (tOp rRepS ta tb) σ H (.str (Txt.mul z n)) := val_op ha hb fun Q q => ⟨z, n, rfl, rfl, hc, q⟩
theorem val_sw {z y : Str} (ha : Val ta σ H (.str z)) (hb : Val tb σ H (.str y)) : Val (tBM K "str" (fun x xs H Q => ∃ a b, x = .str a ∧ xs = [.str b] ∧ Q (.bl (Txt.startswith a b)) H) ta (tCons tb tNil)) σ H (.bl (Txt.startswith z y)) := fun Q q =>
  ha _ ⟨rfl, hb _ ⟨z, y, rfl, rfl, q⟩⟩
theorem val_cutS {z : Str} {n : Int} (ha : Val ta σ H (.str z)) (hb : Val tb σ H (.int n)) (hz : z.length ≤ sizeLine) : Val (tSl rSlS ta (tPart tb) tNoPart) σ H (.str (cutS z (some n) none)) := fun Q q =>
  ha _ (hb _ ⟨n, rfl, z, rfl, hz, q⟩)
end
section
variable {P : Program} {w : World} {K : PySem.W.Frag} {mg : Str → Option Value} {base : Heap}
/-- an error of a callee leaves the def as its own -/
theorem pxp {X : Cx} {E : XK} (hs : X.stack = X.env :: X.outer) (hf : X.env.frame = some X.env.locals) (hex : X.ex = []) {E₁ : Value → Shared → Prop}
    (hx : X.xe = fun e s' => wpAny (model X.prog X.w) X.A (leaving X.env e) (fun _ s'' => L2.CX X.prog X.w X.outer X.H_0 X.s_0 E e s'') E₁ s') : Passes (L2.CX X.prog X.w) X E :=
  passes_call (W := fun c d _ H => E c d H) (takes_of hs hf hex hx) fun _ _ _ _ h => h
theorem ok_Lines_init {f CL CT fE : Addr} {fd fdE : FuncData} (B : Bt mg) (L : ClL K CL) (F : Fun K "__init__" "Lines.__init__" s_Lines___init__ f fd) (T : Er K mg "BadText" CT fE) (FE : Fun K "__init__" "WireError.__init__" s_err fE fdE) (bE : Binds K fdE ["self", "value"] []) :
    FnOk P w K mg base (L2.CX P w) 4 f fd ["self", "text"] (spLinesInit CL CT) := by
  have GE : FnOk P w K mg base CX0 1 fE fdE ["self", "value"] (spErr K) := ok_err FE
  refine F.okX sc_Lines___init__ (fun vs H Q E h => ?_) (fun cdv A outer s H vs Q E hr h => ?_)
  · obtain ⟨l, dx, x, T, rfl, _⟩ := h
    rfl
  · obtain ⟨l, dx, x, Ty, rfl, hl, hx, k, ke⟩ := h
    have S := sc_Lines___init__
    refine ⟨_, (pss_cons (ps_if (pt_not (pt_val (pe_callB call_isi (by rfl) B.m_isinstance PyProof.Rows.boot_isinstance (pa_cons (pv 1) (pa_cons (pe_tyN bt_str (by rfl) B.m_str) pa_nil)))))
        (pss_one (ps_raise rfl (takes_of rfl rfl rfl rfl) (pmk_oex T.O T.iC T.tI GE (hr.mono (by decide)) bE .nil pass0 (by rfl) T.g (pa_cons (pe_un un_neg pe_int) pa_nil))))
        pss_nil)
      (pss_cons (ps_fld (pv 0) (pe_bm PySem.F.plainAttrs_str PySem.F.slot_str_split PySem.F.type_str_split mt_split (pv 1) (pa_cons pe_str pa_nil)) rfl)
      (pss_one (ps_fld (pv 0) pe_int rfl)))), ?_⟩
    refine (val_isi (val_var rfl) hx hx.str_) _ ⟨_, rfl, ?_⟩
    cases hx with
    | str z =>
      obtain ⟨hz, kk⟩ := k z rfl
      refine iteF ?_
      refine ⟨_, rfl, rfl, z, "\n", rfl, rfl, by decide +kernel, by have : z.length + 2 ≤ 10000000 := by omega
                                                                    exact big_size this, fun r nr => ?_⟩
      have nlr : l ≠ r := ne_of_none hl nr
      refine ⟨_, rfl, l, CL, dx, _, rfl, by rw [upd_ne nlr]; exact hl, L.cl, L.nr, by decide, ?_⟩
      refine ⟨_, rfl, l, CL, dx, _, rfl, upd_same, L.cl, L.na, by show 1 < 1000; decide, ?_⟩
      refine kk _ r (fun a o na e => ?_) nr ⟨?_, ?_, Nat.zero_le _⟩
      · rw [upd_ne na, upd_ne na, upd_ne (ne_of_none e nr)]
        exact e
      · rw [upd_same]
        have e : putF "at" (V.int 0) (putF "rows" (V.ref r) []) = lf r 0 := (put_tl (by decide +kernel)).trans rfl
        rw [e]
        rfl
      · rw [upd_ne nlr.symm, upd_ne nlr.symm, upd_same]
        rfl
    | _ =>
      refine iteT ?_
      exact raise_run T.O T.nv (val_neg val_c) (ke rfl)
theorem ok_words {f CL : Addr} {fd : FuncData} (B : Bt mg) (L : ClL K CL) (F : Fun K "words" "Lines.words" s_Lines_words f fd) : FnOk P w K mg base CX0 1 f fd ["self", "depth"] (spWords CL) := by
  refine F.ok sc_Lines_words (fun vs H Q E h => ?_) (fun cdv A outer s H vs Q E hr h => ?_)
  · obtain ⟨l, dx, r, rows, n, dp, rfl, _⟩ := h
    rfl
  · obtain ⟨l, dx, r, rows, n, dp, rfl, hl, sz, hd, k⟩ := h
    have S := sc_Lines_words
    refine ⟨_, (pss_cons (ps_set (i := 2) S.nd rfl (.inl rfl) (pe_op op_repS pe_str (pv 1)))
      (pss_cons (ps_if (PW.pt (pw_or (pt_cmpR op_eq (pe_fld (pv 0) rfl) (pe_callB call_len_seq (by rfl) B.m_len PySem.boot_len (pa_cons (pe_fld (pv 0) rfl) pa_nil)) (nomark _)) (pw_or1 (pt_not (pt_val (pe_bm PySem.F.plainAttrs_str PySem.F.slot_str_startswith PySem.F.type_str_startswith mt_startswith (pe_ix ix_list (pe_fld (pv 0) rfl) (pe_fld (pv 0) rfl) (fun _ _ => rfl)) (pa_cons (pv 2) pa_nil)))))))
        (pss_one (ps_ret (pe_lst pa_nil)))
        pss_nil)
      (pss_cons (ps_set (i := 3) S.nd rfl (.inl rfl) (pe_bm PySem.F.plainAttrs_str PySem.F.slot_str_split PySem.F.type_str_split mt_split (pe_slice sl_str (pe_ix ix_list (pe_fld (pv 0) rfl) (pe_fld (pv 0) rfl) (fun _ _ => rfl)) (po_some (pe_callB call_len_str (by rfl) B.m_len PySem.boot_len (pa_cons (pv 2) pa_nil))) po_none) (pa_cons pe_str pa_nil)))
      (pss_one (ps_ret (pe_ifExp (pt_cmpR op_in_seq pe_str (pv 3) (by rfl)) (pe_lst pa_nil) (pv 3))))))), ?_⟩
    have hm := margin_ok hd
    have hR : SqL K H r (rows.map V.str) := SqL.of hl.r
    refine (show Val _ _ _ (V.str (margin dp)) from val_repS val_c (val_var rfl) hm.1) _ ?_
    have vat : ∀ σ : L2.St, σ[0]? = some (some (.ref l)) → Val (tFld K (tVar 0) "at") σ H (.int n) := fun σ h0 => val_fld (val_var h0) hl.o L.cl L.na lf_at
    have vrw : ∀ σ : L2.St, σ[0]? = some (some (.ref l)) → Val (tFld K (tVar 0) "rows") σ H (.ref r) := fun σ h0 => val_fld (val_var h0) hl.o L.cl L.nr lf_rows
    by_cases c : n = rows.length
    · have e : wordsAt rows n dp = [] := by
        unfold wordsAt
        rw [c, List.getElem?_eq_none (Nat.le_refl _)]
      rw [e] at k
      refine (ans_or1 (ans_eq (vat _ rfl) (val_lenL (vrw _ rfl) hR) rfl (decide_eq_true (by rw [List.length_map, c])))) _ ?_
      refine iteT ⟨Nat.zero_le _, fun p np => ?_⟩
      exact k _ p (same_upd np) np upd_same
    · have hn : n < rows.length := by
        have := hl.le
        omega
      have hg : rows[n]? = some rows[n] := List.getElem?_eq_getElem hn
      have hgV : (rows.map V.str)[n]? = some (.str rows[n]) := by
        rw [List.getElem?_map, hg]
        rfl
      have hz : rows[n].length ≤ 14000 := sz.row _ (List.getElem_mem hn)
      have vrow : ∀ σ : L2.St, σ[0]? = some (some (.ref l)) → Val (tOp (rIxL K) (tFld K (tVar 0) "rows") (tFld K (tVar 0) "at")) σ H (.str rows[n]) := fun σ h0 => val_ixL (vrw σ h0) (vat σ h0) hR (atI_nat hgV)
      have ew : wordsAt rows n dp = rowWords rows[n] dp := by
        unfold wordsAt
        rw [hg]
      rw [ew] at k
      refine (ans_or (ans_eq (vat _ rfl) (val_lenL (vrw _ rfl) hR) rfl (decide_eq_false (by rw [List.length_map]; intro q; injection q with q; omega))) (ans_not (ans_val (val_sw (vrow _ rfl) (val_var rfl))))) _ ?_
      by_cases c2 : Txt.startswith rows[n] (margin dp) = true
      · have er : rowWords rows[n] dp = cleanWords (restWords rows[n] dp) := if_pos c2
        rw [er] at k
        rw [c2]
        refine iteF ?_
        dsimp only [tNext, tSeq, tAsg]
        refine (val_cutS (vrow _ rfl) (val_lenS (val_var rfl) (big_size (by have := hm.2; omega))) (big_size (by omega))) _ ?_
        have hc := cutS_le (z := rows[n]) (lo := some ((margin dp).length : Int)) (hi := none)
        refine ⟨rfl, _, " ", rfl, rfl, by decide +kernel, big_size (by omega), fun p np => ?_⟩
        have hp : (upd H p (.lst ((restWords rows[n] dp).map V.str))) p = some (.lst ((restWords rows[n] dp).map V.str)) := upd_same
        refine ⟨_, rfl, p, _, rfl, .inl (SqL.of hp), rfl, ?_, _, rfl, ?_⟩
        · rw [List.all_map, List.all_eq_true]
          intro z hz
          rfl
        · have s1 : Same H (upd H p (.lst ((restWords rows[n] dp).map V.str))) := same_upd np
          unfold cleanWords at k
          cases c4 : inV (.str "") ((restWords rows[n] dp).map V.str) with
          | true =>
            rw [c4, if_pos rfl] at k
            refine iteT ⟨Nat.zero_le _, fun q nq => ?_⟩
            exact k _ q (s1.trans (same_upd nq)) (s1.free nq) upd_same
          | false =>
            rw [c4, if_neg Bool.false_ne_true] at k
            exact iteF ⟨_, rfl, k _ p s1 np hp⟩
      · have er : rowWords rows[n] dp = [] := if_neg c2
        rw [er] at k
        rw [Bool.not_eq_true] at c2
        rw [c2]
        refine iteT ⟨Nat.zero_le _, fun p np => ?_⟩
        exact k _ p (same_upd np) np upd_same
theorem ok_step {f CL : Addr} {fd : FuncData} (L : ClL K CL) (F : Fun K "step" "Lines.step" s_Lines_step f fd) : FnOk P w K mg base CX0 1 f fd ["self"] (spStep CL) := by
  refine F.ok sc_Lines_step (fun vs H Q E h => ?_) (fun cdv A outer s H vs Q E hr h => ?_)
  · obtain ⟨l, dx, r, rows, n, rfl, _⟩ := h
    rfl
  · obtain ⟨l, dx, r, rows, n, rfl, hl, hn, k⟩ := h
    refine ⟨_, (pss_one (ps_fldaug (pv 0) pe_int in_add)), ?_⟩
    refine ⟨_, rfl, l, CL, dx, _, _, rfl, hl.o, L.cl, L.na, lf_at, n, 1, rfl, rfl, dx, _, hl.o, by show 2 < 1000; decide, ?_⟩
    refine k _ (SameBut.upd l H _) ⟨?_, ?_, hn⟩
    · rw [upd_same, lf_put]
      rfl
    · rw [upd_ne (ne_of hl.r hl.o (by intro q; cases q))]
      exact hl.r
theorem ok_need {f CL CT fE : Addr} {fd fdE : FuncData} (L : ClL K CL) (F : Fun K "need" "Lines.need" s_Lines_need f fd) (T : Er K mg "BadText" CT fE) (FE : Fun K "__init__" "WireError.__init__" s_err fE fdE) (bE : Binds K fdE ["self", "value"] []) :
    FnOk P w K mg base (L2.CX P w) 4 f fd ["self", "right"] (spNeed K CL CT) := by
  have GE : FnOk P w K mg base CX0 1 fE fdE ["self", "value"] (spErr K) := ok_err FE
  refine F.okX sc_Lines_need (fun vs H Q E h => ?_) (fun cdv A outer s H vs Q E hr h => ?_)
  · obtain ⟨l, dx, r, rows, n, x, b, rfl, _⟩ := h
    rfl
  · obtain ⟨l, dx, r, rows, n, x, b, rfl, hl, ht, k, ke⟩ := h
    refine ⟨_, (pss_one (ps_if (pt_not (pt_truth (pv 1) (by intro _; rfl)))
        (pss_one (ps_raise rfl (takes_of rfl rfl rfl rfl) (pmk_oex T.O T.iC T.tI GE (hr.mono (by decide)) bE .nil pass0 (by rfl) T.g (pa_cons (pe_fld (pv 0) rfl) pa_nil))))
        pss_nil)), ?_⟩
    refine ⟨_, rfl, b, ht, ?_⟩
    cases b with
    | true => exact iteF (k rfl)
    | false =>
      refine iteT ?_
      exact raise_run T.O T.nv (val_fld (val_var rfl) hl.o L.cl L.na lf_at) (ke rfl)
end
end K5
namespace K5
open PySem PySem.Spec PyProof.Rows L2
/-! ### values of any kind, as data -/
mutual
inductive Dq (H : Hp) : V → PyData → Prop
  | non : Dq H .non .none
  | bl (b : Bool) : Dq H (.bl b) (.bool b)
  | int (i : Int) : Dq H (.int i) (.int i)
  | str (x : Str) : Dq H (.str x) (.str x)
  | lst {a : Addr} {xs : List V} {ds : List PyData} : H a = some (.lst xs) → DqA H xs ds → Dq H (.ref a) (.list ds)
  | tup {a : Addr} {xs : List V} {ds : List PyData} : H a = some (.tup xs) → DqA H xs ds → Dq H (.ref a) (.tuple ds)
  | dic {a : Addr} : H a = some (.dK []) → Dq H (.ref a) (.dict [])
inductive DqA (H : Hp) : List V → List PyData → Prop
  | nil : DqA H [] []
  | cons {v : V} {vs : List V} {d : PyData} {ds : List PyData} : Dq H v d → DqA H vs ds → DqA H (v :: vs) (d :: ds)
end
mutual
theorem Dq.mono {H H' : Hp} (e : Same H H') : ∀ (d : PyData) {v : V}, Dq H v d → Dq H' v d
  | .none, _, h => by cases h; exact .non
  | .bool b, _, h => by cases h; exact .bl b
  | .int i, _, h => by cases h; exact .int i
  | .str x, _, h => by cases h; exact .str x
  | .list ds, _, h => by
    cases h with
    | lst h a => exact .lst (e _ _ h) (DqA.mono e ds a)
  | .tuple ds, _, h => by
    cases h with
    | tup h a => exact .tup (e _ _ h) (DqA.mono e ds a)
  | .dict kvs, _, h => by
    cases h with
    | dic h => exact .dic (e _ _ h)
theorem DqA.mono {H H' : Hp} (e : Same H H') : ∀ (ds : List PyData) {vs : List V}, DqA H vs ds → DqA H' vs ds
  | [], _, h => by cases h; exact .nil
  | d :: ds, _, h => by
    cases h with
    | cons a b => exact .cons (Dq.mono e d a) (DqA.mono e ds b)
end
theorem Dq.kd {H : Hp} {v : V} {d : PyData} (h : Dq H v d) : ∃ T, Kd H v T := by
  cases h with
  | non => exact ⟨_, .non⟩
  | bl b => exact ⟨_, .bl b⟩
  | int i => exact ⟨_, .int i⟩
  | str x => exact ⟨_, .str x⟩
  | lst h a => exact ⟨_, .lst h⟩
  | tup h a => exact ⟨_, .tup h⟩
  | dic h => exact ⟨_, .dK h⟩
theorem DqA.len {H : Hp} : ∀ {vs : List V} {ds : List PyData}, DqA H vs ds → vs.length = ds.length
  | _, _, .nil => rfl
  | _, _, .cons a b => by rw [List.length_cons, List.length_cons, DqA.len b]
theorem DqA.at_ {H : Hp} : ∀ {vs : List V} {ds : List PyData} (i : Nat) {d : PyData}, DqA H vs ds → ds[i]? = some d → ∃ v, vs[i]? = some v ∧ Dq H v d
  | _, _, i, d, .nil, h => by cases h
  | _, _, 0, d, .cons a b, h => by
    have h := Option.some.inj h
    rw [← h]
    exact ⟨_, rfl, a⟩
  | _, _, i + 1, d, .cons a b, h => DqA.at_ i b h
mutual
def listIn : PyData → Bool
  | .none | .bool _ | .int _ | .str _ => false
  | .list _ => true
  | .tuple xs => listInA xs
  | .dict _ => false
def listInA : List PyData → Bool
  | [] => false
  | x :: xs => listIn x || listInA xs
end
section
variable {X : Cx} {pins : List (Addr × Obj)} {σ : L2.St} {H : Hp} {s : Shared}
theorem reads_d0 {a : Addr} (I : Inv X pins σ H s) (h : H a = some (.dK [])) : ∃ as, Reads s.heap (.ref a) (.dict []) as ∧ sysModules ∉ as := by
  obtain ⟨_, nm, vs, rel, dd⟩ := dk_of I.hok h
  cases rel
  obtain ⟨o, es, ep, ho, hc, hd, _, ps, _⟩ := dd
  have e0 : es.toList = [] := by
    revert ps
    generalize es.toList = l
    intro ps
    cases ps
    rfl
  have r1 : ReadsAll s.heap (es.toList.map (·.key)) (([] : List (PyData × PyData)).map (·.1)) [] := by
    rw [e0]
    exact .nil
  have r2 : ReadsAll s.heap (es.toList.map (·.val)) (([] : List (PyData × PyData)).map (·.2)) [] := by
    rw [e0]
    exact .nil
  refine ⟨_, Reads.dict ho hc.1 hd r1 r2, fun q => ?_⟩
  have : sysModules = a := by simpa using q
  rw [this] at nm
  simp at nm
mutual
theorem Dq.reads (I : Inv X pins σ H s) : ∀ (d : PyData) (v : V) (u : Value), Dq H v d → RelV v u → ∃ as, Reads s.heap u d as ∧ (listIn d = false → sysModules ∉ as)
  | .none, _, _, h, r => by
    cases h
    cases r
    exact ⟨_, Reads.none, by simp⟩
  | .bool b, _, _, h, r => by
    cases h
    cases r
    exact ⟨_, Reads.bool b, by simp⟩
  | .int i, _, _, h, r => by
    cases h
    obtain ⟨t, rfl⟩ := r
    exact ⟨_, Reads.int i t, by simp⟩
  | .str x, _, _, h, r => by
    cases h
    obtain ⟨t, rfl⟩ := r
    exact ⟨_, Reads.str x t, by simp⟩
  | .list ds, _, _, h, r => by
    cases h with
    | lst hs ha =>
      cases r
      obtain ⟨its, rv, ⟨o, n, ho, hc, _, hd⟩, _⟩ := I.list (SqL.of (K := X.K) hs)
      obtain ⟨as, hr, hm⟩ := Dq.readsAll I ds _ its ha rv
      exact ⟨_, Reads.list ho hc hd hr, fun e => by cases e⟩
  | .tuple ds, _, _, h, r => by
    cases h with
    | tup hs ha =>
      cases r
      obtain ⟨its, rv, ⟨o, ho, hc, n, hd⟩, _⟩ := I.tuple (SqT.of (K := X.K) hs)
      obtain ⟨as, hr, hm⟩ := Dq.readsAll I ds _ its ha rv
      exact ⟨_, Reads.tuple ho hc hd hr, hm⟩
  | .dict _, _, _, h, r => by
    cases h with
    | dic h =>
      cases r
      obtain ⟨as, r, m⟩ := reads_d0 I h
      exact ⟨as, r, fun _ => m⟩
theorem Dq.readsAll (I : Inv X pins σ H s) : ∀ (ds : List PyData) (vs : List V) (us : List Value), DqA H vs ds → Vals vs us → ∃ as, ReadsAll s.heap us ds as ∧ (listInA ds = false → sysModules ∉ as)
  | [], _, _, h, r => by
    cases h
    cases r
    exact ⟨_, ReadsAll.nil, by simp⟩
  | d :: ds, _, _, h, r => by
    cases h with
    | cons h1 h2 =>
      cases r with
      | cons r1 r2 =>
        obtain ⟨as, q1, m1⟩ := Dq.reads I d _ _ h1 r1
        obtain ⟨bs, q2, m2⟩ := Dq.readsAll I ds _ _ h2 r2
        refine ⟨_, ReadsAll.cons q1 q2, fun e m => ?_⟩
        have e : (listIn d || listInA ds) = false := e
        rw [Bool.or_eq_false_iff] at e
        exact (List.mem_append.mp m).elim (m1 e.1) (m2 e.2)
end
end
end K5
namespace K5
open PySem PySem.Spec PyProof.Rows L2
/-! ### forms of values -/
def belowV (m : Int) : V → Bool
  | .int i => decide (0 ≤ i) && decide (i < m)
  | _ => false
def answerV (m : Int) : V → Bool
  | .int i => decide (-2 ≤ i) && decide (i < m)
  | _ => false
def isT : PyData → Bool
  | .tuple _ => true
  | _ => false
def tupN (n : Nat) : PyData → Bool
  | .tuple ds => decide (ds.length = n)
  | _ => false
theorem bt_tuple : bootBuiltins "tuple" = some (.type "tuple") := by decide +kernel
theorem kit_tuple : kitB "NoneType" "tuple" = some false ∧ kitB "bool" "tuple" = some false ∧ kitB "int" "tuple" = some false ∧ kitB "str" "tuple" = some false ∧ kitB "list" "tuple" = some false ∧ kitB "tuple" "tuple" = some true ∧ kitB "dict" "tuple" = some false := by decide +kernel
theorem Dq.kit {H : Hp} {x : V} {d : PyData} (h : Dq H x d) : ∃ T, Kd H x T ∧ kitB T "tuple" = some (isT d) := by
  obtain ⟨k1, k2, k3, k4, k5, k6, k7⟩ := kit_tuple
  cases h with
  | non => exact ⟨_, .non, k1⟩
  | bl b => exact ⟨_, .bl b, k2⟩
  | int i => exact ⟨_, .int i, k3⟩
  | str x => exact ⟨_, .str x, k4⟩
  | lst h a => exact ⟨_, .lst h, k5⟩
  | tup h a => exact ⟨_, .tup h, k6⟩
  | dic h => exact ⟨_, .dK h, k7⟩
theorem val_lenT {K : PySem.W.Frag} {σ : L2.St} {H : Hp} {ta : TE} {p : Addr} {xs : List V} (h : Val ta σ H (.ref p)) (hS : SqT K H p xs) : Val (tCB (rLenSq K) (tCons ta tNil)) σ H (.int xs.length) := fun Q q => h _ ⟨p, xs, rfl, .inr hS, q⟩
def spBelow : Sp := fun vs H Q _ => ∃ (x : V) (T : String) (m : Int), vs = [x, .int m] ∧ Kd H x T ∧ Q (.bl (belowV m x)) H
def spAnswer : Sp := fun vs H Q _ => ∃ (x : V) (T : String) (m : Int), vs = [x, .int m] ∧ Kd H x T ∧ Q (.bl (answerV m x)) H
def spIsTuple : Sp := fun vs H Q _ => ∃ (x : V) (d : PyData) (n : Nat), vs = [x, .int (n : Nat)] ∧ Dq H x d ∧ Q (.bl (tupN n d)) H
abbrev s_is_below : Stmt := topS 6
theorem sc_is_below : FnScope ["value", "many"] ["value", "many"] (defScope s_is_below) := ⟨rfl, rfl, rfl, by decide +kernel, rfl, by decide +kernel, by decide +kernel⟩
abbrev s_is_answer : Stmt := topS 7
theorem sc_is_answer : FnScope ["value", "worths"] ["value", "worths"] (defScope s_is_answer) := ⟨rfl, rfl, rfl, by decide +kernel, rfl, by decide +kernel, by decide +kernel⟩
abbrev s_is_tuple : Stmt := topS 10
theorem sc_is_tuple : FnScope ["value", "size"] ["value", "size"] (defScope s_is_tuple) := ⟨rfl, rfl, rfl, by decide +kernel, rfl, by decide +kernel, by decide +kernel⟩
section
variable {P : Program} {w : World} {K : PySem.W.Frag} {mg : Str → Option Value} {base : Heap}
theorem ok_is_below {f fI : Addr} {fd fdI : FuncData} (B : Bt mg) (D : Df K mg "is_below" s_is_below f fd ["value", "many"]) (D_is_integer : Df K mg "is_integer" s_is_integer fI fdI ["value"]) : FnOk P w K mg base CX0 2 f fd ["value", "many"] spBelow := by
  have G_is_integer : FnOk P w K mg base CX0 1 fI fdI ["value"] spIsInt := ok_is_integer B D_is_integer
  refine D.F.ok sc_is_below (fun vs H Q E h => ?_) (fun cdv A outer s H vs Q E hr h => ?_)
  · obtain ⟨x, T, m, rfl, _⟩ := h
    rfl
  · obtain ⟨x, T, m, rfl, hx, k⟩ := h
    have S := sc_is_below
    refine ⟨_, (pss_one (ps_ret (pe_and (pe_call G_is_integer (hr.mono (by decide)) (by rfl) D_is_integer.g D_is_integer.F.kp D_is_integer.b .nil pass0 (pa_cons (pv 0) pa_nil)) (pe_one (pe_chain op_le op_lt pe_int (pv 0) (pv 1)))))), ?_⟩
    refine (val_call (va_cons (val_var rfl) va_nil) fun Q q => ⟨x, T, rfl, hx, q⟩) _ ⟨_, rfl, ?_⟩
    cases hx with
    | int i => exact iteT ((val_chain val_c (val_var rfl) (val_var rfl)) _ k)
    | _ => exact iteF k
theorem ok_is_answer {f fI : Addr} {fd fdI : FuncData} (B : Bt mg) (D : Df K mg "is_answer" s_is_answer f fd ["value", "worths"]) (D_is_integer : Df K mg "is_integer" s_is_integer fI fdI ["value"]) : FnOk P w K mg base CX0 2 f fd ["value", "worths"] spAnswer := by
  have G_is_integer : FnOk P w K mg base CX0 1 fI fdI ["value"] spIsInt := ok_is_integer B D_is_integer
  refine D.F.ok sc_is_answer (fun vs H Q E h => ?_) (fun cdv A outer s H vs Q E hr h => ?_)
  · obtain ⟨x, T, m, rfl, _⟩ := h
    rfl
  · obtain ⟨x, T, m, rfl, hx, k⟩ := h
    have S := sc_is_answer
    refine ⟨_, (pss_one (ps_ret (pe_and (pe_call G_is_integer (hr.mono (by decide)) (by rfl) D_is_integer.g D_is_integer.F.kp D_is_integer.b .nil pass0 (pa_cons (pv 0) pa_nil)) (pe_one (pe_chain op_le op_lt (pe_un un_neg pe_int) (pv 0) (pv 1)))))), ?_⟩
    refine (val_call (va_cons (val_var rfl) va_nil) fun Q q => ⟨x, T, rfl, hx, q⟩) _ ⟨_, rfl, ?_⟩
    cases hx with
    | int i => exact iteT ((val_chain (val_neg val_c) (val_var rfl) (val_var rfl)) _ k)
    | _ => exact iteF k
theorem ok_is_tuple {f : Addr} {fd : FuncData} (B : Bt mg) (D : Df K mg "is_tuple" s_is_tuple f fd ["value", "size"]) : FnOk P w K mg base CX0 1 f fd ["value", "size"] spIsTuple := by
  refine D.F.ok sc_is_tuple (fun vs H Q E h => ?_) (fun cdv A outer s H vs Q E hr h => ?_)
  · obtain ⟨x, d, n, rfl, _⟩ := h
    rfl
  · obtain ⟨x, d, n, rfl, hx, k⟩ := h
    have S := sc_is_tuple
    refine ⟨_, (pss_one (ps_ret (pe_and (pe_callB call_isi (by rfl) B.m_isinstance PyProof.Rows.boot_isinstance (pa_cons (pv 0) (pa_cons (pe_tyN bt_tuple (by rfl) B.m_tuple) pa_nil))) (pe_one (pe_cmpR op_eq (pe_callB call_len_seq (by rfl) B.m_len PySem.boot_len (pa_cons (pv 0) pa_nil)) (pv 1) (nomark _)))))), ?_⟩
    obtain ⟨T, kd, kt⟩ := hx.kit
    refine (val_isi (val_var rfl) kd kt) _ ⟨_, rfl, ?_⟩
    cases hx with
    | tup h a =>
      rename_i p xs ds
      refine iteT ((val_op (z := .bl (tupN n (.tuple ds))) (val_lenT (val_var rfl) (SqT.of h)) (val_var rfl) fun Q q => ⟨rfl, ?_⟩) _ k)
      have e : ∀ m : Nat, decide (V.int (m : Nat) = V.int (n : Nat)) = decide (m = n) := fun m => decide_eq_decide.mpr ⟨fun e => by injection e with e; omega, fun e => by rw [e]⟩
      rw [e, a.len]
      exact q
    | _ => exact iteF k
end
end K5
namespace K5
open PySem PySem.Spec PyProof.Rows L2
/-! ### a tuple of texts that the head has laid -/
structure KTup (K : PySem.W.Frag) (p : Addr) (ys : List Str) : Prop where
  sq : ∀ H : Hp, SqT K H p (ys.map V.str)
  nd : ∃ ob, K.lookup p = some ob ∧ ob.cls = .type "tuple" ∧ ob.dict = none
def tTupKx (K : PySem.W.Frag) (to : TE) (t : TA) : TE := fun σ H Q => to σ H fun x H1 => ∃ (p : Addr) (ys : List Str), x = .ref p ∧ KTup K p ys ∧ t σ H1 fun vs H2 => ∃ (z : Str) (j : Nat), vs = [.str z] ∧ ys[j]? = some z ∧ (∀ m, m < j → ys[m]? ≠ some z) ∧ Q (.int (j : Nat)) H2
theorem pe_tupKx {X : Cx} {o e : Expr} {to : TE} {t : TA} {apos cpos : Pos} (ho : PE X o to) (ha : PA X [e] t)
    (hbase : attributeBase o "index" X.env (eval o X.env) = eval o X.env := by rfl)
    (hfew : ((backTo cpos (starEach [e] X.env)).all (fun x => !x.1) && (backToKw cpos (keywordEach [] X.env)).all (fun x => x.1.isSome) && decide (([e] : List Expr).length + ([] : List Keyword).length + (if ([] : List Keyword).isEmpty then 0 else 1) < 30)) = true := by rfl)
    (hline : (apos.endLine == cpos.line) = true := by rfl) 
    (star1 : starEach [e] X.env = (false, eval e X.env) :: starEach [] X.env := by rfl) (hplain : (backTo cpos (starEach [] X.env)).any (·.1) = false := by rfl) :
    PE X (.Call (.Attribute o "index" apos) [e] [] cpos) (tTupKx X.K to t) := by
  refine ⟨fun pins s σ H Q I h => wpAny_Call_method_late hbase hfew hline rfl (thn (ho.run pins s σ H _ I h) fun v s1 ⟨x, H1, I1, r1, p, ys, ex, hF, q1⟩ => ?_)⟩
  subst ex
  cases r1
  obtain ⟨ob, hob, hc, hd⟩ := hF.nd
  have h1 := I1.kIn p ob hob
  refine ⟨"tuple", "tuple.index", PySem.F.plainAttrs_tuple, PySem.F.slot_tuple_index, PySem.F.type_tuple_index, ⟨ob, h1, hc⟩, fun a e2 => ?_, ?_⟩
  · cases e2
    exact ⟨ob, h1, hd⟩
  · have hA := ha.run cpos pins s1 σ H1 _ I1 q1
    rw [star1] at hA ⊢
    refine Calls.callWith_builtin (by show (false || (backTo cpos (starEach [] X.env)).any (·.1)) = false; rw [hplain] <;> rfl) (Calls.evalArgs_plain (thn hA fun us s2 ⟨vs, H2, I2, r2, z, j, ev, hj, hf, q2⟩ => ?_))
    exact mt_tup_index pins s2 σ H2 (.ref p) vs (.ref p) us Q I2 rfl r2 ⟨p, ys, z, j, rfl, ev, hF.sq H2, hj, hf, q2⟩
/-- the package's own words and numbers -/
structure Gw (K : PySem.W.Frag) (mg : Str → Option Value) (aw : Addr) : Prop where
  m : ∃ t, mg "MOST_WORTHS" = some (.int 4 t)
  a : mg "ANSWER_WORDS" = some (.ref aw)
  k : KTup K aw ["busy", "lost"]
  o : ∃ t, mg "OUTSIDE" = some (.str "-" t)
theorem ansI {σ : L2.St} {H : Hp} {ta tb : TE} {g : Int → Int → Bool} {i j : Int} (ha : Val ta σ H (.int i)) (hb : Val tb σ H (.int j)) : Ans (tTest (tOp (rI0 fun i j => .bl (g i j)) ta tb)) σ H (g i j) := ans_i0 ha hb
theorem inV_strs (z : Str) : ∀ l : List Str, inV (.str z) (l.map V.str) = decide (z ∈ l)
  | [] => by simp [inV]
  | y :: r => by
    have ih := inV_strs z r
    unfold inV at ih ⊢
    rw [List.map_cons, List.any_cons, ih]
    by_cases h : z = y
    · subst h
      simp [eqV]
    · have h2 : (y == z) = false := by
        rw [beq_eq_false_iff_ne]
        exact fun e => h e.symm
      simp [eqV, h, h2]
/-! ### answers as words -/
def ansOf (z : Str) : Option Int := if z = "busy" then some (-2) else if z = "lost" then some (-1) else if 0 ≤ numOf z 4 then some (numOf z 4) else none
def ansV : Option Int → V
  | none => .non
  | some i => .int i
def ansWord (i : Int) : Str := if i = -2 then "busy" else if i = -1 then "lost" else toString i
theorem busy_lost : ("busy" : Str) ≠ "lost" := by decide +kernel
abbrev s_shown_answer : Stmt := topS 17
theorem sc_shown_answer : FnScope ["answer"] ["answer"] (defScope s_shown_answer) := ⟨rfl, rfl, rfl, by decide +kernel, rfl, by decide +kernel, by decide +kernel⟩
abbrev s_answer_of : Stmt := topS 18
theorem sc_answer_of : FnScope ["word", "worths", "worth"] ["word", "worths"] (defScope s_answer_of) := ⟨rfl, rfl, rfl, by decide +kernel, rfl, by decide +kernel, by decide +kernel⟩
def spShownAns : Sp := fun vs H Q _ => ∃ i : Int, vs = [.int i] ∧ -2 ≤ i ∧ i < 4 ∧ Q (.str (ansWord i)) H
def spAnsOf : Sp := fun vs H Q _ => ∃ z : Str, vs = [.str z, .int 4] ∧ z.length ≤ 10000000 ∧ Q (ansV (ansOf z)) H
section
variable {P : Program} {w : World} {K : PySem.W.Frag} {mg : Str → Option Value} {base : Heap} {aw : Addr}
theorem ok_shown_answer {f : Addr} {fd : FuncData} (B : Bt mg) (W : Gw K mg aw) (D : Df K mg "shown_answer" s_shown_answer f fd ["answer"]) : FnOk P w K mg base CX0 1 f fd ["answer"] spShownAns := by
  refine D.F.ok sc_shown_answer (fun vs H Q E h => ?_) (fun cdv A outer s H vs Q E hr h => ?_)
  · obtain ⟨i, rfl, _⟩ := h
    rfl
  · obtain ⟨i, rfl, i0, i4, k⟩ := h
    have S := sc_shown_answer
    have gA := W.a
    refine ⟨_, (pss_one (ps_ret (pe_ifExp (pt_cmpR op_ge (pv 0) pe_int (nomark _)) (pe_callTy call_str_int (by rfl) B.m_str (by decide +kernel) (pa_cons (pv 0) pa_nil)) (pe_ix ix_tup (pe_glob (v := .ref aw) (by rfl) gA rfl) (pe_op op_add (pv 0) pe_int) (fun _ _ => rfl))))), ?_⟩
    have n2 : ("busy" : Str) = ansWord (-2) := rfl
    have n1 : ("lost" : Str) = ansWord (-1) := rfl
    refine (ansI (i := i) (j := 0) (val_var rfl) val_c) _ ?_
    refine ite2 (fun e => ?_) fun e => ?_
    · have e : 0 ≤ i := of_decide_eq_true e
      have ew : ansWord i = toString i := by
        unfold ansWord
        rw [if_neg (by omega), if_neg (by omega)]
      rw [ew] at k
      exact (val_strI (val_var rfl) (log_small (by omega))) _ k
    · have e : ¬ 0 ≤ i := fun c => e (decide_eq_true c)
      have hi : i = -2 ∨ i = -1 := by omega
      rcases hi with rfl | rfl
      · exact (val_op (z := .str "busy") val_c (val_i0 (i := -2) (j := 2) (val_var rfl) val_c) fun Q q => ⟨aw, _, 0, _, rfl, rfl, W.k.sq _, rfl, q⟩) _ k
      · exact (val_op (z := .str "lost") val_c (val_i0 (i := -1) (j := 2) (val_var rfl) val_c) fun Q q => ⟨aw, _, 1, _, rfl, rfl, W.k.sq _, rfl, q⟩) _ k
theorem ok_answer_of {f fN : Addr} {fd fdN : FuncData} (B : Bt mg) (W : Gw K mg aw) (D : Df K mg "answer_of" s_answer_of f fd ["word", "worths"]) (D_number : Df K mg "number" s_number fN fdN ["word", "many"]) : FnOk P w K mg base CX0 2 f fd ["word", "worths"] spAnsOf := by
  have G_number : FnOk P w K mg base CX0 1 fN fdN ["word", "many"] spNumber := ok_number B D_number
  refine D.F.ok sc_answer_of (fun vs H Q E h => ?_) (fun cdv A outer s H vs Q E hr h => ?_)
  · obtain ⟨z, rfl, _⟩ := h
    rfl
  · obtain ⟨z, rfl, hz, k⟩ := h
    have S := sc_answer_of
    have gA := W.a
    refine ⟨_, (pss_cons (ps_if (pt_cmpR op_in_seq (pv 0) (pe_glob (v := .ref aw) (by rfl) gA rfl) (by rfl))
        (pss_one (ps_ret (pe_op op_sub (pe_tupKx (pe_glob (v := .ref aw) (by rfl) gA rfl) (pa_cons (pv 0) pa_nil)) pe_int)))
        pss_nil)
      (pss_cons (ps_set (i := 2) S.nd rfl (.inl rfl) (pe_call G_number (hr.mono (by decide)) (by rfl) D_number.g D_number.F.kp D_number.b .nil pass0 (pa_cons (pv 0) (pa_cons (pv 1) pa_nil))))
      (pss_one (ps_ret (pe_ifExp (pt_cmpR op_ge (pv 2) pe_int (nomark _)) (pv 2) pe_non))))), ?_⟩
    have bl := busy_lost
    have inA : inV (.str z) ((["busy", "lost"] : List Str).map V.str) = decide (z ∈ (["busy", "lost"] : List Str)) := inV_strs z _
    try dsimp only [tSeq, tIfS, tTest, tOp]
    refine (val_var rfl) _ ?_
    refine val_c _ ⟨aw, _, rfl, .inr (W.k.sq _), rfl, rfl, _, rfl, ?_⟩
    rw [inA]
    by_cases hb : z = "busy"
    · subst hb
      rw [decide_eq_true (List.mem_cons_self ..)]
      refine iteT ?_
      try dsimp only [tRet, tOp, tTupKx, tCons, tNil]
      refine val_c _ ⟨aw, _, rfl, W.k, ?_⟩
      refine (val_var rfl) _ ⟨"busy", 0, rfl, rfl, fun m hm => absurd hm (Nat.not_lt_zero _), ?_⟩
      refine val_c _ ⟨_, _, rfl, rfl, ?_⟩
      have e : ansV (ansOf "busy") = .int (((0 : Nat) : Int) - 2) := by
        unfold ansOf
        rw [if_pos rfl]
        rfl
      rw [e] at k
      exact k
    · by_cases hl : z = "lost"
      · subst hl
        rw [decide_eq_true (List.mem_cons_of_mem _ (List.mem_cons_self ..))]
        refine iteT ?_
        try dsimp only [tRet, tOp, tTupKx, tCons, tNil]
        refine val_c _ ⟨aw, _, rfl, W.k, ?_⟩
        refine (val_var rfl) _ ⟨"lost", 1, rfl, rfl, fun m hm => ?_, ?_⟩
        · obtain rfl : m = 0 := by omega
          intro c
          exact bl (Option.some.inj c)
        refine val_c _ ⟨_, _, rfl, rfl, ?_⟩
        have e : ansV (ansOf "lost") = .int (((1 : Nat) : Int) - 2) := by
          unfold ansOf
          rw [if_neg bl.symm, if_pos rfl]
          rfl
        rw [e] at k
        exact k
      · rw [decide_eq_false (by simp only [List.mem_cons, List.not_mem_nil, or_false]; intro c; exact c.elim hb hl)]
        refine iteF ?_
        try dsimp only [tNext, tSeq, tAsg]
        refine (val_call (v := .int (numOf z 4)) (va_cons (val_var rfl) (va_cons (val_var rfl) va_nil)) fun Q q => ⟨z, 4, rfl, hz, q⟩) _ ?_
        have e : ansV (ansOf z) = if decide (0 ≤ numOf z 4) = true then V.int (numOf z 4) else .non := by
          unfold ansOf
          rw [if_neg hb, if_neg hl]
          by_cases c : 0 ≤ numOf z 4
          · rw [if_pos c, if_pos (decide_eq_true c)]
            rfl
          · rw [if_neg c, if_neg (by rw [decide_eq_false c]; exact Bool.false_ne_true)]
            rfl
        rw [e] at k
        exact (val_ite (ansI (i := numOf z 4) (j := 0) (val_var rfl) val_c) (fun _ => val_var rfl) fun _ => val_c) _ k
end
end K5
namespace K5
open PySem PySem.Spec PyProof.Rows L2
/-! ### events that a line tells -/
def wireOf : List Str → Option (Str × Str)
  | [a, b] => if isName b = true then (if a = "-" then some (("" : Str), b) else if isName a = true then some (a, b) else none) else none
  | _ => none
def wireD (q : Str × Str) : PyData := .tuple [.str q.1, .str q.2]
def evOf : List Str → Option PyData
  | [k, a, b, d, n] => match wireOf [a, b] with
    | none => none
    | some q => if k = "call" then (if isDoor d = true ∧ 0 ≤ numOf n 4 then some (.tuple [wireD q, .str "call", .str d, .int (numOf n 4)]) else none) else none
  | [k, a, b, x] => match wireOf [a, b] with
    | none => none
    | some q => if k = "answer" then (match ansOf x with
      | none => none
      | some i => some (.tuple [wireD q, .str "answer", .int i])) else none
  | _ => none
/-- nothing, or the data -/
def OD (H : Hp) (x : V) : Option PyData → Prop
  | none => x = .non
  | some d => Dq H x d ∧ x ≠ .non
abbrev s_event_told : Stmt := topS 27
theorem sc_event_told : FnScope ["words", "wire", "worth", "answer"] ["words"] (defScope s_event_told) := ⟨rfl, rfl, rfl, by decide +kernel, rfl, by decide +kernel, by decide +kernel⟩
abbrev s_wire_told : Stmt := topS 28
theorem sc_wire_told : FnScope ["words"] ["words"] (defScope s_wire_told) := ⟨rfl, rfl, rfl, by decide +kernel, rfl, by decide +kernel, by decide +kernel⟩
def spWireTold : Sp := fun vs H Q _ => ∃ (p : Addr) (ws : List Str), vs = [.ref p] ∧ H p = some (.lst (ws.map V.str)) ∧ (∀ z ∈ ws, z.length ≤ 14000) ∧
  ((wireOf ws = none ∧ Q .non H) ∨ ∃ q, wireOf ws = some q ∧ ∀ u, H u = none → Q (.ref u) (upd H u (.tup [.str q.1, .str q.2])))
def spEventTold : Sp := fun vs H Q _ => ∃ (p : Addr) (ws : List Str), vs = [.ref p] ∧ H p = some (.lst (ws.map V.str)) ∧ (∀ z ∈ ws, z.length ≤ 14000) ∧ ws.length ≤ 14001 ∧
  ∀ (H' : Hp) (x : V), Same H H' → OD H' x (evOf ws) → Q x H'
theorem wire_len {ws : List Str} (h : ws.length ≠ 2) : wireOf ws = none := by
  match ws, h with
  | [], _ => rfl
  | [_], _ => rfl
  | [_, _], h => exact absurd rfl h
  | _ :: _ :: _ :: _, _ => rfl
theorem wire2 (a b : Str) : wireOf [a, b] = if isName b = true then (if a = "-" then some (("" : Str), b) else if isName a = true then some (a, b) else none) else none := rfl
theorem two_of {ws : List Str} (h : ws.length = 2) : ∃ a b, ws = [a, b] := by
  match ws, h with
  | [a, b], _ => exact ⟨a, b, rfl⟩
section
variable {P : Program} {w : World} {K : PySem.W.Frag} {mg : Str → Option Value} {base : Heap} {aw : Addr}
theorem ok_wire_told {f fN : Addr} {fd fdN : FuncData} (B : Bt mg) (W : Gw K mg aw) (D : Df K mg "wire_told" s_wire_told f fd ["words"]) (D_is_name : Df K mg "is_name" s_is_name fN fdN ["value"]) : FnOk P w K mg base CX0 2 f fd ["words"] spWireTold := by
  have G_is_name : FnOk P w K mg base CX0 1 fN fdN ["value"] spIsName := ok_is_name B D_is_name
  refine D.F.ok sc_wire_told (fun vs H Q E h => ?_) (fun cdv A outer s H vs Q E hr h => ?_)
  · obtain ⟨p, ws, rfl, _⟩ := h
    rfl
  · obtain ⟨p, ws, rfl, hp, hz, k⟩ := h
    have S := sc_wire_told
    obtain ⟨to, gO⟩ := W.o
    refine ⟨_, (pss_cons (ps_if (PW.pt (pw_or (pt_cmpR op_ne (pe_callB call_len_seq (by rfl) B.m_len PySem.boot_len (pa_cons (pv 0) pa_nil)) pe_int (nomark _)) (pw_or1 (pt_not (pt_val (pe_call G_is_name (hr.mono (by decide)) (by rfl) D_is_name.g D_is_name.F.kp D_is_name.b .nil pass0 (pa_cons (pe_ix ix_list (pv 0) pe_int (fun _ _ => rfl)) pa_nil)))))))
        (pss_one (ps_ret pe_non))
        pss_nil)
      (pss_cons (ps_if (pt_cmpR op_eq (pe_ix ix_list (pv 0) pe_int (fun _ _ => rfl)) (pe_glob (v := .str "-") (by rfl) gO ⟨_, rfl⟩) (nomark _))
        (pss_one (ps_ret (pe_tup (pa_cons pe_str (pa_cons (pe_ix ix_list (pv 0) pe_int (fun _ _ => rfl)) pa_nil)))))
        pss_nil)
      (pss_one (ps_ret (pe_ifExp (pt_val (pe_call G_is_name (hr.mono (by decide)) (by rfl) D_is_name.g D_is_name.F.kp D_is_name.b .nil pass0 (pa_cons (pe_ix ix_list (pv 0) pe_int (fun _ _ => rfl)) pa_nil))) (pe_tup (pa_cons (pe_ix ix_list (pv 0) pe_int (fun _ _ => rfl)) (pa_cons (pe_ix ix_list (pv 0) pe_int (fun _ _ => rfl)) pa_nil))) pe_non))))), ?_⟩
    have hS : SqL K H p (ws.map V.str) := SqL.of hp
    have vx : ∀ (i : Nat) (z : Str), ws[i]? = some z → ∀ σ : L2.St, σ[0]? = some (some (.ref p)) → Val (tOp (rIxL K) (tVar 0) (tC (.int (i : Nat)))) σ H (.str z) := fun i z h σ h0 =>
      val_ixL (val_var h0) val_c hS (atI_nat (j := i) (by rw [List.getElem?_map, h]; rfl))
    have vn : ∀ (i : Nat) (z : Str), ws[i]? = some z → ∀ σ : L2.St, σ[0]? = some (some (.ref p)) → Val (tCall spIsName [] E0 (tCons (tOp (rIxL K) (tVar 0) (tC (.int (i : Nat)))) tNil)) σ H (.bl (isName z)) := fun i z h σ h0 =>
      val_call (va_cons (vx i z h σ h0) va_nil) fun Q q => ⟨.str z, "str", rfl, .str z, (fun y e => by injection e with e; rw [← e]; exact Nat.le_trans (hz z (List.mem_of_getElem? h)) (by decide)), q⟩
    by_cases hl : ws.length = 2
    · obtain ⟨a, b, rfl⟩ := two_of hl
      · skip
        refine (ans_or2 (a := false) (b := !isName b) (ans_ne (val_lenL (val_var rfl) hS) val_c rfl (by rfl)) fun _ => ans_not (ans_val (vn 1 b rfl _ rfl))) _ ?_
        cases hb : isName b with
        | false =>
          have e : wireOf [a, b] = none := by
            rw [wire2, hb]
            exact if_neg Bool.false_ne_true
          rcases k with ⟨_, k⟩ | ⟨q, e2, _⟩
          · exact iteT (val_c _ k)
          · rw [e] at e2
            cases e2
        | true =>
          refine iteF ?_
          try dsimp only [tNext, tSeq, tIfS]
          refine (ans_eq2 (vx 0 a rfl _ rfl) val_c rfl) _ ?_
          by_cases ha : a = "-"
          · rw [decide_eq_true (show V.str a = V.str "-" by rw [ha])]
            refine iteT ?_
            have e : wireOf [a, b] = some (("" : Str), b) := by
              rw [wire2, hb, if_pos rfl, if_pos ha]
            rcases k with ⟨e2, _⟩ | ⟨q, e2, k⟩
            · rw [e] at e2
              cases e2
            · rw [e] at e2
              cases e2
              try dsimp only [tRet, tTup, tCons, tNil]
              refine val_c _ ((vx 1 b rfl _ rfl) _ ⟨by show 2 ≤ sizeLine; decide, fun u nu => k u nu⟩)
          · rw [decide_eq_false (show ¬ V.str a = V.str "-" from fun c => ha (by injection c))]
            refine iteF ?_
            try dsimp only [tNext, tRet, tIf]
            refine (ans_val (vn 0 a rfl _ rfl)) _ ?_
            cases hn : isName a with
            | true =>
              refine iteT ?_
              have e : wireOf [a, b] = some (a, b) := by
                rw [wire2, hb, if_pos rfl, if_neg ha, if_pos hn]
              rcases k with ⟨e2, _⟩ | ⟨q, e2, k⟩
              · rw [e] at e2
                cases e2
              · rw [e] at e2
                cases e2
                try dsimp only [tTup, tCons, tNil]
                refine (vx 0 a rfl _ rfl) _ ((vx 1 b rfl _ rfl) _ ⟨by show 2 ≤ sizeLine; decide, fun u nu => k u nu⟩)
            | false =>
              refine iteF ?_
              have e : wireOf [a, b] = none := by
                rw [wire2, hb, if_pos rfl, if_neg ha, hn]
                exact if_neg Bool.false_ne_true
              rcases k with ⟨_, k⟩ | ⟨q, e2, _⟩
              · exact val_c _ k
              · rw [e] at e2
                cases e2
    · rw [wire_len hl] at k
      refine (ans_or1 (ans_ne (b := true) (val_lenL (val_var rfl) hS) val_c rfl ?_)) _ ?_
      · rw [List.length_map]
        exact congrArg Bool.not (decide_eq_false (fun c => hl (by injection c with c; omega)))
      · rcases k with ⟨_, k⟩ | ⟨q, e2, _⟩
        · exact iteT (val_c _ k)
        · cases e2
end
end K5
namespace K5
open PySem PySem.Spec PyProof.Rows L2
theorem cut13 (ws : List Str) : cutV (ws.map V.str) (some 1) (some 3) = ((ws.drop 1).take 2).map V.str := by
  cases ws with
  | nil => rfl
  | cons x r =>
    unfold cutV
    rw [show HT.sIx ((x :: r).map V.str).length 0 (some 1) = min 1 ((x :: r).map V.str).length from HT.sIx_nat _ _ 1, show HT.sIx ((x :: r).map V.str).length ((x :: r).map V.str).length (some 3) = min 3 ((x :: r).map V.str).length from HT.sIx_nat _ _ 3]
    rw [List.length_map, List.length_cons, show min 1 (r.length + 1) = 1 by omega, List.map_take, List.map_drop]
    rcases Nat.le_total 3 (r.length + 1) with h | h
    · rw [Nat.min_eq_left h]
    · rw [Nat.min_eq_right h, List.take_of_length_le (by simp only [List.length_drop, List.length_map, List.length_cons]; omega), List.take_of_length_le (by simp only [List.length_drop, List.length_map, List.length_cons]; omega)]
theorem ev_none {ws : List Str} (h : wireOf ((ws.drop 1).take 2) = none) : evOf ws = none := by
  match ws, h with
  | [], _ => rfl
  | [_], _ => rfl
  | [_, _], _ => rfl
  | [_, _, _], _ => rfl
  | [k, a, b, x], h =>
    have h : wireOf [a, b] = none := h
    unfold evOf
    dsimp only
    rw [h]
  | [k, a, b, d, n], h =>
    have h : wireOf [a, b] = none := h
    unfold evOf
    dsimp only
    rw [h]
  | _ :: _ :: _ :: _ :: _ :: _ :: _, _ => rfl
theorem ev5 {k a b d n : Str} {q : Str × Str} (h : wireOf [a, b] = some q) : evOf [k, a, b, d, n] = if k = "call" then (if isDoor d = true ∧ 0 ≤ numOf n 4 then some (.tuple [wireD q, .str "call", .str d, .int (numOf n 4)]) else none) else none := by
  show (match wireOf [a, b] with
    | none => none
    | some q => if k = "call" then (if isDoor d = true ∧ 0 ≤ numOf n 4 then some (.tuple [wireD q, .str "call", .str d, .int (numOf n 4)]) else none) else none : Option PyData) = _
  rw [h]
theorem ev4 {k a b x : Str} {q : Str × Str} (h : wireOf [a, b] = some q) : evOf [k, a, b, x] = if k = "answer" then (match ansOf x with
      | none => none
      | some i => some (.tuple [wireD q, .str "answer", .int i])) else none := by
  show (match wireOf [a, b] with
    | none => none
    | some q => if k = "answer" then (match ansOf x with
      | none => none
      | some i => some (.tuple [wireD q, .str "answer", .int i])) else none : Option PyData) = _
  rw [h]
theorem three_of {ws : List Str} {q : Str × Str} (h : wireOf ((ws.drop 1).take 2) = some q) : ∃ k a b r, ws = k :: a :: b :: r ∧ wireOf [a, b] = some q := by
  match ws, h with
  | k :: a :: b :: r, h => exact ⟨k, a, b, r, rfl, h⟩
section
variable {P : Program} {w : World} {K : PySem.W.Frag} {mg : Str → Option Value} {base : Heap} {aw : Addr}
theorem ok_event_told {f fW fN fI fD fA : Addr} {fd dW dN dI dD dA : FuncData} (B : Bt mg) (W : Gw K mg aw) (D : Df K mg "event_told" s_event_told f fd ["words"]) (D_wire_told : Df K mg "wire_told" s_wire_told fW dW ["words"]) (D_is_name : Df K mg "is_name" s_is_name fI dI ["value"])
    (D_is_door : Df K mg "is_door" s_is_door fD dD ["value"]) (D_answer_of : Df K mg "answer_of" s_answer_of fA dA ["word", "worths"]) (D_number : Df K mg "number" s_number fN dN ["word", "many"]) : FnOk P w K mg base CX0 3 f fd ["words"] spEventTold := by
  have G_wire_told : FnOk P w K mg base CX0 2 fW dW ["words"] spWireTold := ok_wire_told B W D_wire_told D_is_name
  have G_is_door : FnOk P w K mg base CX0 2 fD dD ["value"] spIsDoor := ok_is_door B D_is_door D_is_name
  have G_number : FnOk P w K mg base CX0 1 fN dN ["word", "many"] spNumber := ok_number B D_number
  have G_answer_of : FnOk P w K mg base CX0 2 fA dA ["word", "worths"] spAnsOf := ok_answer_of B W D_answer_of D_number
  refine D.F.ok sc_event_told (fun vs H Q E h => ?_) (fun cdv A outer s H vs Q E hr h => ?_)
  · obtain ⟨p, ws, rfl, _⟩ := h
    rfl
  · obtain ⟨p, ws, rfl, hp, hz, hl, k⟩ := h
    have S := sc_event_told
    obtain ⟨tm, gM⟩ := W.m
    refine ⟨_, (pss_cons (ps_set (i := 1) S.nd rfl (.inl rfl) (pe_call G_wire_told (hr.mono (by decide)) (by rfl) D_wire_told.g D_wire_told.F.kp D_wire_told.b .nil pass0 (pa_cons (pe_slice sl_list (pv 0) (po_some pe_int) (po_some pe_int)) pa_nil)))
      (pss_cons (ps_if (pt_cmpR op_isN1 (pv 1) pe_non (nomark _))
        (pss_one (ps_ret pe_non))
        pss_nil)
      (pss_cons (ps_if (PW.pt (pw_and (pt_cmpR op_eq (pe_ix ix_list (pv 0) pe_int (fun _ _ => rfl)) pe_str (nomark _)) (pw_and1 (pt_cmpR op_eq (pe_callB call_len_seq (by rfl) B.m_len PySem.boot_len (pa_cons (pv 0) pa_nil)) pe_int (nomark _)))))
        (pss_cons (ps_set (i := 2) S.nd rfl (.inl rfl) (pe_call G_number (hr.mono (by decide)) (by rfl) D_number.g D_number.F.kp D_number.b .nil pass0 (pa_cons (pe_ix ix_list (pv 0) pe_int (fun _ _ => rfl)) (pa_cons (pe_glob (v := .int 4) (by rfl) gM ⟨_, rfl⟩) pa_nil))))
        (pss_one (ps_ret (pe_ifExp (PW.pt (pw_and (pt_val (pe_call G_is_door (hr.mono (by decide)) (by rfl) D_is_door.g D_is_door.F.kp D_is_door.b .nil pass0 (pa_cons (pe_ix ix_list (pv 0) pe_int (fun _ _ => rfl)) pa_nil))) (pw_and1 (pt_cmpR op_ge (pv 2) pe_int (nomark _))))) (pe_tup (pa_cons (pv 1) (pa_cons pe_str (pa_cons (pe_ix ix_list (pv 0) pe_int (fun _ _ => rfl)) (pa_cons (pv 2) pa_nil))))) pe_non))))
        pss_nil)
      (pss_cons (ps_if (PW.pt (pw_and (pt_cmpR op_eq (pe_ix ix_list (pv 0) pe_int (fun _ _ => rfl)) pe_str (nomark _)) (pw_and1 (pt_cmpR op_eq (pe_callB call_len_seq (by rfl) B.m_len PySem.boot_len (pa_cons (pv 0) pa_nil)) pe_int (nomark _)))))
        (pss_cons (ps_set (i := 3) S.nd rfl (.inl rfl) (pe_call G_answer_of (hr.mono (by decide)) (by rfl) D_answer_of.g D_answer_of.F.kp D_answer_of.b .nil pass0 (pa_cons (pe_ix ix_list (pv 0) pe_int (fun _ _ => rfl)) (pa_cons (pe_glob (v := .int 4) (by rfl) gM ⟨_, rfl⟩) pa_nil))))
        (pss_one (ps_ret (pe_ifExp (pt_cmpR op_isN1 (pv 3) pe_non (nomark _)) pe_non (pe_tup (pa_cons (pv 1) (pa_cons pe_str (pa_cons (pv 3) pa_nil))))))))
        pss_nil)
      (pss_one (ps_ret pe_non)))))), ?_⟩
    try dsimp only [tSeq, tAsg]
    try dsimp only [tCall, tSl, tPart, tCons, tNil]
    refine (val_var rfl) _ (val_c _ ⟨1, rfl, val_c _ ⟨3, rfl, p, _, rfl, SqL.of hp, fun r nr => ?_⟩⟩)
    rw [cut13]
    have s1 := same_upd (o := .lst (((ws.drop 1).take 2).map V.str)) nr
    have hr1 : (upd H r (.lst (((ws.drop 1).take 2).map V.str))) r = some (.lst (((ws.drop 1).take 2).map V.str)) := upd_same
    generalize (upd H r (.lst (((ws.drop 1).take 2).map V.str))) = H1 at s1 hr1 ⊢
    have hp1 := s1 _ _ hp
    refine ⟨r, (ws.drop 1).take 2, rfl, hr1, fun z h => hz z (List.mem_of_mem_drop (List.mem_of_mem_take h)), ?_⟩
    cases hw : wireOf ((ws.drop 1).take 2) with
    | none =>
      refine .inl ⟨rfl, ?_⟩
      try dsimp only [gName, tSeq, tIfS]
      refine (ans_isN (x := .non) (b := true) (val_var rfl) (decide_eq_true rfl)) _ (iteT (val_c _ ?_))
      refine k _ _ s1 ?_
      rw [ev_none hw]
      rfl
    | some q =>
      refine .inr ⟨q, rfl, fun u nu => ?_⟩
      have s2 := same_upd (o := .tup [.str q.1, .str q.2]) nu
      have hu : (upd H1 u (.tup [.str q.1, .str q.2])) u = some (.tup [.str q.1, .str q.2]) := upd_same
      generalize (upd H1 u (.tup [.str q.1, .str q.2])) = H2 at s2 hu ⊢
      have hp2 := s2 _ _ hp1
      have s02 := s1.trans s2
      clear s1 s2 hr1 hp1
      obtain ⟨kd, a, b, rest, rfl, hq⟩ := three_of hw
      have wd : Dq H2 (.ref u) (wireD q) := .tup hu (.cons (.str _) (.cons (.str _) .nil))
      have hS : SqL K H2 p ((kd :: a :: b :: rest).map V.str) := SqL.of hp2
      have vx : ∀ (i : Nat) (z : Str), (kd :: a :: b :: rest)[i]? = some z → ∀ σ : L2.St, σ[0]? = some (some (.ref p)) → Val (tOp (rIxL K) (tVar 0) (tC (.int (i : Nat)))) σ H2 (.str z) := fun i z h σ h0 =>
        val_ixL (val_var h0) val_c hS (atI_nat (j := i) (by rw [List.getElem?_map, h]; rfl))
      have vl : ∀ σ : L2.St, σ[0]? = some (some (.ref p)) → Val (tCB (rLenSq K) (tCons (tVar 0) tNil)) σ H2 (.int (((rest.length + 3 : Nat)) : Int)) := fun σ h0 => by
        have e : ((((kd :: a :: b :: rest).map V.str).length : Nat) : Int) = ((rest.length + 3 : Nat) : Int) := by rw [List.length_map]; rfl
        rw [← e]
        exact val_lenL (val_var h0) hS
      have dl : ∀ n : Nat, decide (V.int ((rest.length + 3 : Nat) : Int) = V.int (n : Nat)) = decide (rest.length + 3 = n) := fun n => decide_eq_decide.mpr ⟨fun e => by injection e with e; omega, fun e => by rw [e]⟩
      have ds : ∀ x y : Str, decide (V.str x = V.str y) = decide (x = y) := fun x y => decide_eq_decide.mpr ⟨fun e => by injection e, fun e => by rw [e]⟩
      have kn : evOf (kd :: a :: b :: rest) = none → Q .non H2 := fun e => k _ _ s02 (by rw [e]; rfl)
      have cn : ("call" : Str) ≠ "answer" := by decide +kernel
      try dsimp only [gName, tSeq, tIfS]
      refine (ans_isN (x := .ref u) (b := false) (val_var rfl) (decide_eq_false fun c => nomatch c)) _ (iteF ?_)
      try dsimp only [tNext, tSeq, tIfS]
      refine (ans_and3 (ans_eq2 (vx 0 kd rfl _ rfl) val_c rfl) fun _ => ans_eq2 (vl _ rfl) val_c rfl) _ ?_
      rw [ds, show decide (V.int ((rest.length + 3 : Nat) : Int) = V.int 5) = decide (rest.length + 3 = 5) from dl 5]
      by_cases c1 : kd = "call" ∧ rest.length = 2
      · obtain ⟨rfl, r2⟩ := c1
        obtain ⟨d, n, rfl⟩ := two_of r2
        rw [decide_eq_true rfl, decide_eq_true (show ([d, n] : List Str).length + 3 = 5 from rfl)]
        refine iteT ?_
        have hdl : d.length ≤ 10000000 := Nat.le_trans (hz d (by simp)) (by decide)
        have hnl : n.length ≤ 10000000 := Nat.le_trans (hz n (by simp)) (by decide)
        try dsimp only [tSeq, tAsg]
        refine (val_call (v := .int (numOf n 4)) (va_cons (vx 4 n rfl _ rfl) (va_cons val_c va_nil)) fun Q q => ⟨n, 4, rfl, hnl, q⟩) _ ?_
        try dsimp only [gName, tRet, tIf]
        have ad := val_call (σ := [some (.ref p), some (.ref u), some (.int (numOf n 4)), none]) (H := H2) (sp := spIsDoor) (E := E0) (v := .bl (isDoor d)) (va_cons (vx 3 d rfl _ rfl) va_nil) fun Q q => ⟨.str d, "str", rfl, .str d, (fun y e => by injection e with e; rw [← e]; exact hdl), q⟩
        refine (ans_and3 (ans_val ad) fun _ => ansI (i := numOf n 4) (j := 0) (val_var rfl) val_c) _ ?_
        have ev := ev5 (k := "call") (d := d) (n := n) hq
        rw [if_pos rfl] at ev
        by_cases c : isDoor d = true ∧ 0 ≤ numOf n 4
        · rw [if_pos c] at ev
          rw [c.1, decide_eq_true c.2]
          refine iteT ?_
          try dsimp only [tTup, tCons, tNil]
          refine (val_var rfl) _ (val_c _ ((vx 3 d rfl _ rfl) _ ((val_var rfl) _ ⟨by show 4 ≤ sizeLine; decide, fun v nv => ?_⟩)))
          have s3 := same_upd (o := .tup [.ref u, .str "call", .str d, .int (numOf n 4)]) nv
          refine k _ _ (s02.trans s3) ?_
          rw [ev]
          exact ⟨.tup upd_same (.cons (Dq.mono s3 _ wd) (.cons (.str _) (.cons (.str _) (.cons (.int _) .nil)))), fun c => nomatch c⟩
        · rw [if_neg c] at ev
          rw [show (isDoor d && decide (0 ≤ numOf n 4)) = false by
            cases q1 : isDoor d with
            | false => rfl
            | true => exact decide_eq_false fun q2 => c ⟨q1, q2⟩]
          exact iteF (val_c _ (kn ev))
      · rw [show (decide (kd = "call") && decide (rest.length + 3 = 5)) = false by
          cases q1 : decide (kd = "call") with
          | false => rfl
          | true => exact decide_eq_false fun q2 => c1 ⟨of_decide_eq_true q1, by omega⟩]
        refine iteF ?_
        try dsimp only [tNext, tSeq, tIfS]
        refine (ans_and3 (ans_eq2 (vx 0 kd rfl _ rfl) val_c rfl) fun _ => ans_eq2 (vl _ rfl) val_c rfl) _ ?_
        rw [ds, show decide (V.int ((rest.length + 3 : Nat) : Int) = V.int 4) = decide (rest.length + 3 = 4) from dl 4]
        by_cases c2 : kd = "answer" ∧ rest.length = 1
        · obtain ⟨rfl, r1⟩ := c2
          obtain ⟨x, rfl⟩ := List.length_eq_one_iff.mp r1
          rw [decide_eq_true rfl, decide_eq_true (show ([x] : List Str).length + 3 = 4 from rfl)]
          refine iteT ?_
          have hxl : x.length ≤ 10000000 := Nat.le_trans (hz x (by simp)) (by decide)
          try dsimp only [tSeq, tAsg]
          refine (val_call (v := ansV (ansOf x)) (va_cons (vx 3 x rfl _ rfl) (va_cons val_c va_nil)) fun Q q => ⟨x, rfl, hxl, q⟩) _ ?_
          try dsimp only [gName, tRet, tIf]
          have ev := ev4 (k := "answer") (x := x) hq
          rw [if_pos rfl] at ev
          cases hx : ansOf x with
          | none =>
            rw [hx] at ev
            refine (ans_isN (x := .non) (b := true) (val_var rfl) (decide_eq_true rfl)) _ (iteT (val_c _ (kn ev)))
          | some i =>
            rw [hx] at ev
            refine (ans_isN (x := .int i) (b := false) (val_var rfl) (decide_eq_false fun c => nomatch c)) _ (iteF ?_)
            try dsimp only [tTup, tCons, tNil]
            refine (val_var rfl) _ (val_c _ ((val_var rfl) _ ⟨by show 3 ≤ sizeLine; decide, fun v nv => ?_⟩))
            have s3 := same_upd (o := .tup [.ref u, .str "answer", .int i]) nv
            refine k _ _ (s02.trans s3) ?_
            rw [ev]
            exact ⟨.tup upd_same (.cons (Dq.mono s3 _ wd) (.cons (.str _) (.cons (.int _) .nil))), fun c => nomatch c⟩
        · rw [show (decide (kd = "answer") && decide (rest.length + 3 = 4)) = false by
            cases q1 : decide (kd = "answer") with
            | false => rfl
            | true => exact decide_eq_false fun q2 => c2 ⟨of_decide_eq_true q1, by omega⟩]
          refine iteF ?_
          try dsimp only [tNext, tRet]
          refine val_c _ (kn ?_)
          match rest, c1, c2 with
          | [], _, _ => rfl
          | [x], _, c2 => rw [ev4 hq, if_neg fun c => c2 ⟨c, rfl⟩]
          | [d, n], c1, _ => rw [ev5 hq, if_neg fun c => c1 ⟨c, rfl⟩]
          | _ :: _ :: _ :: _, _, _ => rfl
end
end K5
namespace K5
open PySem PySem.Spec PyProof.Rows L2
theorem meth_run {C a dx : Addr} {m : Str} {fs : List (Str × V)} {sp : Sp} {E : XK} {ta : TE} {t : TA} {σ : L2.St} {H : Hp} {Q : VK} (ho : Val ta σ H (.ref a)) (ha : H a = some (.ins C dx fs)) (hm : fs.lookup m = none) (h : t σ H fun vs H2 => sp (.ref a :: (vs ++ [])) H2 Q E) :
    tMeth C m sp [] E ta t σ H Q := ho _ ⟨a, dx, fs, rfl, ha, hm, h⟩
theorem bm_run {K : PySem.W.Frag} {T : String} {r : V → List V → Hp → VK → Prop} {to : TE} {t : TA} {σ : L2.St} {H : Hp} {Q : VK} {x : V} (ho : Val to σ H x) (ht : tyV K T x H) (ha : t σ H fun vs H2 => r x vs H2 Q) : tBM K T r to t σ H Q := ho _ ⟨ht, ha⟩
theorem meth0_run {C a dx : Addr} {m : Str} {fs : List (Str × V)} {sp : Sp} {E : XK} {ta : TE} {σ : L2.St} {H : Hp} {Q : VK} (ho : Val ta σ H (.ref a)) (ha : H a = some (.ins C dx fs)) (hm : fs.lookup m = none) (h : sp [.ref a] H Q E) :
    tMeth C m sp [] E ta tNil σ H Q := ho _ ⟨a, dx, fs, rfl, ha, hm, h⟩
theorem at_but {H : Hp} {o u : HO} {a b : Addr} (h : H a = some u) (hb : H b ≠ some u) : (upd H b o) a = some u := by
  have e : a ≠ b := fun z => hb (by rw [← z]; exact h)
  rw [upd_ne e]
  exact h
/-! ### a run is read -/
def evs : List Str → Nat → Except Nat (List PyData)
  | [], _ => .ok []
  | r :: rs, n => match evOf (rowWords r 0) with
    | none => .error n
    | some d => match evs rs (n + 1) with
      | .ok l => .ok (d :: l)
      | .error e => .error e
def readR (z : Str) : Except Nat (List PyData) := if z = "" then .ok [] else evs (rowsOf z) 0
def RR (r : Except Nat (List PyData)) (ok : List PyData → Prop) (er : Nat → Prop) : Prop := match r with
  | .ok l => ok l
  | .error e => er e
def spReadRun (CT : Addr) : Sp := fun vs H Q E => ∃ (x : V) (T : String), vs = [x] ∧ Kd H x T ∧ (isS x = false → ErrK CT (.int (-1)) H E) ∧
  ∀ z : Str, x = .str z → z.length ≤ 14000 ∧ PyData.strOk z = true ∧ RR (readR z) (fun ds => ∀ (H' : Hp) (t : Addr), Same H H' → Dq H' (.ref t) (.tuple ds) → Q (.ref t) H') fun e => ErrK CT (.int (e : Nat)) H E
abbrev s_read_run : Stmt := topS 22
theorem sc_read_run : FnScope ["text", "lines", "events", "event"] ["text"] (defScope s_read_run) := ⟨rfl, rfl, rfl, by decide +kernel, rfl, by decide +kernel, by decide +kernel⟩
theorem len_zero {z : Str} (h : z.length = 0) : z = "" := by
  obtain ⟨l⟩ := z
  have e : l = #[] := Array.eq_empty_of_size_eq_zero h
  rw [e]
  rfl
theorem DqA.app {H : Hp} : ∀ {xs ys : List V} {ds es : List PyData}, DqA H xs ds → DqA H ys es → DqA H (xs ++ ys) (ds ++ es)
  | _, _, _, _, .nil, h => h
  | _, _, _, _, .cons a b, h => .cons a (DqA.app b h)
theorem ev_nl {ws : List Str} {d : PyData} (h : evOf ws = some d) : listIn d = false := by
  unfold evOf at h
  split at h
  · split at h
    · cases h
    · split at h
      · split at h
        · cases h
          rfl
        · cases h
      · cases h
  · split at h
    · cases h
    · split at h
      · split at h
        · cases h
        · cases h
          rfl
      · cases h
  · cases h
/-- tuples and empty dicts are kept -/
structure TK (H H' : Hp) : Prop where
  t : ∀ x xs, H x = some (.tup xs) → H' x = some (.tup xs)
  d : ∀ x, H x = some (.dK []) → H' x = some (.dK [])
theorem TK.but {H H' : Hp} {a : Addr} {u : HO} (h : SameBut a H H') (ha : H a = some u) (n1 : ∀ xs, u ≠ .tup xs) (n2 : u ≠ .dK []) : TK H H' :=
  ⟨fun x xs e => h x _ (fun c => n1 xs (by rw [c, ha] at e; exact Option.some.inj e)) e, fun x e => h x _ (fun c => n2 (by rw [c, ha] at e; exact Option.some.inj e)) e⟩
mutual
theorem Dq.tk {H H' : Hp} (k : TK H H') : ∀ (d : PyData) {v : V}, listIn d = false → Dq H v d → Dq H' v d
  | .none, _, _, h => by cases h; exact .non
  | .bool b, _, _, h => by cases h; exact .bl b
  | .int i, _, _, h => by cases h; exact .int i
  | .str x, _, _, h => by cases h; exact .str x
  | .list ds, _, e, h => by cases e
  | .tuple ds, _, e, h => by
    cases h with
    | tup h a => exact .tup (k.t _ _ h) (DqA.tk k ds e a)
  | .dict kvs, _, _, h => by
    cases h with
    | dic h => exact .dic (k.d _ h)
theorem DqA.tk {H H' : Hp} (k : TK H H') : ∀ (ds : List PyData) {vs : List V}, listInA ds = false → DqA H vs ds → DqA H' vs ds
  | [], _, _, h => by cases h; exact .nil
  | d :: ds, _, e, h => by
    have e : (listIn d || listInA ds) = false := e
    rw [Bool.or_eq_false_iff] at e
    cases h with
    | cons a b => exact .cons (Dq.tk k d e.1 a) (DqA.tk k ds e.2 b)
end
theorem listInA_app : ∀ xs ys : List PyData, listInA (xs ++ ys) = (listInA xs || listInA ys)
  | [], _ => rfl
  | x :: xs, ys => by
    show (listIn x || listInA (xs ++ ys)) = ((listIn x || listInA xs) || listInA ys)
    rw [listInA_app, Bool.or_assoc]
structure En85 (P : Program) (w : World) (K : PySem.W.Frag) (mg : Str → Option Value) (base : Heap) (CL CT aw fL fWords fStep fNeed fEv : Addr) (dL dWords dStep dNeed dEv : FuncData) : Prop where
  B : Bt mg
  L : ClL K CL
  ML : Mk K CL fL
  gL : mg "Lines" = some (.ref CL)
  bL : Binds K dL ["self", "text"] []
  GL : FnOk P w K mg base (L2.CX P w) 4 fL dL ["self", "text"] (spLinesInit CL CT)
  Mw : Mf K CL "words" "Lines.words" s_Lines_words fWords dWords ["self", "depth"]
  Gw : FnOk P w K mg base CX0 1 fWords dWords ["self", "depth"] (spWords CL)
  Ms : Mf K CL "step" "Lines.step" s_Lines_step fStep dStep ["self"]
  Gs : FnOk P w K mg base CX0 1 fStep dStep ["self"] (spStep CL)
  Mn : Mf K CL "need" "Lines.need" s_Lines_need fNeed dNeed ["self", "right"]
  Gn : FnOk P w K mg base (L2.CX P w) 4 fNeed dNeed ["self", "right"] (spNeed K CL CT)
  De : Df K mg "event_told" s_event_told fEv dEv ["words"]
  Ge : FnOk P w K mg base CX0 3 fEv dEv ["words"] spEventTold
/-- ahead of each turn -/
structure RW (CL CT : Addr) (H0 : Hp) (z : Str) (l dl r el : Addr) (Q : VK) (E : XK) (f : Nat) (σ : L2.St) (H : Hp) (n : Nat) (xs : List V) (ds : List PyData) : Prop where
  st : ∃ v, σ = [some (.str z), some (.ref l), some (.ref el), v]
  fn : f + n = (rowsOf z).length
  s0 : Same H0 H
  l0 : H0 l = none
  e0 : H0 el = none
  re : r ≠ el
  li : LinesAt CL H l dl r (rowsOf z) n
  he : H el = some (.lst xs)
  da : DqA H xs ds
  nl : listInA ds = false
  xl : xs.length = n
  k : RR (evs ((rowsOf z).drop n) n) (fun l => ∀ (H' : Hp) (t : Addr), Same H0 H' → Dq H' (.ref t) (.tuple (ds ++ l)) → Q (.ref t) H') fun e => ErrK CT (.int (e : Nat)) H0 E
section
variable {P : Program} {w : World} {K : PySem.W.Frag} {mg : Str → Option Value} {base : Heap} {CL CT aw fL fWords fStep fNeed fEv : Addr} {dL dWords dStep dNeed dEv : FuncData}
theorem ok_read_run {f : Addr} {fd : FuncData} (N : En85 P w K mg base CL CT aw fL fWords fStep fNeed fEv dL dWords dStep dNeed dEv) (D : Df K mg "read_run" s_read_run f fd ["text"]) :
    FnOk P w K mg base (L2.CX P w) 7 f fd ["text"] (spReadRun CT) := by
  refine D.F.okX sc_read_run (fun vs H Q E h => ?_) (fun cdv A0 outer s H vs Q E hr h => ?_)
  · obtain ⟨x, T, rfl, _⟩ := h
    rfl
  · obtain ⟨x, T, rfl, hx, ke, k⟩ := h
    have S := sc_read_run
    refine ⟨_, (pss_cons (ps_set (i := 1) S.nd rfl (.inl rfl) (pe_make N.ML N.GL (hr.mono (by decide)) (by rfl) N.gL N.bL .nil (pxp rfl rfl rfl rfl) (pa_cons (pv 0) pa_nil)))
      (pss_cons (ps_set (i := 2) S.nd rfl (.inl rfl) (pe_lst pa_nil))
      (pss_cons (ps_while (passes_of rfl) (PW.pt (pw_and (pt_truth (pv 0) (by intro _; rfl)) (pw_and1 (pt_cmpR op_lt (pe_fld (pv 1) rfl) (pe_callB call_len_seq (by rfl) N.B.m_len PySem.boot_len (pa_cons (pe_fld (pv 1) rfl) pa_nil)) (nomark _)))))
        (pss_cons (ps_set (i := 3) S.nd rfl (.inl rfl) (pe_call N.Ge (hr.mono (by decide)) (by rfl) N.De.g N.De.F.kp N.De.b .nil pass0 (pa_cons (pe_meth (pv 1) N.L.cl N.Mw.m N.Gw (hr.mono (by decide)) N.Mw.b .nil pass0 (pa_cons pe_int pa_nil)) pa_nil)))
        (pss_cons (ps_expr (pe_meth (pv 1) N.L.cl N.Mn.m N.Gn (hr.mono (by decide)) N.Mn.b .nil (pxp rfl rfl rfl rfl) (pa_cons (pe_cmpR op_notN1 (pv 3) pe_non (nomark _)) pa_nil)))
        (pss_cons (ps_expr (pe_bm PySem.F.plainAttrs_list PySem.F.slot_list_append PySem.F.type_list_append mt_append (pv 2) (pa_cons (pv 3) pa_nil)))
        (pss_one (ps_expr (pe_meth0 (pv 1) N.L.cl N.Ms.m N.Gs (hr.mono (by decide)) N.Ms.b .nil pass0)))))))
      (pss_one (ps_ret (pe_tupleOf (by rfl) N.B.m_tuple (pv 2))))))), ?_⟩
    try dsimp only [tSeq, tAsg]
    try dsimp only [tMake, tCons, tNil]
    refine (val_var rfl) _ ?_
    refine fun a da na nda neq => ?_
    have n0 : (upd H da (.own a)) a = none := by
      rw [upd_ne neq.symm]
      exact na
    have sP : Same H (upd (upd H da (.own a)) a (.ins CL da [])) := (same_upd nda).trans (same_upd n0)
    have hP : (upd (upd H da (.own a)) a (.ins CL da [])) a = some (.ins CL da []) := upd_same
    generalize (upd (upd H da (.own a)) a (.ins CL da [])) = HP at sP hP ⊢
    refine ⟨a, da, x, T, rfl, hP, hx.mono sP, fun z e => ⟨(k z e).1, fun H1 r sb nr li => ⟨rfl, ?_⟩⟩, fun hs => ErrK.mono (ke hs) sP⟩
    subst e
    obtain ⟨zl, zo, k⟩ := k z rfl
    have s01 : Same H H1 := fun b o e => sb b o (ne_of_none e na) (sP b o e)
    have sz := sz_rows zl zo
    try dsimp only [gName, tSeq, tAsg]
    refine ⟨by show 0 ≤ sizeLine; decide, fun el nel => ?_⟩
    have s1 := same_upd (o := .lst []) nel
    have hel : (upd H1 el (.lst [])) el = some (.lst []) := upd_same
    have rel : r ≠ el := ne_of_none li.r nel
    have li := li.mono s1
    generalize (upd H1 el (.lst [])) = H2 at s1 hel li ⊢
    have s02 := s01.trans s1
    have nel0 := s01.free nel
    clear s1 sb hP sP
    try dsimp only [gName, tSeq]
    -- the end
    have fin : ∀ (H3 : Hp) (xs : List V) (ds : List PyData) (v : Option V), Same H H3 → H3 el = some (.lst xs) → DqA H3 xs ds → (∀ (H' : Hp) (t : Addr), Same H H' → Dq H' (.ref t) (.tuple ds) → Q (.ref t) H') →
        tRet (tThen (tVar 2) (kTup K)) { nx := fun _ H' => Q .non H', rt := Q } [some (.str z), some (.ref a), some (.ref el), v] H3 := by
      intro H3 xs ds v s3 he3 da3 q
      try dsimp only [tRet, tThen]
      refine (val_var rfl) _ (.inl ⟨el, xs, rfl, SqL.of he3, fun t nt => ?_⟩)
      have s4 := same_upd (o := .tup xs) nt
      exact q _ t (s3.trans s4) (.tup upd_same (DqA.mono s4 _ da3))
    by_cases z0 : z = ""
    · subst z0
      have e : readR "" = .ok [] := if_pos rfl
      rw [e] at k
      refine ⟨fun f σ H' => σ = [some (.str ""), some (.ref a), some (.ref el), none] ∧ H' = H2, ⟨0, rfl, rfl⟩, fun f σ H' h => ?_⟩
      obtain ⟨rfl, rfl⟩ := h
      try dsimp only [tAnd]
      refine (val_var rfl) _ ?_
      refine ⟨false, ⟨Nat.zero_le _, by decide +kernel⟩, iteF (iteF ?_)⟩
      exact fin _ [] [] _ s02 hel .nil k
    · have e : readR z = evs (rowsOf z) 0 := if_neg z0
      rw [e] at k
      have tru : ((z.length : Int) != 0) = true := by
        have : z.length ≠ 0 := fun c => z0 (len_zero c)
        simp only [bne_iff_ne, ne_eq]
        omega
      refine ⟨fun f σ H' => ∃ n xs ds, RW CL CT H z a da r el Q E f σ H' n xs ds, ⟨(rowsOf z).length, 0, [], [], ⟨_, rfl⟩, Nat.add_zero _, s02, na, nel0, rel, li, hel, .nil, rfl, rfl, k⟩, fun f σ H' h => ?_⟩
      obtain ⟨n, xs, ds, ⟨v, rfl⟩, fn, s0, l0, e0, re, li, he, dA, nl, xl, k⟩ := h
      try dsimp only [tAnd, tTest]
      refine (val_var rfl) _ ?_
      refine ⟨true, ⟨big_size (by omega), tru.symm⟩, iteT ?_⟩
      refine (val_i0b (i := (n : Nat)) (j := ((((rowsOf z).map V.str).length : Nat) : Int)) (val_fld (val_var rfl) li.o N.L.cl N.L.na lf_at) (val_lenL (val_fld (val_var rfl) li.o N.L.cl N.L.nr lf_rows) (SqL.of li.r))) _ ⟨_, rfl, ?_⟩
      have ed : decide (((n : Nat) : Int) < ((((rowsOf z).map V.str).length : Nat) : Int)) = decide (n < (rowsOf z).length) := decide_eq_decide.mpr (by rw [List.length_map]; omega)
      rw [ed]
      cases f with
      | zero =>
        have en : n = (rowsOf z).length := by omega
        rw [decide_eq_false (by omega)]
        refine iteF ?_
        rw [en, List.drop_length] at k
        have k : ∀ (H' : Hp) (t : Addr), Same H H' → Dq H' (.ref t) (.tuple (ds ++ [])) → Q (.ref t) H' := k
        rw [List.append_nil] at k
        exact fin _ xs ds _ s0 he dA k
      | succ f =>
        have hn : n < (rowsOf z).length := by omega
        rw [decide_eq_true hn]
        refine iteT ⟨fun σ' H' => ∃ n xs ds, RW CL CT H z a da r el Q E f σ' H' n xs ds, fun σ' H' h => ⟨f, Nat.lt_succ_self f, h⟩, ?_⟩
        have hrow : (rowsOf z)[n]? = some (rowsOf z)[n] := List.getElem?_eq_getElem hn
        have hd : (rowsOf z).drop n = (rowsOf z)[n] :: (rowsOf z).drop (n + 1) := List.drop_eq_getElem_cons hn
        have hw : wordsAt (rowsOf z) n 0 = rowWords (rowsOf z)[n] 0 := by
          unfold wordsAt
          rw [hrow]
        rw [hd] at k
        unfold evs at k
        rw [← hw] at k
        have wz := words_ok (n := n) (dp := 0) sz
        have wm := words_many (n := n) (dp := 0) sz
        try dsimp only [tSeq, tAsg, tDrop]
        try dsimp only [tCall, tCons, tNil]
        refine meth_run (val_var rfl) li.o (lf_no (by decide +kernel) (by decide +kernel)) ?_
        refine ⟨a, da, r, rowsOf z, n, 0, rfl, li, sz, by decide, fun H3 wp s3 nw hwp => ?_⟩
        have li := li.mono s3
        have he := s3 _ _ he
        have dA := DqA.mono s3 _ dA
        have s0 := s0.trans s3
        clear s3
        refine ⟨wp, wordsAt (rowsOf z) n 0, rfl, hwp, fun y hy => (wz y hy).2, wm, fun H4 x s4 od => ?_⟩
        have li := li.mono s4
        have he := s4 _ _ he
        have dA := DqA.mono s4 _ dA
        have s0 := s0.trans s4
        clear s4 hwp nw
        try dsimp only [gName]
        refine meth_run (val_var rfl) li.o (lf_no (by decide +kernel) (by decide +kernel)) ?_
        cases hev : evOf (wordsAt (rowsOf z) n 0) with
        | none =>
          rw [hev] at k od
          have od : x = .non := od
          subst od
          refine (val_op (z := .bl false) (val_var rfl) val_c fun Q q => ⟨rfl, q⟩) _ ?_
          refine ⟨a, da, r, rowsOf z, n, _, false, rfl, li, rfl, fun e => ?_, fun _ => ErrK.mono k s0⟩
          cases e
        | some d =>
          rw [hev] at k od
          obtain ⟨dq, nn⟩ := od
          refine (val_op (z := .bl true) (val_var rfl) val_c fun Q q => ⟨rfl, by rw [decide_eq_false nn]; exact q⟩) _ ?_
          refine ⟨a, da, r, rowsOf z, n, _, true, rfl, li, rfl, fun _ => ?_, fun e => absurd e.symm Bool.false_ne_true⟩
          refine bm_run (x := .ref el) (val_var rfl) (.inl ⟨rfl, _, SqL.of he⟩) ?_
          refine (val_var rfl) _ ?_
          have rl : (rowsOf z).length ≤ 14001 := sz.len
          refine ⟨el, _, _, rfl, rfl, he, by rw [xl]; exact Nat.lt_of_lt_of_le (show n < 14001 by omega) (by decide), ?_⟩
          have sE : ∀ b o, b ≠ el → H4 b = some o → (upd H4 el (.lst (xs ++ [x]))) b = some o := fun b o n e => by
            rw [upd_ne n]
            exact e
          have li3 : LinesAt CL (upd H4 el (.lst (xs ++ [x]))) a da r (rowsOf z) n := ⟨at_but li.o (by rw [he]; exact fun e => nomatch e), sE _ _ re li.r, li.le⟩
          have s3 : Same H (upd H4 el (.lst (xs ++ [x]))) := fun c o e => sE _ _ (ne_of_none e e0) (s0 c o e)
          have he3 : (upd H4 el (.lst (xs ++ [x]))) el = some (.lst (xs ++ [x])) := upd_same
          have nd := ev_nl hev
          have nl3 : listInA (ds ++ [d]) = false := by
            rw [listInA_app, nl, show listInA [d] = (listIn d || false) from rfl, nd]
            rfl
          have dA3 : DqA (upd H4 el (.lst (xs ++ [x]))) (xs ++ [x]) (ds ++ [d]) := DqA.tk (TK.but (SameBut.upd el H4 _) he (fun _ e => nomatch e) (fun e => nomatch e)) _ nl3 (DqA.app dA (.cons dq .nil))
          generalize (upd H4 el (.lst (xs ++ [x]))) = H5 at sE li3 s3 he3 dA3 ⊢
          refine meth0_run (val_var rfl) li3.o (lf_no (by decide +kernel) (by decide +kernel)) ?_
          refine ⟨a, da, r, rowsOf z, n, rfl, li3, hn, fun H6 sb li6 => ?_⟩
          have ne : el ≠ a := ne_of he3 li3.o (fun e => nomatch e)
          refine ⟨n + 1, xs ++ [x], ds ++ [d], ⟨_, rfl⟩, by omega, fun c o e => sb c o (ne_of_none e na) (s3 c o e), l0, e0, re, li6, sb _ _ ne he3, DqA.tk (TK.but sb li3.o (fun _ e => nomatch e) (fun e => nomatch e)) _ nl3 dA3, nl3, by rw [List.length_append, xl]; rfl, ?_⟩
          cases hv : evs ((rowsOf z).drop (n + 1)) (n + 1) with
          | ok l =>
            rw [hv] at k
            have k : ∀ (H' : Hp) (t : Addr), Same H H' → Dq H' (.ref t) (.tuple (ds ++ d :: l)) → Q (.ref t) H' := k
            show ∀ (H' : Hp) (t : Addr), Same H H' → Dq H' (.ref t) (.tuple ((ds ++ [d]) ++ l)) → Q (.ref t) H'
            rw [List.append_assoc]
            exact k
          | error e =>
            rw [hv] at k
            exact k
end
end K5
namespace PySem.SeqAt
open PySem PySem.Spec PyProof.Rows
theorem dict_eq_declines_str (l : Addr) (es : Array DictEntry) (n : Nat) (dd : Option Addr) (sl : Array (Option Value)) (b : Str) (u : Tok) :
    Meets (Builtin.«dict.__eq__» ⟨[.ref l, .str b u], []⟩) (fun _ R s => s.heap.get? l = some { cls := .type "dict", dict := dd, data := .dict es n, slots := sl } ∧ R (.ok (.ret .notImplemented)) s) :=
  .of_wp fun prog w A R s h => by obtain ⟨hp, g, d, tk, os⟩ := s; obtain ⟨hl, h⟩ := h; have f1 := F.sub_str_dict; wp_walk using wpAny_loadPart' hl; exact ⟨_, rfl, h⟩
theorem str_eq_declines_dict (b : Str) (u : Tok) (l : Addr) (c : Value) (es : Array DictEntry) (n : Nat) (dd : Option Addr) (sl : Array (Option Value)) :
    Meets (Builtin.«str.__eq__» ⟨[.str b u, .ref l], []⟩) (fun _ R s => s.heap.get? l = some { cls := c, dict := dd, data := .dict es n, slots := sl } ∧ R (.ok (.ret .notImplemented)) s) :=
  .of_wp fun prog w A R s h => by obtain ⟨hp, g, d, tk, os⟩ := s; obtain ⟨hl, h⟩ := h; wp_walk using wpAny_loadPart' hl, wpAny_load hl; exact ⟨_, rfl, h⟩
theorem RcAt.dict_str {A : Around} {s : Shared} {l : Addr} {o : Obj} {es : Array DictEntry} {n : Nat} (b : Str) (u : Tok) (ho : s.heap.get? l = some o) (hc : o.cls = .type "dict") (hd : o.data = .dict es n) (hu : A.units < cLine) : RcAt A s (.ref l) (.str b u) false := fun prog w E Q h => by
  obtain ⟨cls, dd, data, sl⟩ := o
  simp only at hc hd
  subst hc hd
  exact rc_eq_decline_or (k := false) ⟨_, ho, rfl⟩ (typeIs_str s b u) (by decide) F.sub_str_dict F.slot_dict_eq F.slot_str_eq_refl
    (fun _ hq => call_meets F.slot_dict_eq ⟨_, ho, rfl⟩ F.entry_dict_eq (F.args_dict_eq_2 _ _) (dict_eq_declines_str l es n dd sl b u) ⟨ho, hq⟩)
    (fun _ hq => call_meets F.slot_str_eq_refl (typeIs_str s b u) F.entry_str_eq (F.args_str_eq_2 _ _) (str_eq_declines_dict b u l (.type "dict") es n dd sl) ⟨ho, hq⟩)
    (fun _ hq => wpAny_of_eq (rfl : isSame (.ref l) (.str b u) = pure false) hq) (.inr hu) h
end PySem.SeqAt
namespace K5
open PySem PySem.Spec PyProof.Rows L2
def isStr (z : Str) : PyData → Bool
  | .str y => decide (y = z)
  | _ => false
/-- a value of any kind == a text -/
def rEqQ : R2 := fun x y H Q => ∃ (d : PyData) (z : Str), Dq H x d ∧ y = .str z ∧ Q (.bl (isStr z d)) H
theorem op_eqQ {X : Cx} (hu : X.A.units < cLine) : OpR X (compareOp .Eq) rEqQ := by
  intro pins s σ H x y v u Q I rx ry h
  obtain ⟨d, z, hx, rfl, q⟩ := h
  have sc : scal x (.str z) = true → decide (x = .str z) = isStr z d → wpAny (model X.prog X.w) X.A (compareOp .Eq v u) (EP X pins σ Q) X.xe s := fun h1 h2 =>
    op_eq pins s σ H x (.str z) v u Q I rx ry ⟨h1, by rw [h2]; exact q⟩
  have fin : ∀ {b : Bool}, b = isStr z d → EP X pins σ Q (.bool b) s := fun e => ⟨.bl _, H, I, rfl, by rw [e]; exact q⟩
  cases hx with
  | non => exact sc rfl (decide_eq_false fun c => nomatch c)
  | bl b => exact sc rfl (decide_eq_false fun c => nomatch c)
  | int i => exact sc rfl (decide_eq_false fun c => nomatch c)
  | str w => exact sc rfl (decide_eq_decide.mpr ⟨fun e => by injection e, fun e => by rw [e]⟩)
  | lst h a =>
    cases rx
    obtain ⟨t, rfl⟩ := ry
    obtain ⟨its, _, isl, _⟩ := I.list (SqL.of (K := X.K) h)
    obtain ⟨o, n, e1, e2, _, e3⟩ := isl
    exact SeqAt.RcAt.list_str z t ⟨o, e1, e2, n, e3⟩ hu _ _ _ _ (fin rfl)
  | tup h a =>
    cases rx
    obtain ⟨t, rfl⟩ := ry
    obtain ⟨its, _, ist, _⟩ := I.tuple (SqT.of (K := X.K) h)
    exact SeqAt.RcAt.tuple_str z t ist hu _ _ _ _ (fin rfl)
  | dic h =>
    cases rx
    obtain ⟨t, rfl⟩ := ry
    obtain ⟨_, nm, vs, rel, dd⟩ := dk_of I.hok h
    obtain ⟨o, es, ep, ho, hc, hd, _⟩ := dd
    exact SeqAt.RcAt.dict_str z t ho hc.1 hd hu _ _ _ _ (fin rfl)
end K5
namespace K5
open PySem PySem.Spec PyProof.Rows L2
/-! ### wires and events among values of any kind -/
def S85 : List Str := ["", "a", "till", "call", "answer", "lost", "abcdefgh", "zz", "any", "A", "abcdefghi", "run", "-3", "-2", "-1", "0", "1", "2", "3", "4"]
mutual
def smallD : PyData → Bool
  | .none => true
  | .bool _ => true
  | .int i => decide (-20 ≤ i ∧ i ≤ 20)
  | .str z => decide (z ∈ S85)
  | .list xs => smallA xs
  | .tuple xs => smallA xs
  | .dict kvs => kvs.isEmpty
def smallA : List PyData → Bool
  | [] => true
  | x :: xs => smallD x && smallA xs
end
theorem S85_ok : ∀ z ∈ S85, z.length ≤ 20 ∧ PyData.strOk z = true := by decide +kernel
theorem smallA_at : ∀ {ds : List PyData} (i : Nat) {d : PyData}, smallA ds = true → ds[i]? = some d → smallD d = true
  | [], i, d, _, h => by cases h
  | x :: xs, 0, d, h, e => by
    have h : (smallD x && smallA xs) = true := h
    rw [Bool.and_eq_true] at h
    rw [← Option.some.inj e]
    exact h.1
  | x :: xs, i + 1, d, h, e => by
    have h : (smallD x && smallA xs) = true := h
    rw [Bool.and_eq_true] at h
    exact smallA_at i h.2 e
theorem small_len {H : Hp} {x : V} {d : PyData} (h : Dq H x d) (s : smallD d = true) : ∀ z : Str, x = .str z → z.length ≤ 10000000 := fun z e => by
  subst e
  cases h
  exact Nat.le_trans (S85_ok z (of_decide_eq_true s)).1 (by decide)
def nameD : PyData → Bool
  | .str z => isName z
  | _ => false
def doorD : PyData → Bool
  | .str z => isDoor z
  | _ => false
def belowD : PyData → Bool
  | .int i => decide (0 ≤ i) && decide (i < 4)
  | _ => false
def answerD : PyData → Bool
  | .int i => decide (-2 ≤ i) && decide (i < 4)
  | _ => false
theorem Dq.nameV {H : Hp} {x : V} {d : PyData} (h : Dq H x d) : nameV x = nameD d := by cases h <;> rfl
theorem Dq.doorV {H : Hp} {x : V} {d : PyData} (h : Dq H x d) : doorV x = doorD d := by cases h <;> rfl
theorem Dq.belowV {H : Hp} {x : V} {d : PyData} (h : Dq H x d) : belowV 4 x = belowD d := by cases h <;> rfl
theorem Dq.answerV {H : Hp} {x : V} {d : PyData} (h : Dq H x d) : answerV 4 x = answerD d := by cases h <;> rfl
def wireB : PyData → Bool
  | .tuple [a, b] => (isStr "" a || nameD a) && nameD b
  | _ => false
def eventB : PyData → Bool
  | .tuple [w, k, r, n] => wireB w && (isStr "call" k && (doorD r && belowD n))
  | .tuple [w, k, a] => wireB w && (isStr "answer" k && answerD a)
  | _ => false
theorem two_d {ds : List PyData} (h : ds.length = 2) : ∃ a b, ds = [a, b] := by
  match ds, h with
  | [a, b], _ => exact ⟨a, b, rfl⟩
theorem three_d {ds : List PyData} (h : ds.length = 3) : ∃ a b c, ds = [a, b, c] := by
  match ds, h with
  | [a, b, c], _ => exact ⟨a, b, c, rfl⟩
theorem four_d {ds : List PyData} (h : ds.length = 4) : ∃ a b c d, ds = [a, b, c, d] := by
  match ds, h with
  | [a, b, c, d], _ => exact ⟨a, b, c, d, rfl⟩
theorem wire_no {d : PyData} (h : tupN 2 d = false) : wireB d = false := by
  match d, h with
  | .tuple [], _ => rfl
  | .tuple [_], _ => rfl
  | .tuple [_, _], h => cases h
  | .tuple (_ :: _ :: _ :: _), _ => rfl
  | .none, _ => rfl
  | .bool _, _ => rfl
  | .int _, _ => rfl
  | .str _, _ => rfl
  | .list _, _ => rfl
  | .dict _, _ => rfl
theorem event_no {d : PyData} (h : tupN 4 d = false) (h3 : tupN 3 d = false) : eventB d = false := by
  match d, h, h3 with
  | .tuple [], _, _ => rfl
  | .tuple [_], _, _ => rfl
  | .tuple [_, _], _, _ => rfl
  | .tuple [_, _, _], _, h3 => cases h3
  | .tuple [_, _, _, _], h, _ => cases h
  | .tuple (_ :: _ :: _ :: _ :: _ :: _), _, _ => rfl
  | .none, _, _ => rfl
  | .bool _, _, _ => rfl
  | .int _, _, _ => rfl
  | .str _, _, _ => rfl
  | .list _, _, _ => rfl
  | .dict _, _, _ => rfl
section
variable {K : PySem.W.Frag} {σ : L2.St} {H : Hp} {ta tb : TE} {p : Addr} {xs : List V} {a b : Bool} {x : V} {d : PyData}
theorem val_orV (ha : Val ta σ H (.bl a)) (hb : a = false → Val tb σ H (.bl b)) : Val (tOrV ta tb) σ H (.bl (a || b)) := fun Q q => ha _ ⟨a, rfl, by
  cases a with
  | true => exact iteT q
  | false => exact iteF (hb rfl _ q)⟩
theorem val_ixT {i : Nat} {v : V} (h : Val ta σ H (.ref p)) (hS : H p = some (.tup xs)) (hi : xs[i]? = some v) : Val (tOp (rIxT K) ta (tC (.int (i : Nat)))) σ H v := val_op h val_c fun Q q => ⟨p, xs, _, v, rfl, rfl, SqT.of hS, atI_nat hi, q⟩
theorem val_eqQ {z : Str} (ha : Val ta σ H x) (hd : Dq H x d) : Val (tOp rEqQ ta (tC (.str z))) σ H (.bl (isStr z d)) := val_op ha val_c fun Q q => ⟨d, z, hd, rfl, q⟩
theorem val_name (ha : Val ta σ H x) (hd : Dq H x d) (s : smallD d = true) : Val (tCall spIsName [] E0 (tCons ta tNil)) σ H (.bl (nameD d)) :=
  val_call (va_cons ha va_nil) fun Q q => by
    obtain ⟨T, kd⟩ := hd.kd
    exact ⟨x, T, rfl, kd, small_len hd s, by rw [hd.nameV]; exact q⟩
theorem val_door (ha : Val ta σ H x) (hd : Dq H x d) (s : smallD d = true) : Val (tCall spIsDoor [] E0 (tCons ta tNil)) σ H (.bl (doorD d)) :=
  val_call (va_cons ha va_nil) fun Q q => by
    obtain ⟨T, kd⟩ := hd.kd
    exact ⟨x, T, rfl, kd, small_len hd s, by rw [hd.doorV]; exact q⟩
theorem val_below (ha : Val ta σ H x) (hd : Dq H x d) (hb : Val tb σ H (.int 4)) : Val (tCall spBelow [] E0 (tCons ta (tCons tb tNil))) σ H (.bl (belowD d)) :=
  val_call (va_cons ha (va_cons hb va_nil)) fun Q q => by
    obtain ⟨T, kd⟩ := hd.kd
    exact ⟨x, T, 4, rfl, kd, by rw [hd.belowV]; exact q⟩
theorem val_answer (ha : Val ta σ H x) (hd : Dq H x d) (hb : Val tb σ H (.int 4)) : Val (tCall spAnswer [] E0 (tCons ta (tCons tb tNil))) σ H (.bl (answerD d)) :=
  val_call (va_cons ha (va_cons hb va_nil)) fun Q q => by
    obtain ⟨T, kd⟩ := hd.kd
    exact ⟨x, T, 4, rfl, kd, by rw [hd.answerV]; exact q⟩
theorem val_tupN {n : Nat} (ha : Val ta σ H x) (hd : Dq H x d) : Val (tCall spIsTuple [] E0 (tCons ta (tCons (tC (.int (n : Nat))) tNil))) σ H (.bl (tupN n d)) :=
  val_call (va_cons ha (va_cons val_c va_nil)) fun Q q => ⟨x, d, n, rfl, hd, q⟩
end
abbrev s_is_event : Stmt := topS 23
theorem sc_is_event : FnScope ["value"] ["value"] (defScope s_is_event) := ⟨rfl, rfl, rfl, by decide +kernel, rfl, by decide +kernel, by decide +kernel⟩
abbrev s_is_wire : Stmt := topS 24
theorem sc_is_wire : FnScope ["value"] ["value"] (defScope s_is_wire) := ⟨rfl, rfl, rfl, by decide +kernel, rfl, by decide +kernel, by decide +kernel⟩
def spIsWire : Sp := fun vs H Q _ => ∃ (x : V) (d : PyData), vs = [x] ∧ Dq H x d ∧ smallD d = true ∧ Q (.bl (wireB d)) H
def spIsEvent : Sp := fun vs H Q _ => ∃ (x : V) (d : PyData), vs = [x] ∧ Dq H x d ∧ smallD d = true ∧ Q (.bl (eventB d)) H
section
variable {P : Program} {w : World} {K : PySem.W.Frag} {mg : Str → Option Value} {base : Heap} {aw : Addr}
theorem ok_is_wire {f fT fN : Addr} {fd dT dN : FuncData} (B : Bt mg) (D : Df K mg "is_wire" s_is_wire f fd ["value"]) (D_is_tuple : Df K mg "is_tuple" s_is_tuple fT dT ["value", "size"]) (D_is_name : Df K mg "is_name" s_is_name fN dN ["value"]) : FnOk P w K mg base CX0 2 f fd ["value"] spIsWire := by
  have G_is_tuple : FnOk P w K mg base CX0 1 fT dT ["value", "size"] spIsTuple := ok_is_tuple B D_is_tuple
  have G_is_name : FnOk P w K mg base CX0 1 fN dN ["value"] spIsName := ok_is_name B D_is_name
  refine D.F.ok sc_is_wire (fun vs H Q E h => ?_) (fun cdv A outer s H vs Q E hr h => ?_)
  · obtain ⟨x, d, rfl, _⟩ := h
    rfl
  · obtain ⟨x, d, rfl, hx, sm, k⟩ := h
    have S := sc_is_wire
    have hu := hr.units
    refine ⟨_, (pss_one (ps_ret (pe_and (pe_call G_is_tuple (hr.mono (by decide)) (by rfl) D_is_tuple.g D_is_tuple.F.kp D_is_tuple.b .nil pass0 (pa_cons (pv 0) (pa_cons pe_int pa_nil))) (pe_and (pe_or (pe_cmpR (op_eqQ (by have := hr.units; exact Nat.lt_of_le_of_lt (Nat.le_add_right _ 64) this)) (pe_ix ix_tup (pv 0) pe_int (fun _ _ => rfl)) pe_str (nomark _)) (pe_one (pe_call G_is_name (hr.mono (by decide)) (by rfl) D_is_name.g D_is_name.F.kp D_is_name.b .nil pass0 (pa_cons (pe_ix ix_tup (pv 0) pe_int (fun _ _ => rfl)) pa_nil)))) (pe_one (pe_call G_is_name (hr.mono (by decide)) (by rfl) D_is_name.g D_is_name.F.kp D_is_name.b .nil pass0 (pa_cons (pe_ix ix_tup (pv 0) pe_int (fun _ _ => rfl)) pa_nil))))))), ?_⟩
    try dsimp only [tRet]
    refine (val_tupN (n := 2) (val_var rfl) hx) _ ⟨_, rfl, ?_⟩
    cases c : tupN 2 d with
    | false =>
      rw [wire_no c] at k
      exact iteF k
    | true =>
      refine iteT ?_
      cases hx with
      | tup h a =>
        rename_i p xs ds
        obtain ⟨d1, d2, rfl⟩ := two_d (of_decide_eq_true c)
        obtain ⟨v1, e1, q1⟩ := a.at_ 0 (d := d1) rfl
        obtain ⟨v2, e2, q2⟩ := a.at_ 1 (d := d2) rfl
        have s1 := smallA_at (ds := [d1, d2]) 0 sm rfl
        have s2 := smallA_at (ds := [d1, d2]) 1 sm rfl
        exact (val_andV (val_orV (val_eqQ (val_ixT (val_var rfl) h e1) q1) fun _ => val_name (val_ixT (val_var rfl) h e1) q1 s1) fun _ => val_name (val_ixT (val_var rfl) h e2) q2 s2) _ k
      | _ => cases c
end
end K5
namespace K5
open PySem PySem.Spec PyProof.Rows L2
section
variable {P : Program} {w : World} {K : PySem.W.Frag} {mg : Str → Option Value} {base : Heap} {aw : Addr}
theorem ok_is_event {f fT fN fW fD fI fB fA : Addr} {fd dT dN dW dD dI dB dA : FuncData} (B : Bt mg) (W : Gw K mg aw) (D : Df K mg "is_event" s_is_event f fd ["value"]) (D_is_tuple : Df K mg "is_tuple" s_is_tuple fT dT ["value", "size"]) (D_is_name : Df K mg "is_name" s_is_name fN dN ["value"])
    (D_is_wire : Df K mg "is_wire" s_is_wire fW dW ["value"]) (D_is_door : Df K mg "is_door" s_is_door fD dD ["value"]) (D_is_integer : Df K mg "is_integer" s_is_integer fI dI ["value"]) (D_is_below : Df K mg "is_below" s_is_below fB dB ["value", "many"]) (D_is_answer : Df K mg "is_answer" s_is_answer fA dA ["value", "worths"]) :
    FnOk P w K mg base CX0 3 f fd ["value"] spIsEvent := by
  have G_is_tuple : FnOk P w K mg base CX0 1 fT dT ["value", "size"] spIsTuple := ok_is_tuple B D_is_tuple
  have G_is_wire : FnOk P w K mg base CX0 2 fW dW ["value"] spIsWire := ok_is_wire B D_is_wire D_is_tuple D_is_name
  have G_is_door : FnOk P w K mg base CX0 2 fD dD ["value"] spIsDoor := ok_is_door B D_is_door D_is_name
  have G_is_below : FnOk P w K mg base CX0 2 fB dB ["value", "many"] spBelow := ok_is_below B D_is_below D_is_integer
  have G_is_answer : FnOk P w K mg base CX0 2 fA dA ["value", "worths"] spAnswer := ok_is_answer B D_is_answer D_is_integer
  refine D.F.ok sc_is_event (fun vs H Q E h => ?_) (fun cdv A outer s H vs Q E hr h => ?_)
  · obtain ⟨x, d, rfl, _⟩ := h
    rfl
  · obtain ⟨x, d, rfl, hx, sm, k⟩ := h
    have S := sc_is_event
    obtain ⟨tm, gM⟩ := W.m
    refine ⟨_, (pss_cons (ps_if (pt_val (pe_call G_is_tuple (hr.mono (by decide)) (by rfl) D_is_tuple.g D_is_tuple.F.kp D_is_tuple.b .nil pass0 (pa_cons (pv 0) (pa_cons pe_int pa_nil))))
        (pss_one (ps_ret (pe_and (pe_call G_is_wire (hr.mono (by decide)) (by rfl) D_is_wire.g D_is_wire.F.kp D_is_wire.b .nil pass0 (pa_cons (pe_ix ix_tup (pv 0) pe_int (fun _ _ => rfl)) pa_nil)) (pe_and (pe_cmpR (op_eqQ (by have := hr.units; exact Nat.lt_of_le_of_lt (Nat.le_add_right _ 64) this)) (pe_ix ix_tup (pv 0) pe_int (fun _ _ => rfl)) pe_str (nomark _)) (pe_and (pe_call G_is_door (hr.mono (by decide)) (by rfl) D_is_door.g D_is_door.F.kp D_is_door.b .nil pass0 (pa_cons (pe_ix ix_tup (pv 0) pe_int (fun _ _ => rfl)) pa_nil)) (pe_one (pe_call G_is_below (hr.mono (by decide)) (by rfl) D_is_below.g D_is_below.F.kp D_is_below.b .nil pass0 (pa_cons (pe_ix ix_tup (pv 0) pe_int (fun _ _ => rfl)) (pa_cons (pe_glob (v := .int 4) (by rfl) gM ⟨_, rfl⟩) pa_nil)))))))))
        pss_nil)
      (pss_one (ps_ret (pe_and (pe_call G_is_tuple (hr.mono (by decide)) (by rfl) D_is_tuple.g D_is_tuple.F.kp D_is_tuple.b .nil pass0 (pa_cons (pv 0) (pa_cons pe_int pa_nil))) (pe_and (pe_call G_is_wire (hr.mono (by decide)) (by rfl) D_is_wire.g D_is_wire.F.kp D_is_wire.b .nil pass0 (pa_cons (pe_ix ix_tup (pv 0) pe_int (fun _ _ => rfl)) pa_nil)) (pe_and (pe_cmpR (op_eqQ (by have := hr.units; exact Nat.lt_of_le_of_lt (Nat.le_add_right _ 64) this)) (pe_ix ix_tup (pv 0) pe_int (fun _ _ => rfl)) pe_str (nomark _)) (pe_one (pe_call G_is_answer (hr.mono (by decide)) (by rfl) D_is_answer.g D_is_answer.F.kp D_is_answer.b .nil pass0 (pa_cons (pe_ix ix_tup (pv 0) pe_int (fun _ _ => rfl)) (pa_cons (pe_glob (v := .int 4) (by rfl) gM ⟨_, rfl⟩) pa_nil)))))))))), ?_⟩
    have vw : ∀ {σ : L2.St} {ta : TE} {y : V} {e : PyData}, Val ta σ H y → Dq H y e → smallD e = true → Val (tCall spIsWire [] E0 (tCons ta tNil)) σ H (.bl (wireB e)) := fun ha hd s =>
      val_call (va_cons ha va_nil) fun Q q => ⟨_, _, rfl, hd, s, q⟩
    try dsimp only [tSeq, tIfS]
    refine (ans_val (val_tupN (n := 4) (val_var rfl) hx)) _ ?_
    cases c : tupN 4 d with
    | true =>
      refine iteT ?_
      cases hx with
      | tup h a =>
        rename_i p xs ds
        obtain ⟨d1, d2, d3, d4, rfl⟩ := four_d (of_decide_eq_true c)
        obtain ⟨v1, e1, q1⟩ := a.at_ 0 (d := d1) rfl
        obtain ⟨v2, e2, q2⟩ := a.at_ 1 (d := d2) rfl
        obtain ⟨v3, e3, q3⟩ := a.at_ 2 (d := d3) rfl
        obtain ⟨v4, e4, q4⟩ := a.at_ 3 (d := d4) rfl
        have s1 := smallA_at (ds := [d1, d2, d3, d4]) 0 sm rfl
        have s3 := smallA_at (ds := [d1, d2, d3, d4]) 2 sm rfl
        exact (val_andV (vw (val_ixT (val_var rfl) h e1) q1 s1) fun _ => val_andV (val_eqQ (val_ixT (val_var rfl) h e2) q2) fun _ => val_andV (val_door (val_ixT (val_var rfl) h e3) q3 s3) fun _ => val_below (val_ixT (val_var rfl) h e4) q4 val_c) _ k
      | _ => cases c
    | false =>
      refine iteF ?_
      try dsimp only [tNext, tRet]
      refine (val_tupN (n := 3) (val_var rfl) hx) _ ⟨_, rfl, ?_⟩
      cases c3 : tupN 3 d with
      | false =>
        rw [event_no c c3] at k
        exact iteF k
      | true =>
        refine iteT ?_
        cases hx with
        | tup h a =>
          rename_i p xs ds
          obtain ⟨d1, d2, d3, rfl⟩ := three_d (of_decide_eq_true c3)
          obtain ⟨v1, e1, q1⟩ := a.at_ 0 (d := d1) rfl
          obtain ⟨v2, e2, q2⟩ := a.at_ 1 (d := d2) rfl
          obtain ⟨v3, e3, q3⟩ := a.at_ 2 (d := d3) rfl
          have s1 := smallA_at (ds := [d1, d2, d3]) 0 sm rfl
          exact (val_andV (vw (val_ixT (val_var rfl) h e1) q1 s1) fun _ => val_andV (val_eqQ (val_ixT (val_var rfl) h e2) q2) fun _ => val_answer (val_ixT (val_var rfl) h e3) q3 val_c) _ k
        | _ => cases c3
end
end K5
namespace K5
open PySem PySem.Spec PyProof.Rows L2
/-! ### x, y, *zs = a tuple -/
section
open PySem.W
variable {prog : Program} {w : World} {A : Around} {E : Value → Shared → Prop} {s : Shared}
theorem star2_items {a : Addr} {ys : Array Value} {Q : List Value → Shared → Prop} (ha : IsTup s.heap a ys) (hh : A.handled = none) (h1 : 2 ≤ ys.size) (few : ys.size ≤ 16384)
    (h : ∀ (h' : Heap) (tk : Nat), (∀ b o, s.heap.get? b = some o → h'.get? b = some o) → Q (ys.toList.take 2 ++ [.ref h'.objs.size]) { s with heap := h'.push { cls := .type "list", data := .seq (ys.toList.drop 2).toArray }, toks := tk }) :
    wpAny (model prog w) A (unpackItems (.ref a) 3 (some 2)) Q E s := by
  have na : a ≠ s.heap.objs.size := by
    obtain ⟨o, e, _⟩ := ha
    exact Nat.ne_of_lt (Heap.lt_size e)
  unfold unpackItems notIterableAtAll
  refine wpAny_bind (wpAny_bind (wpAny_specialOf ha.typeIs slot_tuple_iter.lookup (wpAny_pure ?_)))
  simp only [Bool.false_eq_true, if_false]
  refine wpAny_bind (wpAny_holding (iter_tuple ha (wpAny_bind (wpAny_holding (draw_tuple na 2 0 _ _ ⟨_, Heap.get?_push_size _ rfl, rfl, rfl⟩ (ha.push _) (by omega) fun g hit hs => ?_)))))
  rw [Nat.zero_add] at hit
  rw [List.drop_zero]
  have hg : IsTup g a ys := (ha.push _).extBut hs.extBut na
  have q1 := hit
  have q2 := hg
  obtain ⟨o1, e1, _⟩ := q1
  obtain ⟨o2, e2, _⟩ := q2
  have hf : (ys.toList.take 2).length = 2 := by
    rw [List.length_take, Array.length_toList]
    omega
  rw [if_neg (show ¬ (ys.toList.take 2).length < 2 by omega)]
  refine wpAny_bind (wpAny_holding (PySem.W.kun_collect (s := { s with heap := g }) (T := "tuple_iterator") (.inr (.inr (.inr rfl))) (Walks.tuple (A := A.in1) hh s.heap.objs.size a na ys) (fun j u st => st.1.typeIs) (k := 2) h1 ⟨hit, hg⟩ (Heap.lt_size e1) (Heap.lt_size e2) (fun g2 tk hk => ?_) (Nat.le_trans few (by decide))))
  have hd : (ys.toList.drop 2).length = ys.size - 2 := by rw [List.length_drop, Array.length_toList]
  show wpAny _ _ (if (ys.toList.drop 2).length < 3 - 1 - 2 then _ else _) _ _ _
  rw [if_neg (Nat.not_lt_zero _)]
  show wpAny _ _ (newList ((ys.toList.drop 2).take ((ys.toList.drop 2).length - 0)) >>= fun d => pure (ys.toList.take 2 ++ [d] ++ (ys.toList.drop 2).drop ((ys.toList.drop 2).length - 0))) _ _ _
  simp only [Nat.sub_zero, List.take_length, List.drop_length, List.append_nil]
  refine wpAny_bind (wpAny_newList (wpAny_pure (h g2 tk fun b o e => ?_)) (by rw [hd]; exact Nat.le_trans (Nat.sub_le _ _) (Nat.le_trans few (by decide))))
  exact hk b o (Nat.ne_of_lt (Heap.lt_size e)) (hs.extBut b o (Nat.ne_of_lt (Heap.lt_size e)) (Heap.get?_push_of_some _ e))
end
/-- (x, y, *zs) = a tuple of two items at least -/
def gStar2 (K : PySem.W.Frag) (t u v : TG) : TG := fun z σ H Q => ∃ (a : Addr) (x y : V) (xs : List V), z = .ref a ∧ SqT K H a (x :: y :: xs) ∧ xs.length ≤ 16000 ∧ ∀ p, H p = none → t x σ (upd H p (.lst xs)) fun σ' H' => u y σ' H' fun σ2 H2 => v (.ref p) σ2 H2 Q
theorem pg_star2 {X : Cx} {e1 e2 e3 : Expr} {sp : Pos} {k : Nat} {pos : Pos} {t u v : TG} (hc : X.calm = true) (h1 : PG X e1 t) (h2 : PG X e2 u) (h3 : PG X e3 v)
    (hs : assignEach [e1, e2, .Starred e3 sp] X.env = [(false, assign e1 X.env), (false, assign e2 X.env), (true, assign e3 X.env)] := by rfl) : PG X (.Tuple [e1, e2, .Starred e3 sp] k pos) (gStar2 X.K t u v) := by
  refine ⟨fun pins s σ H z w Q I r hw => ?_⟩
  obtain ⟨a, x, y, xs, ev, hq, hl, hw⟩ := hw
  subst ev
  cases r
  obtain ⟨things, rvs, isl, few⟩ := I.tuple hq
  cases rvs with
  | cons r1 rr =>
    cases rr with
    | cons r2 rr =>
      rename_i y1 y2 ys
      have hlen := rr.length
      rw [PyProof.Rows.assign_Tuple]
      refine wpAny_bind (wpAny_standAt ?_)
      unfold unpack
      rw [hs]
      refine wpAny_bind (wpAny_holding (star2_items isl (I.ok.hd hc) (by simp) (by simp; omega) fun h' tk hk => ?_))
      have I1 : Inv X pins σ H { s with heap := h', toks := tk } := I.kept (t' := tk) hk
      have nf : H h'.objs.size = none := I1.hok.fresh (Nat.le_refl _)
      have I2 : Inv X pins σ (upd H h'.objs.size (.lst xs)) { s with heap := h'.push { cls := .type "list", data := .seq ys.toArray }, toks := tk } := by
        refine I1.laid (t' := tk) (fun b o e => Heap.get?_push_of_some _ e) (Nat.le_refl _) ?_
        exact ⟨Nat.le_trans hl (by decide), ys, 0, rr, Heap.get?_push_size _ rfl⟩
      show wpAny _ _ (assignInOrder [assign e1 X.env, assign e2 X.env, assign e3 X.env] [y1, y2, .ref h'.objs.size]) _ _ _
      refine assignInOrder_cons (thn (h1.run pins _ σ _ x y1 _ I2 r1 (hw _ nf)) fun _ s1 ⟨σ1, H1, I3, q1⟩ => ?_)
      refine assignInOrder_cons (thn (h2.run pins s1 σ1 H1 y y2 _ I3 r2 q1) fun _ s2 ⟨σ2, H2, I4, q2⟩ => ?_)
      refine assignInOrder_cons (thn (h3.run pins s2 σ2 H2 (.ref h'.objs.size) _ _ I4 rfl q2) fun _ s3 ⟨σ3, H3, I5, q3⟩ => ?_)
      exact assignInOrder_nil ⟨σ3, H3, I5, q3⟩
end K5
namespace K5
open PySem PySem.Spec PyProof.Rows L2
/-! ### events as lines -/
def dash (a : Str) : Str := if a = "" then "-" else a
def wordsOf : PyData → List Str
  | .tuple [.tuple [.str a, .str b], .str k, .str d, .int n] => [k, dash a, b, d, toString n]
  | .tuple [.tuple [.str a, .str b], .str k, .int i] => [k, dash a, b, ansWord i]
  | _ => []
def lineD (d : PyData) : Str := Str.join " " (wordsOf d)
theorem str_eq {x y : Str} (h : x.cps.toList = y.cps.toList) : x = y := by
  obtain ⟨⟨a⟩⟩ := x
  obtain ⟨⟨b⟩⟩ := y
  have h : a = b := h
  rw [h]
theorem join_c (c x z : Str) (r : List Str) : (Str.join c (x :: z :: r)).cps.toList = x.cps.toList ++ (c.cps.toList ++ (Str.join c (z :: r)).cps.toList) := by
  show (x ++ c ++ Str.join c (z :: r)).cps.toList = _
  rw [cps_append, cps_append, List.append_assoc]
theorem join_1 (c x : Str) : Str.join c [x] = x := rfl
theorem len_app (x y : Str) : (x ++ y).length = x.length + y.length := by
  show (x.cps ++ y.cps).size = _
  rw [Array.size_append]
  rfl
/-- what an event is -/
inductive Ev : PyData → Prop
  | call {a b r : Str} {n : Int} (ha : a = "" ∨ isName a = true) (hb : isName b = true) (hr : isDoor r = true) (n0 : 0 ≤ n) (n4 : n < 4) : Ev (.tuple [.tuple [.str a, .str b], .str "call", .str r, .int n])
  | ans {a b : Str} {i : Int} (ha : a = "" ∨ isName a = true) (hb : isName b = true) (i0 : -2 ≤ i) (i4 : i < 4) : Ev (.tuple [.tuple [.str a, .str b], .str "answer", .int i])
theorem wire_inv {d : PyData} (h : wireB d = true) : ∃ a b, d = .tuple [.str a, .str b] ∧ (a = "" ∨ isName a = true) ∧ isName b = true := by
  match d, h with
  | .tuple [x, y], h =>
    have h : ((isStr "" x || nameD x) && nameD y) = true := h
    rw [Bool.and_eq_true, Bool.or_eq_true] at h
    obtain ⟨h1, h2⟩ := h
    obtain ⟨b, rfl, hb⟩ : ∃ b, y = .str b ∧ isName b = true := by
      cases y <;> first | exact ⟨_, rfl, h2⟩ | cases h2
    have : ∃ a, x = .str a := by
      cases x <;> first | exact ⟨_, rfl⟩ | (rcases h1 with h1 | h1 <;> cases h1)
    obtain ⟨a, rfl⟩ := this
    exact ⟨a, b, rfl, h1.imp (fun e => of_decide_eq_true e) id, hb⟩
theorem str_inv {z : Str} {d : PyData} (h : isStr z d = true) : d = .str z := by
  cases d <;> first | (rw [of_decide_eq_true h]) | cases h
theorem ev_inv {d : PyData} (h : eventB d = true) : Ev d := by
  match d, h with
  | .tuple [w, k, r, n], h =>
    have h : (wireB w && (isStr "call" k && (doorD r && belowD n))) = true := h
    simp only [Bool.and_eq_true] at h
    obtain ⟨h1, h2, h3, h4⟩ := h
    obtain ⟨a, b, rfl, ha, hb⟩ := wire_inv h1
    cases str_inv h2
    obtain ⟨r', rfl, hr⟩ : ∃ b, r = .str b ∧ isDoor b = true := by
      cases r <;> first | exact ⟨_, rfl, h3⟩ | cases h3
    obtain ⟨n', rfl, hn⟩ : ∃ b : Int, n = .int b ∧ (decide (0 ≤ b) && decide (b < 4)) = true := by
      cases n <;> first | exact ⟨_, rfl, h4⟩ | cases h4
    rw [Bool.and_eq_true] at hn
    exact .call ha hb hr (of_decide_eq_true hn.1) (of_decide_eq_true hn.2)
  | .tuple [w, k, n], h =>
    have h : (wireB w && (isStr "answer" k && answerD n)) = true := h
    simp only [Bool.and_eq_true] at h
    obtain ⟨h1, h2, h4⟩ := h
    obtain ⟨a, b, rfl, ha, hb⟩ := wire_inv h1
    cases str_inv h2
    obtain ⟨n', rfl, hn⟩ : ∃ b : Int, n = .int b ∧ (decide (-2 ≤ b) && decide (b < 4)) = true := by
      cases n <;> first | exact ⟨_, rfl, h4⟩ | cases h4
    rw [Bool.and_eq_true] at hn
    exact .ans ha hb (of_decide_eq_true hn.1) (of_decide_eq_true hn.2)
theorem name_len {z : Str} (h : isName z = true) : 1 ≤ z.length ∧ z.length ≤ 8 := by
  unfold isName at h
  simp only [Bool.and_eq_true] at h
  have h1 := of_decide_eq_true h.1.1
  have h2 := of_decide_eq_true h.1.2
  omega
theorem wname_len {a : Str} (h : a = "" ∨ isName a = true) : a.length ≤ 8 := by
  rcases h with rfl | h
  · decide +kernel
  · exact (name_len h).2
theorem door_len {z : Str} (h : isDoor z = true) : z.length ≤ 8 := by
  unfold isDoor at h
  rw [Bool.and_eq_true] at h
  exact (name_len h.1).2
theorem dash_len {a : Str} (h : a = "" ∨ isName a = true) : (dash a).length ≤ 8 := by
  unfold dash
  split
  · decide +kernel
  · exact wname_len h
theorem small_sz {n : Nat} (h : n ≤ 1000) : n ≤ sizeLine := Nat.le_trans h (by decide)
theorem empty_app (x : Str) : Str.empty ++ x = x := by
  refine str_eq ?_
  rw [cps_append]
  rfl
theorem js_val {σ : L2.St} {H : Hp} {t : TE} {ts : List TE} {acc y : Str} {Q : Str → Hp → Prop} (h : Val t σ H (.str y)) (hl : acc.length + y.length ≤ 1000) (k : tJs ts (acc ++ y) σ H Q) : tJs (t :: ts) acc σ H Q := h _ ⟨y, rfl, by rw [len_app]; exact small_sz hl, k⟩
theorem val_fmtS {σ : L2.St} {H : Hp} {t : TE} {y : Str} (h : Val t σ H (.str y)) (hl : y.length ≤ 1000) : Val (tFmt t) σ H (.str y) := fun Q q => h _ (.inl ⟨y, rfl, small_sz hl, q⟩)
theorem val_fmtI {σ : L2.St} {H : Hp} {t : TE} {i : Int} (h : Val t σ H (.int i)) (hl : i.natAbs.log2 < 1920) : Val (tFmt t) σ H (.str (toString i)) := fun Q q => h _ (.inr ⟨i, rfl, hl, q⟩)
abbrev s_wire_text : Stmt := topS 26
theorem sc_wire_text : FnScope ["wire"] ["wire"] (defScope s_wire_text) := ⟨rfl, rfl, rfl, by decide +kernel, rfl, by decide +kernel, by decide +kernel⟩
def spWireText : Sp := fun vs H Q _ => ∃ (p : Addr) (a b : Str), vs = [.ref p] ∧ H p = some (.tup [.str a, .str b]) ∧ a.length ≤ 8 ∧ b.length ≤ 8 ∧ Q (.str (dash a ++ " " ++ b)) H
section
variable {P : Program} {w : World} {K : PySem.W.Frag} {mg : Str → Option Value} {base : Heap} {aw : Addr}
theorem ok_wire_text {f : Addr} {fd : FuncData} (B : Bt mg) (W : Gw K mg aw) (D : Df K mg "wire_text" s_wire_text f fd ["wire"]) : FnOk P w K mg base CX0 1 f fd ["wire"] spWireText := by
  refine D.F.ok sc_wire_text (fun vs H Q E h => ?_) (fun cdv A outer s H vs Q E hr h => ?_)
  · obtain ⟨p, a, b, rfl, _⟩ := h
    rfl
  · obtain ⟨p, a, b, rfl, hp, la, lb, k⟩ := h
    have S := sc_wire_text
    obtain ⟨to, gO⟩ := W.o
    refine ⟨_, (pss_one (ps_ret (pe_joined (.cons (pe_fmt (pe_orT (pe_ix ix_tup (pv 0) pe_int (fun _ _ => rfl)) (pe_one (pe_glob (v := .str "-") (by rfl) gO ⟨_, rfl⟩)))) (.cons pe_str (.cons (pe_fmt (pe_ix ix_tup (pv 0) pe_int (fun _ _ => rfl))) .nil)))))), ?_⟩
    try dsimp only [tRet]
    have h0 : Val (tOp (rIxT K) (tVar 0) (tC (.int (0 : Nat)))) [some (.ref p)] H (.str a) := val_ixT (val_var rfl) hp rfl
    have h1 : Val (tOp (rIxT K) (tVar 0) (tC (.int (1 : Nat)))) [some (.ref p)] H (.str b) := val_ixT (val_var rfl) hp rfl
    have ho : Val (tOrT K (tOp (rIxT K) (tVar 0) (tC (.int (0 : Nat)))) (tC (.str "-"))) [some (.ref p)] H (.str (dash a)) := fun Q q => h0 _ (by
      refine ⟨((a.length : Int) != 0), ⟨small_sz (by omega), rfl⟩, ?_⟩
      unfold dash at q
      by_cases c : a = ""
      · subst c
        rw [if_pos rfl] at q
        exact iteF q
      · rw [if_neg c] at q
        have : ((a.length : Int) != 0) = true := by
          have : a.length ≠ 0 := fun z => c (len_zero z)
          simp only [bne_iff_ne, ne_eq]
          omega
        rw [this]
        exact iteT q)
    have ld : (dash a).length ≤ 8 := by
      unfold dash
      split
      · decide +kernel
      · exact la
    have e0 : Str.empty.length = 0 := rfl
    have e1 : (" " : Str).length = 1 := by decide +kernel
    refine js_val (val_fmtS ho (by omega)) (by omega) ?_
    rw [empty_app]
    refine js_val val_c (by omega) ?_
    refine js_val (val_fmtS h1 (by omega)) (by rw [len_app]; omega) ?_
    exact k
end
theorem dq_str {H : Hp} {x : V} {z : Str} (h : Dq H x (.str z)) : x = .str z := by cases h; rfl
theorem dq_int {H : Hp} {x : V} {i : Int} (h : Dq H x (.int i)) : x = .int i := by cases h; rfl
theorem dq_tup {H : Hp} {x : V} {ds : List PyData} (h : Dq H x (.tuple ds)) : ∃ a xs, x = .ref a ∧ H a = some (.tup xs) ∧ DqA H xs ds := by
  cases h with
  | tup h a => exact ⟨_, _, rfl, h, a⟩
theorem dqa_nil {H : Hp} {xs : List V} (h : DqA H xs []) : xs = [] := by cases h; rfl
theorem dqa_cons {H : Hp} {xs : List V} {d : PyData} {ds : List PyData} (h : DqA H xs (d :: ds)) : ∃ x ys, xs = x :: ys ∧ Dq H x d ∧ DqA H ys ds := by
  cases h with
  | cons a b => exact ⟨_, _, rfl, a, b⟩
theorem dq_wire {H : Hp} {x : V} {a b : Str} (h : Dq H x (.tuple [.str a, .str b])) : ∃ w, x = .ref w ∧ H w = some (.tup [.str a, .str b]) := by
  obtain ⟨w, xs, rfl, hw, A⟩ := dq_tup h
  obtain ⟨x1, xs, rfl, q1, A⟩ := dqa_cons A
  obtain ⟨x2, xs, rfl, q2, A⟩ := dqa_cons A
  cases dqa_nil A
  cases dq_str q1
  cases dq_str q2
  exact ⟨w, rfl, hw⟩
theorem dq_call {H : Hp} {x : V} {a b k r : Str} {n : Int} (h : Dq H x (.tuple [.tuple [.str a, .str b], .str k, .str r, .int n])) : ∃ p w, x = .ref p ∧ H p = some (.tup [.ref w, .str k, .str r, .int n]) ∧ H w = some (.tup [.str a, .str b]) := by
  obtain ⟨p, xs, rfl, hp, A⟩ := dq_tup h
  obtain ⟨x1, xs, rfl, q1, A⟩ := dqa_cons A
  obtain ⟨x2, xs, rfl, q2, A⟩ := dqa_cons A
  obtain ⟨x3, xs, rfl, q3, A⟩ := dqa_cons A
  obtain ⟨x4, xs, rfl, q4, A⟩ := dqa_cons A
  cases dqa_nil A
  cases dq_str q2
  cases dq_str q3
  cases dq_int q4
  obtain ⟨w, rfl, hw⟩ := dq_wire q1
  exact ⟨p, w, rfl, hp, hw⟩
theorem dq_ans {H : Hp} {x : V} {a b k : Str} {n : Int} (h : Dq H x (.tuple [.tuple [.str a, .str b], .str k, .int n])) : ∃ p w, x = .ref p ∧ H p = some (.tup [.ref w, .str k, .int n]) ∧ H w = some (.tup [.str a, .str b]) := by
  obtain ⟨p, xs, rfl, hp, A⟩ := dq_tup h
  obtain ⟨x1, xs, rfl, q1, A⟩ := dqa_cons A
  obtain ⟨x2, xs, rfl, q2, A⟩ := dqa_cons A
  obtain ⟨x3, xs, rfl, q3, A⟩ := dqa_cons A
  cases dqa_nil A
  cases dq_str q2
  cases dq_int q3
  obtain ⟨w, rfl, hw⟩ := dq_wire q1
  exact ⟨p, w, rfl, hp, hw⟩
section
variable {P : Program} {w : World} {K : PySem.W.Frag} {mg : Str → Option Value} {base : Heap} {aw : Addr}
theorem int_len4 : ∀ n : Fin 4, (toString ((n.val : Nat) : Int) : Str).length ≤ 2 := by decide +kernel
theorem int_len {n : Int} (h0 : 0 ≤ n) (h4 : n < 4) : (toString n : Str).length ≤ 2 := by
  have := int_len4 ⟨n.toNat, by omega⟩
  rw [show ((n.toNat : Nat) : Int) = n by omega] at this
  exact this
theorem ansWord_len {i : Int} (h0 : -2 ≤ i) (h4 : i < 4) : (ansWord i).length ≤ 4 := by
  unfold ansWord
  split
  · decide +kernel
  · split
    · decide +kernel
    · exact Nat.le_trans (int_len (by omega) h4) (by decide)
theorem line_call (a b r : Str) (n : Int) : ((("call " : Str) ++ (dash a ++ " " ++ b)) ++ " " ++ r ++ " ") ++ toString n = lineD (.tuple [.tuple [.str a, .str b], .str "call", .str r, .int n]) := by
  refine str_eq ?_
  show _ = (Str.join " " [("call" : Str), dash a, b, r, toString n]).cps.toList
  rw [join_c, join_c, join_c, join_c, join_1]
  have e : ("call " : Str).cps.toList = ("call" : Str).cps.toList ++ (" " : Str).cps.toList := by decide +kernel
  simp only [cps_append, List.append_assoc, e]
theorem line_ans (a b : Str) (i : Int) : (("answer " : Str) ++ (dash a ++ " " ++ b)) ++ " " ++ ansWord i = lineD (.tuple [.tuple [.str a, .str b], .str "answer", .int i]) := by
  refine str_eq ?_
  show _ = (Str.join " " [("answer" : Str), dash a, b, ansWord i]).cps.toList
  rw [join_c, join_c, join_c, join_1]
  have e : ("answer " : Str).cps.toList = ("answer" : Str).cps.toList ++ (" " : Str).cps.toList := by decide +kernel
  simp only [cps_append, List.append_assoc, e]
abbrev s_event_text : Stmt := topS 25
theorem sc_event_text : FnScope ["event", "wire", "kind", "about"] ["event"] (defScope s_event_text) := ⟨rfl, rfl, rfl, by decide +kernel, rfl, by decide +kernel, by decide +kernel⟩
def spEventText : Sp := fun vs H Q _ => ∃ (x : V) (d : PyData), vs = [x] ∧ Dq H x d ∧ Ev d ∧ ∀ H', Same H H' → Q (.str (lineD d)) H'
theorem ok_event_text {f fW fA : Addr} {fd dW dA : FuncData} (B : Bt mg) (W : Gw K mg aw) (D : Df K mg "event_text" s_event_text f fd ["event"]) (D_wire_text : Df K mg "wire_text" s_wire_text fW dW ["wire"]) (D_shown_answer : Df K mg "shown_answer" s_shown_answer fA dA ["answer"]) : FnOk P w K mg base CX0 2 f fd ["event"] spEventText := by
  have G_wire_text : FnOk P w K mg base CX0 1 fW dW ["wire"] spWireText := ok_wire_text B W D_wire_text
  have G_shown_answer : FnOk P w K mg base CX0 1 fA dA ["answer"] spShownAns := ok_shown_answer B W D_shown_answer
  refine D.F.ok sc_event_text (fun vs H Q E h => ?_) (fun cdv A outer s H vs Q E hr h => ?_)
  · obtain ⟨x, d, rfl, _⟩ := h
    rfl
  · obtain ⟨x, d, rfl, hx, ev, k⟩ := h
    have S := sc_event_text
    refine ⟨_, (pss_cons (ps_asg (pv 0) (pg_star2 (by rfl) (pg_name (i := 1) S.nd rfl (.inl rfl)) (pg_name (i := 2) S.nd rfl (.inl rfl)) (pg_name (i := 3) S.nd rfl (.inl rfl))))
      (pss_cons (ps_if (pt_cmpR op_eq (pv 2) pe_str (nomark _))
        (pss_one (ps_ret (pe_joined (.cons pe_str (.cons (pe_fmt (pe_call G_wire_text (hr.mono (by decide)) (by rfl) D_wire_text.g D_wire_text.F.kp D_wire_text.b .nil pass0 (pa_cons (pv 1) pa_nil))) (.cons pe_str (.cons (pe_fmt (pe_ix ix_list (pv 3) pe_int (fun _ _ => rfl))) (.cons pe_str (.cons (pe_fmt (pe_ix ix_list (pv 3) pe_int (fun _ _ => rfl))) .nil)))))))))
        pss_nil)
      (pss_one (ps_ret (pe_joined (.cons pe_str (.cons (pe_fmt (pe_call G_wire_text (hr.mono (by decide)) (by rfl) D_wire_text.g D_wire_text.F.kp D_wire_text.b .nil pass0 (pa_cons (pv 1) pa_nil))) (.cons pe_str (.cons (pe_fmt (pe_call G_shown_answer (hr.mono (by decide)) (by rfl) D_shown_answer.g D_shown_answer.F.kp D_shown_answer.b .nil pass0 (pa_cons (pe_ix ix_list (pv 3) pe_int (fun _ _ => rfl)) pa_nil))) .nil))))))))), ?_⟩
    have e0 : Str.empty.length = 0 := rfl
    have l5 : ("call " : Str).length = 5 := by decide +kernel
    have l7 : ("answer " : Str).length = 7 := by decide +kernel
    have l1 : (" " : Str).length = 1 := by decide +kernel
    have ca : ¬ V.str "answer" = V.str "call" := by decide +kernel
    try dsimp only [tSeq, tAsg]
    refine (val_var rfl) _ ?_
    cases ev with
    | @call a b r n ha hb hr' n0 n4 =>
      obtain ⟨p, wr, rfl, hp, hw⟩ := dq_call hx
      refine ⟨p, _, _, _, rfl, SqT.of hp, by show 2 ≤ 16000; decide, fun l nl => ?_⟩
      have s1 := same_upd (o := .lst [.str r, .int n]) nl
      have hl : (upd H l (.lst [.str r, .int n])) l = some (.lst [.str r, .int n]) := upd_same
      generalize (upd H l (.lst [.str r, .int n])) = H1 at s1 hl ⊢
      have hw1 := s1 _ _ hw
      try dsimp only [gName, tIfS]
      refine (ans_eq2 (val_var rfl) val_c rfl) _ ?_
      rw [decide_eq_true rfl]
      refine iteT ?_
      try dsimp only [tRet]
      have la := wname_len ha
      have lb := (name_len hb).2
      have lr := door_len hr'
      have ld := dash_len ha
      have ln := int_len n0 n4
      have vw : Val (tCall spWireText [] E0 (tCons (tVar 1) tNil)) [some (.ref p), some (.ref wr), some (.str "call"), some (.ref l)] H1 (.str (dash a ++ " " ++ b)) := val_call (va_cons (val_var rfl) va_nil) fun Q q => ⟨wr, a, b, rfl, hw1, la, lb, q⟩
      have v0 : Val (tOp (rIxL K) (tVar 3) (tC (.int (0 : Nat)))) [some (.ref p), some (.ref wr), some (.str "call"), some (.ref l)] H1 (.str r) := val_ixL (val_var rfl) val_c (SqL.of hl) (atI_nat (j := 0) rfl)
      have v1 : Val (tOp (rIxL K) (tVar 3) (tC (.int (1 : Nat)))) [some (.ref p), some (.ref wr), some (.str "call"), some (.ref l)] H1 (.int n) := val_ixL (val_var rfl) val_c (SqL.of hl) (atI_nat (j := 1) rfl)
      have lw : (dash a ++ " " ++ b).length ≤ 17 := by rw [len_app, len_app]; omega
      refine js_val val_c (by omega) ?_
      rw [empty_app]
      refine js_val (val_fmtS vw (by omega)) (by omega) ?_
      refine js_val val_c (by rw [len_app]; omega) ?_
      refine js_val (val_fmtS v0 (by omega)) (by rw [len_app, len_app]; omega) ?_
      refine js_val val_c (by rw [len_app, len_app, len_app]; omega) ?_
      refine js_val (val_fmtI v1 (log_small (by omega))) (by rw [len_app, len_app, len_app, len_app]; omega) ?_
      show Q (.str _) H1
      rw [line_call]
      exact k H1 s1
    | @ans a b i ha hb i0 i4 =>
      obtain ⟨p, wr, rfl, hp, hw⟩ := dq_ans hx
      refine ⟨p, _, _, _, rfl, SqT.of hp, by show 1 ≤ 16000; decide, fun l nl => ?_⟩
      have s1 := same_upd (o := .lst [.int i]) nl
      have hl : (upd H l (.lst [.int i])) l = some (.lst [.int i]) := upd_same
      generalize (upd H l (.lst [.int i])) = H1 at s1 hl ⊢
      have hw1 := s1 _ _ hw
      try dsimp only [gName, tIfS]
      refine (ans_eq2 (val_var rfl) val_c rfl) _ ?_
      rw [decide_eq_false ca]
      refine iteF ?_
      try dsimp only [tNext, tRet]
      have la := wname_len ha
      have lb := (name_len hb).2
      have ld := dash_len ha
      have ln := ansWord_len i0 i4
      have vw : Val (tCall spWireText [] E0 (tCons (tVar 1) tNil)) [some (.ref p), some (.ref wr), some (.str "answer"), some (.ref l)] H1 (.str (dash a ++ " " ++ b)) := val_call (va_cons (val_var rfl) va_nil) fun Q q => ⟨wr, a, b, rfl, hw1, la, lb, q⟩
      have v0 : Val (tOp (rIxL K) (tVar 3) (tC (.int (0 : Nat)))) [some (.ref p), some (.ref wr), some (.str "answer"), some (.ref l)] H1 (.int i) := val_ixL (val_var rfl) val_c (SqL.of hl) (atI_nat (j := 0) rfl)
      have va : Val (tCall spShownAns [] E0 (tCons (tOp (rIxL K) (tVar 3) (tC (.int (0 : Nat)))) tNil)) [some (.ref p), some (.ref wr), some (.str "answer"), some (.ref l)] H1 (.str (ansWord i)) := val_call (va_cons v0 va_nil) fun Q q => ⟨i, rfl, i0, i4, q⟩
      have lw : (dash a ++ " " ++ b).length ≤ 17 := by rw [len_app, len_app]; omega
      refine js_val val_c (by omega) ?_
      rw [empty_app]
      refine js_val (val_fmtS vw (by omega)) (by omega) ?_
      refine js_val val_c (by rw [len_app]; omega) ?_
      refine js_val (val_fmtS va (by omega)) (by rw [len_app, len_app]; omega) ?_
      show Q (.str _) H1
      rw [line_ans]
      exact k H1 s1
end
end K5
namespace K5
open PySem PySem.Spec PyProof.Rows L2
section
variable {K : PySem.W.Frag} {σ : L2.St} {H : Hp} {p : Addr} {j : Nat} {Q : VK}
theorem snocV {α : Type} {l : List α} {m : Nat} {x : α} (h : l[m]? = some x) : l.take (m + 1) = l.take m ++ [x] := by
  rw [List.take_add_one, h]
  rfl
/-- known values over a tuple -/
theorem lc_valsT {te : TE} {g : TG} {tv : TE} {vs : List Nat} {xs : List V} {zs : List V} (hv : Val te σ H (.ref p)) (hp : H p = some (.tup xs)) (len : xs.length = zs.length) (few : zs.length ≤ 1000)
    (turn : ∀ (i : Nat) (x : V) (z : V) (H' : Hp), xs[i]? = some x → zs[i]? = some z → Same H H' → ∃ σ2 : L2.St, (∀ P : L2.St → Hp → Prop, P σ2 H' → g x (wipe σ vs) H' P) ∧ wipe σ2 vs = wipe σ vs ∧ ∀ R : VK, (∀ H'', Same H' H'' → R z H'') → tv σ2 H' R)
    (k : ∀ (H' : Hp) (q : Addr), Same H H' → H' q = some (.lst zs) → Q (.ref q) H') : tLc (iTup K te) g tYes tv vs σ H Q := by
  try dsimp only [tLc, iTup]
  refine hv _ ⟨p, rfl, ⟨_, SqT.of hp⟩, fun L nL => ?_⟩
  refine lc_tup (K := K) (a := p) (xs := xs) (fun k H' => Same H H' ∧ H' L = some (.lst (zs.take k))) ⟨same_upd nL, upd_same⟩ (fun k H' _ h => SqT.of (h.1 _ _ hp)) (fun m x H' hx h => ?_) fun H' h => k H' L h.1 (by
    have e := h.2
    rw [len, List.take_length] at e
    exact e)
  obtain ⟨s2, hL⟩ := h
  have hm : m < zs.length := by
    have := (List.getElem?_eq_some_iff.mp hx).1
    omega
  obtain ⟨σ2, h1, h2, h3⟩ := turn m x zs[m] H' hx (List.getElem?_eq_getElem hm) s2
  refine h1 _ ⟨h2, ?_⟩
  show tv σ2 H' _
  refine h3 _ fun H'' s => ⟨_, s _ _ hL, ?_, fun b o e => ?_, ?_⟩
  · exact Nat.lt_of_le_of_lt (List.length_take_le ..) (Nat.lt_of_le_of_lt (by omega : m ≤ 1000) (by decide))
  · rw [upd_ne (ne_of_none e nL)]
    exact s _ _ (s2 _ _ e)
  · rw [upd_same, snocV (List.getElem?_eq_getElem hm)]
theorem lc_valsL {te : TE} {g : TG} {tv : TE} {vs : List Nat} {xs : List V} {zs : List V} (hv : Val te σ H (.ref p)) (hp : H p = some (.lst xs)) (len : xs.length = zs.length) (few : zs.length ≤ 100000)
    (turn : ∀ (i : Nat) (x : V) (z : V) (H' : Hp), xs[i]? = some x → zs[i]? = some z → Same H H' → ∃ σ2 : L2.St, (∀ P : L2.St → Hp → Prop, P σ2 H' → g x (wipe σ vs) H' P) ∧ wipe σ2 vs = wipe σ vs ∧ ∀ R : VK, (∀ H'', Same H' H'' → R z H'') → tv σ2 H' R)
    (k : ∀ (H' : Hp) (q : Addr), Same H H' → H' q = some (.lst zs) → Q (.ref q) H') : tLc (iList K te) g tYes tv vs σ H Q := by
  try dsimp only [tLc, iList]
  refine hv _ ⟨p, rfl, ⟨_, SqL.of hp⟩, fun L nL => ?_⟩
  refine lc_list (K := K) (a := p) (xs := xs) (fun k H' => Same H H' ∧ H' L = some (.lst (zs.take k))) ⟨same_upd nL, upd_same⟩ (fun k H' _ h => SqL.of (h.1 _ _ hp)) (fun m x H' hx h => ?_) fun H' h => k H' L h.1 (by
    have e := h.2
    rw [len, List.take_length] at e
    exact e)
  obtain ⟨s2, hL⟩ := h
  have hm : m < zs.length := by
    have := (List.getElem?_eq_some_iff.mp hx).1
    omega
  obtain ⟨σ2, h1, h2, h3⟩ := turn m x zs[m] H' hx (List.getElem?_eq_getElem hm) s2
  refine h1 _ ⟨h2, ?_⟩
  show tv σ2 H' _
  refine h3 _ fun H'' s => ⟨_, s _ _ hL, ?_, fun b o e => ?_, ?_⟩
  · exact Nat.lt_of_le_of_lt (List.length_take_le ..) (Nat.lt_of_le_of_lt (by omega : m ≤ 100000) (by decide))
  · rw [upd_ne (ne_of_none e nL)]
    exact s _ _ (s2 _ _ e)
  · rw [upd_same, snocV (List.getElem?_eq_getElem hm)]
end
theorem jn_txt (a : Str) (ys : List Str) : Txt.join a ys = Str.join a ys := TL.join_eq a ys
/-! ### a run is shown -/
def runB : PyData → Bool
  | .tuple ds => ds.all eventB
  | _ => false
def pageD : PyData → Str
  | .tuple ds => Str.join "\n" (ds.map lineD)
  | _ => ""
def fewD : PyData → Bool
  | .tuple ds => decide (ds.length ≤ 100)
  | _ => true
abbrev s_show_run : Stmt := topS 21
theorem sc_show_run : FnScope ["run", "event"] ["run"] (defScope s_show_run) := ⟨rfl, rfl, rfl, by decide +kernel, rfl, by decide +kernel, by decide +kernel⟩
def spShowRun (CR : Addr) : Sp := fun vs H Q E => ∃ (x : V) (d : PyData), vs = [x] ∧ Dq H x d ∧ (isT d = true → smallD d = true) ∧ fewD d = true ∧ (runB d = true → ∀ H', Same H H' → Q (.str (pageD d)) H') ∧ (runB d = false → ErrK CR x H E)
theorem DqA.at2 {H : Hp} : ∀ {vs : List V} {ds : List PyData} (i : Nat) {v : V}, DqA H vs ds → vs[i]? = some v → ∃ d, ds[i]? = some d ∧ Dq H v d
  | _, _, i, d, .nil, h => by cases h
  | _, _, 0, d, .cons a b, h => by
    have h := Option.some.inj h
    rw [← h]
    exact ⟨_, rfl, a⟩
  | _, _, i + 1, d, .cons a b, h => DqA.at2 i b h
theorem line_len {d : PyData} (h : Ev d) : (lineD d).length ≤ 50 := by
  cases h with
  | call ha hb hr n0 n4 =>
    have := wname_len ha
    have := (name_len hb).2
    have := door_len hr
    have := dash_len ha
    have := int_len n0 n4
    have l5 : ("call " : Str).length = 5 := by decide +kernel
    have l1 : (" " : Str).length = 1 := by decide +kernel
    rw [← line_call]
    simp only [len_app]
    omega
  | ans ha hb i0 i4 =>
    have := wname_len ha
    have := (name_len hb).2
    have := dash_len ha
    have := ansWord_len i0 i4
    have l7 : ("answer " : Str).length = 7 := by decide +kernel
    have l1 : (" " : Str).length = 1 := by decide +kernel
    rw [← line_ans]
    simp only [len_app]
    omega
theorem sum_le {zs : List Str} {c : Nat} (h : ∀ z ∈ zs, z.length ≤ c) : (zs.map (·.length)).sum ≤ c * zs.length := by
  induction zs with
  | nil => exact Nat.zero_le _
  | cons z r ih =>
    have h1 := h z (List.mem_cons_self ..)
    have h2 := ih fun y hy => h y (List.mem_cons_of_mem _ hy)
    rw [List.map_cons, List.sum_cons, List.length_cons, Nat.mul_succ]
    omega
section
variable {P : Program} {w : World} {K : PySem.W.Frag} {mg : Str → Option Value} {base : Heap} {aw CR : Addr}
theorem ok_show_run {f fI fT fE : Addr} {fd dI dT dE : FuncData} (B : Bt mg) (m_all : mg "all" = none) (T : Er K mg "BadRun" CR fE) (FE : Fun K "__init__" "WireError.__init__" s_err fE dE) (bE : Binds K dE ["self", "value"] [])
    (D : Df K mg "show_run" s_show_run f fd ["run"]) (D_is_event : Df K mg "is_event" s_is_event fI dI ["value"]) (G_is_event : FnOk P w K mg base CX0 3 fI dI ["value"] spIsEvent) (D_event_text : Df K mg "event_text" s_event_text fT dT ["event"]) (G_event_text : FnOk P w K mg base CX0 2 fT dT ["event"] spEventText) :
    FnOk P w K mg base (L2.CX P w) 5 f fd ["run"] (spShowRun CR) := by
  have GE : FnOk P w K mg base CX0 1 fE dE ["self", "value"] (spErr K) := ok_err FE
  refine D.F.okX sc_show_run (fun vs H Q E h => ?_) (fun cdv A outer s H vs Q E hr h => ?_)
  · obtain ⟨x, d, rfl, _⟩ := h
    rfl
  · obtain ⟨x, d, rfl, hx, sm, fw, k, ke⟩ := h
    have S := sc_show_run
    refine ⟨_, (pss_cons (ps_if (PW.pt (pw_or (pt_not (pt_val (pe_callB call_isi (by rfl) B.m_isinstance PyProof.Rows.boot_isinstance (pa_cons (pv 0) (pa_cons (pe_tyN bt_tuple (by rfl) B.m_tuple) pa_nil))))) (pw_or1 (pt_not (pt_val (pe_callB (cr_all rfl) (by rfl) m_all (by decide +kernel) (pa_cons (pe_lc (own := [("event", 1)]) (g := gName 1) (tt := tYes) rfl S.nd (pi_tup (pv 0)) (blkOk_by (own := [("event", 1)]) (N := ["run", "event"]) (sc := defScope s_show_run) (by decide +kernel)) (fun _ _ _ _ _ => pg_name (i := 1) S.nd rfl (Or.inl rfl)) (fun _ _ _ _ _ => pts_nil) (fun _ _ _ _ _ => pe_call G_is_event (hr.mono (by decide)) (by rfl) D_is_event.g D_is_event.F.kp D_is_event.b .nil pass0 (pa_cons (pv 1) pa_nil))) pa_nil)))))))
        (pss_one (ps_raise rfl (takes_of rfl rfl rfl rfl) (pmk_oex T.O T.iC T.tI GE (hr.mono (by decide)) bE .nil pass0 (by rfl) T.g (pa_cons (pv 0) pa_nil))))
        pss_nil)
      (pss_one (ps_ret (pe_bm PySem.F.plainAttrs_str PySem.F.slot_str_join PySem.F.type_str_join mt_join pe_str (pa_cons (pe_lc (own := [("event", 1)]) (g := gName 1) (tt := tYes) rfl S.nd (pi_tup (pv 0)) (blkOk_by (own := [("event", 1)]) (N := ["run", "event"]) (sc := defScope s_show_run) (by decide +kernel)) (fun _ _ _ _ _ => pg_name (i := 1) S.nd rfl (Or.inl rfl)) (fun _ _ _ _ _ => pts_nil) (fun _ _ _ _ _ => pe_call G_event_text (hr.mono (by decide)) (by rfl) D_event_text.g D_event_text.F.kp D_event_text.b .nil pass0 (pa_cons (pv 1) pa_nil))) pa_nil))))), ?_⟩
    obtain ⟨Ty, kd, kt⟩ := hx.kit
    try dsimp only [tSeq, tIfS, tOr]
    refine (ans_not (ans_val (val_isi (val_var rfl) kd kt))) _ ?_
    cases c : isT d with
    | false =>
      have e : runB d = false := by
        cases d <;> first | rfl | cases c
      refine iteT (iteT ?_)
      exact raise_run T.O T.nv (val_var rfl) (ke e)
    | true =>
      refine iteF ?_
      cases hx with
      | tup h a =>
        rename_i p xs ds
        have fw : ds.length ≤ 100 := of_decide_eq_true fw
        have sm := sm rfl
        try dsimp only [tNot, tB, tCB, tCons, tNil]
        refine lc_valsT (p := p) (xs := xs) (zs := (ds.map eventB).map V.bl) (val_var rfl) h (by rw [List.length_map, List.length_map, a.len]) (by rw [List.length_map, List.length_map]; omega) (fun i x z H' hx hz s => ?_) fun H1 q s1 hq => ?_
        · obtain ⟨d, hd, dq⟩ := a.at2 i hx
          rw [List.getElem?_map, List.getElem?_map, hd] at hz
          have hz : V.bl (eventB d) = z := Option.some.inj hz
          refine ⟨_, fun P hP => hP, rfl, fun R hR => ?_⟩
          rw [← hz] at hR
          try dsimp only [tCall, tCons, tNil]
          refine (val_var rfl) _ ?_
          exact ⟨x, d, rfl, Dq.mono s _ dq, smallA_at i sm hd, hR _ (Same.refl _)⟩
        · refine ⟨q, _, rfl, SqL.of hq, ?_⟩
          have e : (ds.map eventB).all id = runB (.tuple ds) := by
            rw [List.all_map]
            rfl
          rw [e]
          cases hr' : runB (.tuple ds) with
          | false =>
            refine ⟨false, rfl, iteT ?_⟩
            exact raise_run T.O T.nv (val_var rfl) (ErrK.mono (ke hr') s1)
          | true =>
            refine ⟨true, rfl, iteF ?_⟩
            have ha : ∀ d ∈ ds, eventB d = true := List.all_eq_true.mp hr'
            have a1 := DqA.mono s1 _ a
            try dsimp only [tNext, tRet]
            refine bm_run (x := .str "\n") val_c rfl ?_
            try dsimp only [tCons, tNil]
            refine lc_valsT (p := p) (xs := xs) (zs := (ds.map lineD).map V.str) (val_var rfl) (s1 _ _ h) (by rw [List.length_map, List.length_map, a.len]) (by rw [List.length_map, List.length_map]; omega) (fun i x z H' hx hz s => ?_) fun H2 q2 s2 hq2 => ?_
            · obtain ⟨d, hd, dq⟩ := a1.at2 i hx
              rw [List.getElem?_map, List.getElem?_map, hd] at hz
              have hz : V.str (lineD d) = z := Option.some.inj hz
              refine ⟨_, fun P hP => hP, rfl, fun R hR => ?_⟩
              rw [← hz] at hR
              try dsimp only [tCall, tCons, tNil]
              refine (val_var rfl) _ ?_
              exact ⟨x, d, rfl, Dq.mono s _ dq, ev_inv (ha d (List.mem_of_getElem? hd)), hR⟩
            · refine ⟨"\n", q2, ds.map lineD, rfl, rfl, .inl (SqL.of hq2), ?_, ?_⟩
              · have h1 := sum_le (zs := ds.map lineD) (c := 50) fun z hz => by
                  obtain ⟨d, hd, rfl⟩ := List.mem_map.mp hz
                  exact line_len (ev_inv (ha d hd))
                rw [List.length_map] at h1 ⊢
                have h2 : ("\n" : Str).length = 1 := by decide +kernel
                rw [h2, Nat.mul_one]
                omega
              · rw [jn_txt]
                exact k hr' H2 (s1.trans s2)
      | _ => cases c
end
end K5
namespace K5
open PySem PySem.Spec PyProof.Rows L2
/-! ### what is shown as a plain text is that text -/
theorem rc_cases (q c : Nat) : Builtin.Str.reprChar q c = [c] ∨ ∃ r, Builtin.Str.reprChar q c = 92 :: r := by
  unfold Builtin.Str.reprChar
  dsimp only
  repeat' split
  all_goals first | exact .inl rfl | exact .inr ⟨_, rfl⟩
theorem foldl_rc (q : Nat) : ∀ (l : List Nat) (acc : Array Nat), (l.foldl (fun out c => out ++ (Builtin.Str.reprChar q c).toArray) acc).toList = acc.toList ++ l.flatMap (Builtin.Str.reprChar q)
  | [], acc => by simp
  | c :: r, acc => by
    rw [List.foldl_cons, foldl_rc q r, Array.toList_append, List.flatMap_cons, List.append_assoc]
theorem repr_list (x : Str) : (reprText x).cps.toList = reprQuote x :: (x.cps.toList.flatMap (Builtin.Str.reprChar (reprQuote x)) ++ [reprQuote x]) := by
  unfold reprText
  show ((x.cps.foldl (fun out c => out ++ (Builtin.Str.reprChar (reprQuote x) c).toArray) #[reprQuote x]).push (reprQuote x)).toList = _
  rw [Array.toList_push, ← Array.foldl_toList, foldl_rc]
  rfl
theorem flat_plain (q : Nat) : ∀ (l t : List Nat), 92 ∉ t → l.flatMap (Builtin.Str.reprChar q) = t → l = t
  | [], t, _, h => by
    rw [← h]
    rfl
  | c :: r, t, n, h => by
    rw [List.flatMap_cons] at h
    rcases rc_cases q c with e | ⟨r', e⟩
    · rw [e] at h
      have h2 : c :: r.flatMap (Builtin.Str.reprChar q) = t := h
      cases t with
      | nil => cases h2
      | cons d t =>
        injection h2 with h3 h4
        rw [h3, flat_plain q r t (fun m => n (List.mem_cons_of_mem _ m)) h4]
    · rw [e] at h
      exact absurd (by rw [← h]; exact List.mem_cons_self ..) n
theorem textFrom_pre : ∀ (ts : List Str) (k : Nat) (acc : Str), ∃ r, (textFrom k acc ts).cps.toList = acc.cps.toList ++ r
  | [], k, acc => ⟨[], by rw [List.append_nil]; rfl⟩
  | t :: ts, k, acc => by
    obtain ⟨r, h⟩ := textFrom_pre ts (k + 1) (acc ++ (if k > 0 then ", " else "" : String) ++ t)
    rw [cps_append, cps_append, List.append_assoc, List.append_assoc] at h
    exact ⟨_, h⟩
mutual
/-- texts and ints of a size that is met -/
def okD : PyData → Bool
  | .none => true
  | .bool _ => true
  | .int i => decide (-20 ≤ i ∧ i ≤ 20)
  | .str z => decide (z.length ≤ 14000) && PyData.strOk z
  | .list xs => okA xs
  | .tuple xs => okA xs
  | .dict kvs => kvs.isEmpty
def okA : List PyData → Bool
  | [] => true
  | x :: xs => okD x && okA xs
end
mutual
theorem ok_small : ∀ d : PyData, smallD d = true → okD d = true
  | .none, _ => rfl
  | .bool _, _ => rfl
  | .int i, h => h
  | .str z, h => by
    have h1 := S85_ok z (of_decide_eq_true h)
    show (decide (z.length ≤ 14000) && PyData.strOk z) = true
    rw [h1.2, decide_eq_true (Nat.le_trans h1.1 (by decide))]
    rfl
  | .list xs, h => ok_smallA xs h
  | .tuple xs, h => ok_smallA xs h
  | .dict kvs, h => h
theorem ok_smallA : ∀ ds : List PyData, smallA ds = true → okA ds = true
  | [], _ => rfl
  | d :: ds, h => by
    have h : (smallD d && smallA ds) = true := h
    rw [Bool.and_eq_true] at h
    show (okD d && okA ds) = true
    rw [ok_small d h.1, ok_smallA ds h.2]
    rfl
end
theorem int_head : ∀ i : Fin 41, (toString ((i.val : Int) - 20) : Str).cps.toList.head? ≠ some 39 := by decide +kernel
theorem int_head' {i : Int} (h : -20 ≤ i ∧ i ≤ 20) : (toString i : Str).cps.toList.head? ≠ some 39 := by
  have := int_head ⟨(i + 20).toNat, by omega⟩
  rw [show (((i + 20).toNat : Nat) : Int) - 20 = i by omega] at this
  exact this
structure Plain (z : Str) : Prop where
  r : (reprText z).cps.toList = 39 :: (z.cps.toList ++ [39])
  n : 92 ∉ z.cps.toList
theorem plain3 : Plain "" ∧ Plain "call" ∧ Plain "answer" := ⟨⟨by decide +kernel, by decide +kernel⟩, ⟨by decide +kernel, by decide +kernel⟩, ⟨by decide +kernel, by decide +kernel⟩⟩
theorem shown_plain {d : PyData} {z : Str} (p : Plain z) (ok : okD d = true) (h : d.shown = reprText z) : d = .str z := by
  have hd : d.shown.cps.toList.head? = some 39 := by
    rw [h, p.r]
    rfl
  cases d with
  | none => exact absurd hd (by decide +kernel)
  | bool b => cases b <;> exact absurd hd (by decide +kernel)
  | int i => exact absurd hd (int_head' (of_decide_eq_true ok))
  | list xs =>
    obtain ⟨r, e⟩ := textFrom_pre (PyData.shownAll xs) 0 "["
    have hd : (textFrom 0 "[" (PyData.shownAll xs) ++ "]").cps.toList.head? = some 39 := hd
    rw [cps_append, e, show ("[" : Str).cps.toList = [91] by decide +kernel] at hd
    cases hd
  | tuple xs =>
    have hd : ((("(" : Str) ++ Str.join ", " (PyData.shownAll xs)) ++ (if (PyData.shownAll xs).length == 1 then ",)" else ")" : String) : Str).cps.toList.head? = some 39 := hd
    rw [cps_append, cps_append, show ("(" : Str).cps.toList = [40] by decide +kernel] at hd
    cases hd
  | dict kvs =>
    have hd : (("{" : Str) ++ Str.join ", " (PyData.shownKv kvs) ++ "}").cps.toList.head? = some 39 := hd
    rw [cps_append, cps_append, show ("{" : Str).cps.toList = [123] by decide +kernel] at hd
    cases hd
  | str w =>
    have h : reprText w = reprText z := h
    have e : (reprText w).cps.toList = (reprText z).cps.toList := by rw [h]
    rw [repr_list w, p.r] at e
    injection e with e1 e2
    rw [e1] at e2
    have e3 := List.append_inj_left' e2 rfl
    rw [str_eq (flat_plain _ _ _ p.n e3)]
theorem shown_is {d : PyData} {z : Str} (p : Plain z) (ok : okD d = true) : decide (V.str d.shown = V.str (reprText z)) = isStr z d := by
  have e1 : decide (V.str d.shown = V.str (reprText z)) = decide (d.shown = reprText z) := decide_eq_decide.mpr ⟨fun e => by injection e, fun e => by rw [e]⟩
  rw [e1]
  cases c : isStr z d with
  | true =>
    rw [str_inv c]
    exact decide_eq_true rfl
  | false =>
    refine decide_eq_false fun e => ?_
    rw [shown_plain p ok e] at c
    have : isStr z (.str z) = true := decide_eq_true rfl
    rw [this] at c
    cases c
end K5
namespace K5
open PySem PySem.Spec PyProof.Rows L2
/-! ### drawn names and events -/
theorem take_box {σ : L2.St} {H : Hp} {b : Addr} {p q n m : Int} {tm : TE} {i : Nat} {Q : VK} (hv : σ[i]? = some (some (.ref b))) (hm : Val tm σ H (.int m)) (hb : H b = some (.lst (bx p q n))) (Bx : Box p q n) (m0 : 0 < m) (m1 : m < 1000000) (hn : n < 1000000)
    (k : ∀ (d p' n' : Int), 0 ≤ d → d < m → Box p' q n' → n' ≤ n + 1 → Q (.int d) (upd H b (.lst (bx p' q n')))) : tCall spTake [] E0 (tCons (tVar i) (tCons tm tNil)) σ H Q := by
  try dsimp only [tCall, tCons, tNil]
  refine (val_var hv) _ ?_
  refine hm _ ?_
  exact ⟨b, m, p, q, n, rfl, hb, Bx, hn, m0, m1, fun d p' n' d0 d1 B le => k d p' n' d0 d1 B le⟩
abbrev s__law_of : Stmt := topS 32
theorem sc__law_of : FnScope ["_law_box_here", "_law_some"] ["_law_box_here", "_law_some"] (defScope s__law_of) := ⟨rfl, rfl, rfl, by decide +kernel, rfl, by decide +kernel, by decide +kernel⟩
def spOfB : Sp := fun vs H Q _ => ∃ (b l : Addr) (xs : List V) (p q n : Int), vs = [.ref b, .ref l] ∧ H b = some (.lst (bx p q n)) ∧ Box p q n ∧ n < 1000000 ∧ H l = some (.lst xs) ∧ l ≠ b ∧ 0 < xs.length ∧ xs.length ≤ 1000 ∧
  ∀ (x : V) (p' n' : Int), x ∈ xs → Box p' q n' → n' ≤ n + 1 → Q x (upd H b (.lst (bx p' q n')))
def names7 : List Str := ["a", "till", "call", "answer", "lost", "abcdefgh", "zz"]
theorem names7_ok : ∀ z ∈ names7, isName z = true ∧ isDoor z = true ∧ z ∈ S85 := by decide +kernel
abbrev s__law_name : Stmt := topS 33
theorem sc__law_name : FnScope ["_law_box_here"] ["_law_box_here"] (defScope s__law_name) := ⟨rfl, rfl, rfl, by decide +kernel, rfl, by decide +kernel, by decide +kernel⟩
def spNm : Sp := fun vs H Q _ => ∃ (b : Addr) (p q n : Int), vs = [.ref b] ∧ H b = some (.lst (bx p q n)) ∧ Box p q n ∧ n < 1000000 ∧
  ∀ (H' : Hp) (z : Str) (p' n' : Int), SameBut b H H' → H' b = some (.lst (bx p' q n')) → Box p' q n' → n' ≤ n + 1 → z ∈ names7 → Q (.str z) H'
abbrev s__law_event : Stmt := topS 34
theorem sc__law_event : FnScope ["_law_box_here", "_law_wire"] ["_law_box_here"] (defScope s__law_event) := ⟨rfl, rfl, rfl, by decide +kernel, rfl, by decide +kernel, by decide +kernel⟩
/-- a drawn event -/
structure Dr85 (d : PyData) : Prop where
  e : Ev d
  b : eventB d = true
  s : smallD d = true
  l : listIn d = false
def spEv : Sp := fun vs H Q _ => ∃ (b : Addr) (p q n : Int), vs = [.ref b] ∧ H b = some (.lst (bx p q n)) ∧ Box p q n ∧ n + 20 < 1000000 ∧
  ∀ (H' : Hp) (x : V) (d : PyData) (p' n' : Int), SameBut b H H' → H' b = some (.lst (bx p' q n')) → Box p' q n' → n' ≤ n + 8 → Dq H' x d → Dr85 d → Q x H'
theorem ev_b {d : PyData} (h : Ev d) : eventB d = true := by
  have wb : ∀ {a b : Str}, (a = "" ∨ isName a = true) → isName b = true → wireB (.tuple [.str a, .str b]) = true := fun {a b} ha hb => by
    show ((decide (a = "") || isName a) && isName b) = true
    rw [hb, Bool.and_true]
    rcases ha with rfl | ha
    · rw [decide_eq_true rfl]
      rfl
    · rw [ha, Bool.or_true]
  cases h with
  | call ha hb hr n0 n4 =>
    show (wireB _ && (decide (("call" : Str) = "call") && (isDoor _ && (decide (_ ≤ _) && decide (_ < _))))) = true
    rw [wb ha hb, decide_eq_true rfl, hr, decide_eq_true n0, decide_eq_true n4]
    rfl
  | ans ha hb i0 i4 =>
    show (wireB _ && (decide (("answer" : Str) = "answer") && (decide (_ ≤ _) && decide (_ < _)))) = true
    rw [wb ha hb, decide_eq_true rfl, decide_eq_true i0, decide_eq_true i4]
    rfl
theorem ls_new {H : Hp} {l b : Addr} {o u : HO} (nl : H l = none) (hb : H b = some u) : l ≠ b := (ne_of_none hb nl).symm
section
variable {P : Program} {w : World} {K : PySem.W.Frag} {mg : Str → Option Value} {base : Heap}
theorem ok_ofB {f fT : Addr} {fd fdT : FuncData} (B : Bt mg) (D : Df K mg "_law_of" s__law_of f fd ["_law_box_here", "_law_some"]) (D__law_take : Df K mg "_law_take" sTake fT fdT ["_law_box_here", "_law_many"]) :
    FnOk P w K mg base CX0 2 f fd ["_law_box_here", "_law_some"] spOfB := by
  have G__law_take : FnOk P w K mg base CX0 1 fT fdT ["_law_box_here", "_law_many"] spTake := ok_take (CX := CX0) D__law_take.F B.m_int
  refine D.F.ok sc__law_of (fun vs H Q E h => ?_) (fun cdv A outer s H vs Q E hr h => ?_)
  · obtain ⟨b, l, xs, p, q, n, rfl, _⟩ := h
    rfl
  · obtain ⟨b, l, xs, p, q, n, rfl, hb, Bx, hn, hl, nlb, l0, l1, k⟩ := h
    have S := sc__law_of
    refine ⟨_, (pss_one (ps_ret (pe_ix ix_list (pv 1) (pe_call G__law_take (hr.mono (by decide)) (by rfl) D__law_take.g D__law_take.F.kp D__law_take.b .nil pass0 (pa_cons (pv 0) (pa_cons (pe_callB call_len_seq (by rfl) B.m_len PySem.boot_len (pa_cons (pv 1) pa_nil)) pa_nil))) (fun _ _ => rfl)))), ?_⟩
    dsimp only [tRet, tOp]
    refine (val_var rfl) _ ?_
    refine take_box rfl (val_lenL (val_var rfl) (SqL.of hl)) hb Bx (by omega) (by omega) hn fun d p' n' d0 d1 B2 h2 => ?_
    have hj : d.toNat < xs.length := by omega
    exact ⟨l, xs, d, xs[d.toNat], rfl, rfl, SqL.of (by rw [upd_ne nlb]; exact hl), at_of (j := d.toNat) (by omega) (List.getElem?_eq_getElem hj), k _ p' n' (List.getElem_mem hj) B2 h2⟩
theorem ok_nm {f fO : Addr} {fd fdO : FuncData} (D : Df K mg "_law_name" s__law_name f fd ["_law_box_here"]) (D__law_of : Df K mg "_law_of" s__law_of fO fdO ["_law_box_here", "_law_some"]) (G__law_of : FnOk P w K mg base CX0 2 fO fdO ["_law_box_here", "_law_some"] spOfB) :
    FnOk P w K mg base CX0 3 f fd ["_law_box_here"] spNm := by
  refine D.F.ok sc__law_name (fun vs H Q E h => ?_) (fun cdv A outer s H vs Q E hr h => ?_)
  · obtain ⟨b, p, q, n, rfl, _⟩ := h
    rfl
  · obtain ⟨b, p, q, n, rfl, hb, Bx, hn, k⟩ := h
    have S := sc__law_name
    refine ⟨_, (pss_one (ps_ret (pe_call G__law_of (hr.mono (by decide)) (by rfl) D__law_of.g D__law_of.F.kp D__law_of.b .nil pass0 (pa_cons (pv 0) (pa_cons (pe_lst (pa_cons pe_str (pa_cons pe_str (pa_cons pe_str (pa_cons pe_str (pa_cons pe_str (pa_cons pe_str (pa_cons pe_str pa_nil)))))))) pa_nil))))), ?_⟩
    try dsimp only [tRet, tCall, tLst, tCons, tNil]
    refine (val_var rfl) _ ?_
    refine val_c _ (val_c _ (val_c _ (val_c _ (val_c _ (val_c _ (val_c _ ⟨by show 7 ≤ sizeLine; decide, fun l nl => ?_⟩))))))
    have s1 := same_upd (o := .lst (names7.map V.str)) nl
    refine ⟨b, l, names7.map V.str, p, q, n, rfl, s1 _ _ hb, Bx, hn, upd_same, (ne_of_none hb nl).symm, by decide, by decide, fun x p' n' hx B2 le => ?_⟩
    obtain ⟨z, hz, rfl⟩ := List.mem_map.mp hx
    refine k _ z p' n' (fun a o na e => ?_) upd_same B2 le hz
    rw [upd_ne na]
    exact s1 _ _ e
end
section
variable {σ : L2.St} {H : Hp} {Q : VK} {b : Addr} {p q n : Int} {i : Nat}
theorem nm_run (hv : σ[i]? = some (some (.ref b))) (hb : H b = some (.lst (bx p q n))) (Bx : Box p q n) (hn : n < 1000000)
    (k : ∀ (H' : Hp) (z : Str) (p' n' : Int), SameBut b H H' → H' b = some (.lst (bx p' q n')) → Box p' q n' → n' ≤ n + 1 → z ∈ names7 → Q (.str z) H') : tCall spNm [] E0 (tCons (tVar i) tNil) σ H Q := by
  try dsimp only [tCall, tCons, tNil]
  exact (val_var hv) _ ⟨b, p, q, n, rfl, hb, Bx, hn, k⟩
end
section
variable {P : Program} {w : World} {K : PySem.W.Frag} {mg : Str → Option Value} {base : Heap}
theorem ok_ev {f fO fN fT : Addr} {fd fdO fdN fdT : FuncData} (B : Bt mg) (D : Df K mg "_law_event" s__law_event f fd ["_law_box_here"]) (D__law_of : Df K mg "_law_of" s__law_of fO fdO ["_law_box_here", "_law_some"]) (G__law_of : FnOk P w K mg base CX0 2 fO fdO ["_law_box_here", "_law_some"] spOfB)
    (D__law_name : Df K mg "_law_name" s__law_name fN fdN ["_law_box_here"]) (G__law_name : FnOk P w K mg base CX0 3 fN fdN ["_law_box_here"] spNm) (D__law_take : Df K mg "_law_take" sTake fT fdT ["_law_box_here", "_law_many"]) :
    FnOk P w K mg base CX0 4 f fd ["_law_box_here"] spEv := by
  have G__law_take : FnOk P w K mg base CX0 1 fT fdT ["_law_box_here", "_law_many"] spTake := ok_take (CX := CX0) D__law_take.F B.m_int
  refine D.F.ok sc__law_event (fun vs H Q E h => ?_) (fun cdv A outer s H vs Q E hr h => ?_)
  · obtain ⟨b, p, q, n, rfl, _⟩ := h
    rfl
  · obtain ⟨b, p, q, n, rfl, hb, Bx, hn, k⟩ := h
    have S := sc__law_event
    refine ⟨_, (pss_cons (ps_set (i := 1) S.nd rfl (.inl rfl) (pe_tup (pa_cons (pe_call G__law_of (hr.mono (by decide)) (by rfl) D__law_of.g D__law_of.F.kp D__law_of.b .nil pass0 (pa_cons (pv 0) (pa_cons (pe_lst (pa_cons pe_str (pa_cons (pe_call G__law_name (hr.mono (by decide)) (by rfl) D__law_name.g D__law_name.F.kp D__law_name.b .nil pass0 (pa_cons (pv 0) pa_nil)) (pa_cons (pe_call G__law_name (hr.mono (by decide)) (by rfl) D__law_name.g D__law_name.F.kp D__law_name.b .nil pass0 (pa_cons (pv 0) pa_nil)) pa_nil)))) pa_nil))) (pa_cons (pe_call G__law_name (hr.mono (by decide)) (by rfl) D__law_name.g D__law_name.F.kp D__law_name.b .nil pass0 (pa_cons (pv 0) pa_nil)) pa_nil))))
      (pss_cons (ps_if (pt_cmpR op_eq (pe_call G__law_take (hr.mono (by decide)) (by rfl) D__law_take.g D__law_take.F.kp D__law_take.b .nil pass0 (pa_cons (pv 0) (pa_cons pe_int pa_nil))) pe_int (nomark _))
        (pss_one (ps_ret (pe_tup (pa_cons (pv 1) (pa_cons pe_str (pa_cons (pe_call G__law_name (hr.mono (by decide)) (by rfl) D__law_name.g D__law_name.F.kp D__law_name.b .nil pass0 (pa_cons (pv 0) pa_nil)) (pa_cons (pe_call G__law_take (hr.mono (by decide)) (by rfl) D__law_take.g D__law_take.F.kp D__law_take.b .nil pass0 (pa_cons (pv 0) (pa_cons pe_int pa_nil))) pa_nil)))))))
        pss_nil)
      (pss_one (ps_ret (pe_tup (pa_cons (pv 1) (pa_cons pe_str (pa_cons (pe_op op_sub (pe_call G__law_take (hr.mono (by decide)) (by rfl) D__law_take.g D__law_take.F.kp D__law_take.b .nil pass0 (pa_cons (pv 0) (pa_cons pe_int pa_nil))) pe_int) pa_nil)))))))), ?_⟩
    try dsimp only [tSeq, tAsg]
    try dsimp only [tTup, tCons, tNil]
    try dsimp only [tCall, tLst, tCons, tNil]
    refine (val_var rfl) _ (val_c _ ((val_var rfl) _ ⟨b, p, q, n, rfl, hb, Bx, by omega, fun H1 z1 p1 n1 sb1 hb1 B1 le1 m1 => ?_⟩))
    refine (val_var rfl) _ ⟨b, p1, q, n1, rfl, hb1, B1, by omega, fun H2 z2 p2 n2 sb2 hb2 B2 le2 m2 => ?_⟩
    refine ⟨by show 3 ≤ sizeLine; decide, fun l nl => ?_⟩
    have s3 := same_upd (o := .lst [.str "", .str z1, .str z2]) nl
    have hb3 := s3 _ _ hb2
    have hl : (upd H2 l (.lst [.str "", .str z1, .str z2])) l = some (.lst [.str "", .str z1, .str z2]) := upd_same
    have lb := (ne_of_none hb2 nl).symm
    have sb3 : SameBut b H (upd H2 l (.lst [.str "", .str z1, .str z2])) := (sb1.trans sb2).trans (SameBut.of_same s3)
    generalize (upd H2 l (.lst [.str "", .str z1, .str z2])) = H3 at hb3 hl sb3 ⊢
    clear s3 nl hb1 hb2 sb1 sb2
    refine ⟨b, l, _, p2, q, n2, rfl, hb3, B2, by omega, hl, lb, Nat.zero_lt_succ _, Nat.le_of_ble_eq_true rfl, fun x p4 n4 hx B4 le4 => ?_⟩
    obtain ⟨a, rfl, ha⟩ : ∃ a, x = .str a ∧ a ∈ ("" : Str) :: names7 := by
      simp only [List.mem_cons, List.not_mem_nil, or_false] at hx
      rcases hx with rfl | rfl | rfl
      · exact ⟨_, rfl, List.mem_cons_self ..⟩
      · exact ⟨_, rfl, List.mem_cons_of_mem _ m1⟩
      · exact ⟨_, rfl, List.mem_cons_of_mem _ m2⟩
    have sb4 : SameBut b H (upd H3 b (.lst (bx p4 q n4))) := sb3.trans (SameBut.upd _ _ _)
    have hb4 : (upd H3 b (.lst (bx p4 q n4))) b = some (.lst (bx p4 q n4)) := upd_same
    generalize (upd H3 b (.lst (bx p4 q n4))) = H4 at sb4 hb4 ⊢
    refine (val_var rfl) _ ⟨b, p4, q, n4, rfl, hb4, B4, by omega, fun H5 z5 p5 n5 sb5 hb5 B5 le5 m5 => ?_⟩
    refine ⟨by show 2 ≤ sizeLine; decide, fun wr nwr => ?_⟩
    have s6 := same_upd (o := .tup [.str a, .str z5]) nwr
    have hw : (upd H5 wr (.tup [.str a, .str z5])) wr = some (.tup [.str a, .str z5]) := upd_same
    have hb6 := s6 _ _ hb5
    have sb6 : SameBut b H (upd H5 wr (.tup [.str a, .str z5])) := (sb4.trans sb5).trans (SameBut.of_same s6)
    generalize (upd H5 wr (.tup [.str a, .str z5])) = H6 at hw hb6 sb6 ⊢
    clear s6 nwr hb5 sb5 sb4 hb4 sb3 hb3 hl
    have wb : wr ≠ b := fun e => by
      rw [e, hb6] at hw
      cases hw
    have hz5 := names7_ok z5 m5
    have ha' : (a = "" ∨ isName a = true) ∧ a ∈ S85 := by
      rcases List.mem_cons.mp ha with rfl | ha
      · exact ⟨.inl rfl, by decide +kernel⟩
      · exact ⟨.inr (names7_ok a ha).1, (names7_ok a ha).2.2⟩
    try dsimp only [gName, tSeq, tIfS, tTest, tOp]
    refine take_box rfl val_c hb6 B5 (by decide) (by decide) (by omega) fun d p7 n7 d0 d1 B7 le7 => ?_
    have sb7 : SameBut b H (upd H6 b (.lst (bx p7 q n7))) := sb6.trans (SameBut.upd _ _ _)
    have hb7 : (upd H6 b (.lst (bx p7 q n7))) b = some (.lst (bx p7 q n7)) := upd_same
    have hw7 : (upd H6 b (.lst (bx p7 q n7))) wr = some (.tup [.str a, .str z5]) := by
      rw [upd_ne wb]
      exact hw
    generalize (upd H6 b (.lst (bx p7 q n7))) = H7 at sb7 hb7 hw7 ⊢
    refine val_c _ ⟨rfl, _, rfl, ?_⟩
    refine ite2 (fun e => ?_) fun e => ?_
    · try dsimp only [tRet, tTup, tCons, tNil]
      refine (val_var rfl) _ (val_c _ ?_)
      try dsimp only [tCall, tCons, tNil]
      refine (val_var rfl) _ ⟨b, p7, q, n7, rfl, hb7, B7, by omega, fun H8 z8 p8 n8 sb8 hb8 B8 le8 m8 => ?_⟩
      have hw8 := sb8 _ _ wb hw7
      refine (val_var rfl) _ (val_c _ ⟨b, 4, p8, q, n8, rfl, hb8, B8, by omega, by decide, by decide, fun d2 p9 n9 e0 e1 B9 le9 => ?_⟩)
      have sb9 : SameBut b H (upd H8 b (.lst (bx p9 q n9))) := (sb7.trans sb8).trans (SameBut.upd _ _ _)
      have hb9 : (upd H8 b (.lst (bx p9 q n9))) b = some (.lst (bx p9 q n9)) := upd_same
      have hw9 : (upd H8 b (.lst (bx p9 q n9))) wr = some (.tup [.str a, .str z5]) := by
        rw [upd_ne wb]
        exact hw8
      generalize (upd H8 b (.lst (bx p9 q n9))) = H9 at sb9 hb9 hw9 ⊢
      refine ⟨by show 4 ≤ sizeLine; decide, fun ev nev => ?_⟩
      have s10 := same_upd (o := .tup [.ref wr, .str "call", .str z8, .int d2]) nev
      have hz8 := names7_ok z8 m8
      have ev1 : Ev (.tuple [.tuple [.str a, .str z5], .str "call", .str z8, .int d2]) := .call ha'.1 hz5.1 hz8.2.1 e0 e1
      refine k _ (.ref ev) (.tuple [.tuple [.str a, .str z5], .str "call", .str z8, .int d2]) p9 n9 (sb9.trans (SameBut.of_same s10)) (s10 _ _ hb9) B9 (by omega) (.tup upd_same (.cons (.tup (s10 _ _ hw9) (.cons (.str _) (.cons (.str _) .nil))) (.cons (.str _) (.cons (.str _) (.cons (.int _) .nil))))) ⟨ev1, ev_b ev1, ?_, rfl⟩
      show (((decide (a ∈ S85)) && (decide (z5 ∈ S85) && true)) && (decide (("call" : Str) ∈ S85) && (decide (z8 ∈ S85) && (decide (-20 ≤ d2 ∧ d2 ≤ 20) && true)))) = true
      rw [decide_eq_true ha'.2, decide_eq_true hz5.2.2, decide_eq_true (show ("call" : Str) ∈ S85 by decide +kernel), decide_eq_true hz8.2.2, decide_eq_true (show -20 ≤ d2 ∧ d2 ≤ 20 by omega)]
      rfl
    · try dsimp only [tNext, tRet, tTup, tCons, tNil]
      refine (val_var rfl) _ (val_c _ ?_)
      try dsimp only [tOp]
      refine take_box rfl val_c hb7 B7 (by decide) (by decide) (by omega) fun d2 p9 n9 e0 e1 B9 le9 => ?_
      have sb9 : SameBut b H (upd H7 b (.lst (bx p9 q n9))) := sb7.trans (SameBut.upd _ _ _)
      have hb9 : (upd H7 b (.lst (bx p9 q n9))) b = some (.lst (bx p9 q n9)) := upd_same
      have hw9 : (upd H7 b (.lst (bx p9 q n9))) wr = some (.tup [.str a, .str z5]) := by
        rw [upd_ne wb]
        exact hw7
      generalize (upd H7 b (.lst (bx p9 q n9))) = H9 at sb9 hb9 hw9 ⊢
      refine val_c _ ⟨_, _, rfl, rfl, ?_⟩
      refine ⟨by show 3 ≤ sizeLine; decide, fun ev nev => ?_⟩
      have s10 := same_upd (o := .tup [.ref wr, .str "answer", .int (d2 - 2)]) nev
      have ev1 : Ev (.tuple [.tuple [.str a, .str z5], .str "answer", .int (d2 - 2)]) := .ans ha'.1 hz5.1 (by omega) (by omega)
      refine k _ (.ref ev) (.tuple [.tuple [.str a, .str z5], .str "answer", .int (d2 - 2)]) p9 n9 (sb9.trans (SameBut.of_same s10)) (s10 _ _ hb9) B9 (by omega) (.tup upd_same (.cons (.tup (s10 _ _ hw9) (.cons (.str _) (.cons (.str _) .nil))) (.cons (.str _) (.cons (.int _) .nil)))) ⟨ev1, ev_b ev1, ?_, rfl⟩
      show (((decide (a ∈ S85)) && (decide (z5 ∈ S85) && true)) && (decide (("answer" : Str) ∈ S85) && (decide (-20 ≤ d2 - 2 ∧ d2 - 2 ≤ 20) && true))) = true
      rw [decide_eq_true ha'.2, decide_eq_true hz5.2.2, decide_eq_true (show ("answer" : Str) ∈ S85 by decide +kernel), decide_eq_true (show -20 ≤ d2 - 2 ∧ d2 - 2 ≤ 20 by omega)]
      rfl
end
end K5
namespace K5
open PySem PySem.Spec PyProof.Rows L2
/-! ### names, as the law looks at them -/
def abc : Str := "abcdefghijklmnopqrstuvwxyz"
theorem abc_mem : ∀ c : Nat, decide (c ∈ abc.cps.toList) = decide (97 ≤ c ∧ c ≤ 122) := by
  intro c
  have h : abc.cps.toList = (List.range 26).map (· + 97) := by decide +kernel
  rw [h]
  refine decide_eq_decide.mpr ⟨fun h => ?_, fun h => ?_⟩
  · obtain ⟨i, hi, rfl⟩ := List.mem_map.mp h
    have := List.mem_range.mp hi
    omega
  · exact List.mem_map.mpr ⟨c - 97, List.mem_range.mpr (by omega), by omega⟩
theorem uni_low : ∀ c : Nat, c < 128 → ((Unicode.isAlpha c && !(Unicode.isUpper c || Unicode.isTitle c)) = decide (97 ≤ c ∧ c ≤ 122)) ∧ ((97 ≤ c ∧ c ≤ 122) → Unicode.isLower c = true) := by
  have h : ∀ c : Fin 128, ((Unicode.isAlpha c.val && !(Unicode.isUpper c.val || Unicode.isTitle c.val)) = decide (97 ≤ c.val ∧ c.val ≤ 122)) ∧ ((97 ≤ c.val ∧ c.val ≤ 122) → Unicode.isLower c.val = true) := by decide +kernel
  exact fun c hc => h ⟨c, hc⟩
def lowAll (z : Str) : Bool := z.cps.toList.all fun c => decide (97 ≤ c ∧ c ≤ 122)
theorem low_name {z : Str} (h1 : 1 ≤ z.length) : (Txt.isascii z && (Txt.isalpha z && Txt.islower z)) = lowAll z := by
  obtain ⟨⟨l⟩⟩ := z
  have hl : 0 < l.length := h1
  unfold Txt.isascii Txt.isalpha Txt.islower lowAll
  have e0 : decide ((⟨⟨l⟩⟩ : Str).length > 0) = true := decide_eq_true hl
  rw [e0, Bool.true_and, List.all_toArray, List.all_toArray, List.any_toArray, List.any_toArray]
  show (l.all (fun c => decide (c < 128)) && (l.all Unicode.isAlpha && (l.any Unicode.isLower && !l.any fun c => Unicode.isUpper c || Unicode.isTitle c))) = l.all fun c => decide (97 ≤ c ∧ c ≤ 122)
  apply Bool.eq_iff_iff.mpr
  constructor
  · intro h
    rw [Bool.and_eq_true, Bool.and_eq_true, Bool.and_eq_true] at h
    obtain ⟨ha, hb, hc, hd⟩ := h
    rw [List.all_eq_true] at ha hb ⊢
    intro c m
    have c1 : c < 128 := of_decide_eq_true (ha c m)
    rw [← (uni_low c c1).1, hb c m, Bool.true_and]
    have hd' : (l.any fun c => Unicode.isUpper c || Unicode.isTitle c) = false := by
      cases q : (l.any fun c => Unicode.isUpper c || Unicode.isTitle c) with
      | false => rfl
      | true => rw [q] at hd; cases hd
    rw [List.any_eq_false] at hd'
    have := hd' c m
    cases q : (Unicode.isUpper c || Unicode.isTitle c) with
    | false => rfl
    | true => exact absurd q this
  · intro h
    rw [List.all_eq_true] at h
    have r : ∀ c ∈ l, 97 ≤ c ∧ c ≤ 122 := fun c m => of_decide_eq_true (h c m)
    have q : ∀ c ∈ l, Unicode.isAlpha c = true ∧ (Unicode.isUpper c || Unicode.isTitle c) = false := fun c m => by
      have e := (uni_low c (by have := r c m; omega)).1
      rw [decide_eq_true (r c m), Bool.and_eq_true] at e
      refine ⟨e.1, ?_⟩
      cases x : (Unicode.isUpper c || Unicode.isTitle c) with
      | false => rfl
      | true => rw [x] at e; exact absurd e.2 (by decide)
    rw [Bool.and_eq_true, Bool.and_eq_true, Bool.and_eq_true]
    refine ⟨List.all_eq_true.mpr fun c m => decide_eq_true (by have := r c m; omega), List.all_eq_true.mpr fun c m => (q c m).1, ?_, ?_⟩
    · cases l with
      | nil => exact absurd hl (Nat.lt_irrefl _)
      | cons c l => exact List.any_eq_true.mpr ⟨c, List.mem_cons_self .., (uni_low c (by have := r c (List.mem_cons_self ..); omega)).2 (r c (List.mem_cons_self ..))⟩
    · have : (l.any fun c => Unicode.isUpper c || Unicode.isTitle c) = false := List.any_eq_false.mpr fun c m e => by
        rw [(q c m).2] at e
        cases e
      rw [this]
      rfl
theorem isName_low (z : Str) : isName z = ((decide ((1 : Int) ≤ (z.length : Int)) && decide ((z.length : Int) ≤ 8)) && lowAll z) := by
  unfold isName
  by_cases h : 1 ≤ z.length
  · rw [low_name h]
  · rw [decide_eq_false (by omega : ¬ (1 : Int) ≤ (z.length : Int))]
    rfl
/-- over the signs of a text -/
theorem lc_str {z : Str} {g : TG} {tt : TT} {te : TE} {vs : List Nat} {σ : L2.St} {H1 : Hp} {D : Addr} {Qd : Hp → Prop} (Pv : Nat → Hp → Prop) (h0 : Pv 0 (upd H1 D (.lst [])))
    (hs : ∀ i c H, z.cps.toList[i]? = some c → Pv i H → g (.str ⟨#[c]⟩) (wipe σ vs) H fun σ2 H2 => wipe σ2 vs = wipe σ vs ∧ tt σ2 H2 fun b H3 =>
      if b = true then te σ2 H3 fun y H4 => ∃ acc, H4 D = some (.lst acc) ∧ acc.length < sizeLine ∧ Pv (i + 1) (upd H4 D (.lst (acc ++ [y]))) else Pv (i + 1) H3) (hd : ∀ H, Pv z.cps.size H → Qd H) :
    ∃ W : Nat → Nat → Hp → Prop, (∃ m, W 0 m (upd H1 D (.lst []))) ∧ ∀ i m H, W i m H →
      ((Its z).stop i H ∧ Qd H) ∨ ((Its z).go i H ∧ ∃ Nx : Hp → Prop, (∀ H', Nx H' → ∃ m', m' < m ∧ W (i + 1) m' H') ∧ ∀ x H', (Its z).yld i H x H' → g x (wipe σ vs) H' fun σ2 H2 => wipe σ2 vs = wipe σ vs ∧ tt σ2 H2 fun b H3 =>
        if b = true then te σ2 H3 fun y H4 => ∃ acc, H4 D = some (.lst acc) ∧ acc.length < sizeLine ∧ Nx (upd H4 D (.lst (acc ++ [y]))) else Nx H3) := by
  refine ⟨fun i m H => m = z.cps.size - i ∧ i ≤ z.cps.size ∧ Pv i H, ⟨z.cps.size, by simp, Nat.zero_le _, h0⟩, ?_⟩
  rintro i m H ⟨rfl, hi, p⟩
  by_cases hlt : i < z.cps.size
  · refine .inr ⟨hlt, Pv (i + 1), fun H' p' => ⟨z.cps.size - (i + 1), by omega, rfl, hlt, p'⟩, fun x H' y => ?_⟩
    obtain ⟨e, c, hc, y⟩ := y
    subst e y
    exact hs i c _ (by rw [Array.getElem?_toList]; exact hc) p
  · have e : i = z.cps.size := by omega
    subst e
    exact .inl ⟨Nat.le_refl _, hd H p⟩
section
variable {K : PySem.W.Frag} {H : Hp}
theorem dp_strs {l : List Str} : DpAll K H (l.map V.str) (l.map PyData.str) := by
  induction l with
  | nil => exact .nil
  | cons z l ih => exact .cons (.str z) ih
theorem strs_shaped : ∀ {l : List Str}, (∀ z ∈ l, PyData.strOk z = true) → PyData.canLayAll0 (l.map PyData.str) = true
  | [], _ => rfl
  | z :: l, h => by
    show (PyData.canLay0 (.str z) && PyData.canLayAll0 (l.map PyData.str)) = true
    rw [strs_shaped fun y hy => h y (List.mem_cons_of_mem _ hy), show PyData.canLay0 (.str z) = PyData.strOk z from rfl, h z (List.mem_cons_self ..)]
    rfl
theorem strs_depth : ∀ {l : List Str}, PyData.depthAll (l.map PyData.str) = 0
  | [] => rfl
  | z :: l => by
    show max 0 (PyData.depthAll (l.map PyData.str)) = 0
    rw [strs_depth]
    rfl
theorem lst_shaped {l : List Str} (h : ∀ z ∈ l, PyData.strOk z = true) : SeqAt.shaped (.list (l.map PyData.str)) = true := by
  unfold SeqAt.shaped
  rw [Bool.and_eq_true]
  refine ⟨strs_shaped h, decide_eq_true ?_⟩
  show PyData.depthAll (l.map PyData.str) + 1 ≤ 64
  rw [strs_depth]
  decide
theorem eqv_nil {l : List Str} : PyData.eqv (.list (l.map PyData.str)) (.list []) = decide (l = []) := by
  cases l with
  | nil => rfl
  | cons z l => exact (decide_eq_false (fun e => nomatch e)).symm
end

abbrev s__law_is_name : Stmt := topS 35
theorem sc__law_is_name : FnScope ["_law_thing", "_law_sign"] ["_law_thing"] (defScope s__law_is_name) := ⟨rfl, rfl, rfl, by decide +kernel, rfl, by decide +kernel, by decide +kernel⟩
abbrev s__law_whole : Stmt := topS 36
theorem sc__law_whole : FnScope ["_law_thing", "_law_low", "_law_high"] ["_law_thing", "_law_low", "_law_high"] (defScope s__law_whole) := ⟨rfl, rfl, rfl, by decide +kernel, rfl, by decide +kernel, by decide +kernel⟩
def spLIsName : Sp := fun vs H Q _ => ∃ (x : V) (d : PyData), vs = [x] ∧ Dq H x d ∧ okD d = true ∧ ∀ H', Same H H' → Q (.bl (nameD d)) H'
def wholeD (a b : Int) : PyData → Bool
  | .int i => decide (a ≤ i) && decide (i ≤ b)
  | _ => false
def spWholeN : Sp := fun vs H Q _ => ∃ (x : V) (d : PyData) (a b : Int), vs = [x, .int a, .int b] ∧ Dq H x d ∧ Q (.bl (wholeD a b d)) H
/-- the signs that are no letters -/
def odds (z : Str) : List Nat := z.cps.toList.filter fun c => !decide (97 ≤ c ∧ c ≤ 122)
theorem odds_none (z : Str) : decide ((odds z).map (fun c => (⟨#[c]⟩ : Str)) = []) = lowAll z := by
  unfold odds lowAll
  induction z.cps.toList with
  | nil => rfl
  | cons c r ih =>
    rw [List.all_cons, List.filter_cons]
    by_cases h : 97 ≤ c ∧ c ≤ 122
    · rw [decide_eq_true h, if_neg (by simp), Bool.true_and]
      exact ih
    · rw [decide_eq_false h, if_pos (show (!false) = true from rfl), Bool.false_and]
      exact decide_eq_false fun e => nomatch e
section
variable {P : Program} {w : World} {K : PySem.W.Frag} {mg : Str → Option Value} {base : Heap}
theorem ok_lwhole {f : Addr} {fd : FuncData} (B : Bt mg) (D : Df K mg "_law_whole" s__law_whole f fd ["_law_thing", "_law_low", "_law_high"]) : FnOk P w K mg base CX0 1 f fd ["_law_thing", "_law_low", "_law_high"] spWholeN := by
  refine D.F.ok sc__law_whole (fun vs H Q E h => ?_) (fun cdv A outer s H vs Q E hr h => ?_)
  · obtain ⟨x, d, a, b, rfl, _⟩ := h
    rfl
  · obtain ⟨x, d, a, b, rfl, hx, k⟩ := h
    have S := sc__law_whole
    obtain ⟨T, kd⟩ := hx.kd
    refine ⟨_, (pss_one (ps_ret (pe_and (pe_callB call_isi (by rfl) B.m_isinstance PyProof.Rows.boot_isinstance (pa_cons (pv 0) (pa_cons (pe_tyN bt_int (by rfl) B.m_int) pa_nil))) (pe_and (pe_not (pe_callB call_isi (by rfl) B.m_isinstance PyProof.Rows.boot_isinstance (pa_cons (pv 0) (pa_cons (pe_tyN bt_bool (by rfl) B.m_bool) pa_nil)))) (pe_one (pe_chain op_le op_le (pv 1) (pv 0) (pv 2))))))), ?_⟩
    try dsimp only [tRet]
    cases hx with
    | int i => exact (val_andV (val_isi (val_var rfl) kd kd.int_) fun _ => val_andV (val_notV (val_isi (val_var rfl) kd kd.bool_)) fun _ => val_chain (val_var rfl) (val_var rfl) (val_var rfl)) _ k
    | bl c => 
      refine (val_isi (val_var rfl) kd kd.int_) _ ⟨_, rfl, iteT ?_⟩
      refine (val_notV (val_isi (val_var rfl) kd kd.bool_)) _ ⟨_, rfl, iteF k⟩
    | _ => exact (val_isi (val_var rfl) kd kd.int_) _ ⟨_, rfl, iteF k⟩
theorem ok_lname {f : Addr} {fd : FuncData} (B : Bt mg) (D : Df K mg "_law_is_name" s__law_is_name f fd ["_law_thing"]) : FnOk P w K mg base CX0 1 f fd ["_law_thing"] spLIsName := by
  refine D.F.ok sc__law_is_name (fun vs H Q E h => ?_) (fun cdv A outer s H vs Q E hr h => ?_)
  · obtain ⟨x, d, rfl, _⟩ := h
    rfl
  · obtain ⟨x, d, rfl, hx, ok, k⟩ := h
    have S := sc__law_is_name
    have hu := hr.units
    obtain ⟨T, kd⟩ := hx.kd
    refine ⟨_, (pss_cons (ps_if (PW.pt (pw_or (pt_not (pt_val (pe_callB call_isi (by rfl) B.m_isinstance PyProof.Rows.boot_isinstance (pa_cons (pv 0) (pa_cons (pe_tyN bt_str (by rfl) B.m_str) pa_nil))))) (pw_or1 (pt_not (pt_chain op_le op_le pe_int (pe_callB call_len_str (by rfl) B.m_len PySem.boot_len (pa_cons (pv 0) pa_nil)) pe_int)))))
        (pss_one (ps_ret pe_bl))
        pss_nil)
      (pss_one (ps_ret (pe_cmpR (op_eqD (by exact hu)) (pe_lc (own := [("_law_sign", 1)]) (g := gName 1) rfl S.nd (pi_str (pv 0)) (blkOk_by (own := [("_law_sign", 1)]) (N := ["_law_thing", "_law_sign"]) (sc := defScope s__law_is_name) (by decide +kernel)) (fun _ _ _ _ _ => pg_name (i := 1) S.nd rfl (Or.inl rfl)) (fun _ _ _ _ _ => pts_one (pt_cmpR op_notIn_str (pv 1) pe_str (by rfl))) (fun _ _ _ _ _ => pv 1)) (pe_lst pa_nil) (nomark _))))), ?_⟩
    try dsimp only [tSeq, tIfS, tOr]
    refine (ans_not (ans_val (val_isi (val_var rfl) kd kd.str_))) _ ?_
    by_cases c : ∃ z, d = .str z
    · obtain ⟨z, rfl⟩ := c
      cases hx
      have ok : (decide (z.length ≤ 14000) && PyData.strOk z) = true := ok
      rw [Bool.and_eq_true] at ok
      have zl := of_decide_eq_true ok.1
      have zo := ok.2
      refine iteF ?_
      have ch : Ans (tTest (tChain (rI0 fun i j => .bl (decide (i ≤ j))) (rI0 fun i j => .bl (decide (i ≤ j))) (tC (.int 1)) (tCB rLenS (tCons (tVar 0) tNil)) (tC (.int 8)))) [some (.str z), none] H (decide ((1 : Int) ≤ (z.length : Int)) && decide ((z.length : Int) ≤ 8)) := fun Q q =>
        (val_chain val_c (val_lenS (val_var rfl) (big_size (by omega))) val_c) _ ⟨_, rfl, q⟩
      refine (ans_not ch) _ ?_
      have k : ∀ H', Same H H' → Q (.bl (isName z)) H' := k
      rw [isName_low] at k
      cases c1 : (decide ((1 : Int) ≤ (z.length : Int)) && decide ((z.length : Int) ≤ 8)) with
      | false =>
        rw [c1, Bool.false_and] at k
        exact iteT (val_c _ (k H (Same.refl _)))
      | true =>
        rw [c1, Bool.true_and] at k
        refine iteF ?_
        have z8 : z.length ≤ 8 := by
          rw [Bool.and_eq_true] at c1
          have := of_decide_eq_true c1.2
          omega
        try dsimp only [tNext, tRet, tOp, tLc, iStr]
        refine (val_var rfl) _ ⟨z, rfl, fun L nL => ?_⟩
        refine lc_str (z := z) (fun i H' => Same H H' ∧ H' L = some (.lst ((((z.cps.toList.take i).filter fun c => !decide (97 ≤ c ∧ c ≤ 122)).map fun c => (⟨#[c]⟩ : Str)).map V.str))) ⟨same_upd nL, upd_same⟩ (fun i c H' hc h => ?_) fun H' h => ?_
        · obtain ⟨s1, hL⟩ := h
          refine ⟨rfl, ?_⟩
          have lc : z.cps.toList.length ≤ 8 := z8
          try dsimp only [tTest]
          refine (val_var rfl) _ (val_c _ ⟨⟨#[c]⟩, abc, rfl, rfl, _, rfl, ?_⟩)
          have e1 : (!(!(Builtin.Str.occurrences abc ⟨#[c]⟩ 0 abc.length 1).isEmpty)) = !decide (97 ≤ c ∧ c ≤ 122) := by rw [PySem.StrLaws.found_one, abc_mem]
          rw [e1]
          have tk : z.cps.toList.take (i + 1) = z.cps.toList.take i ++ [c] := snocV hc
          by_cases hl : 97 ≤ c ∧ c ≤ 122
          · rw [decide_eq_true hl]
            refine iteF ⟨s1, ?_⟩
            rw [tk, List.filter_append, List.filter_cons, decide_eq_true hl]
            rw [show (if (!true) = true then c :: List.filter (fun c => !decide (97 ≤ c ∧ c ≤ 122)) [] else List.filter (fun c => !decide (97 ≤ c ∧ c ≤ 122)) []) = [] from rfl, List.append_nil]
            exact hL
          · rw [decide_eq_false hl]
            refine iteT ?_
            refine (val_var rfl) _ ⟨_, hL, ?_, ?_, ?_⟩
            · rw [List.length_map, List.length_map]
              refine Nat.lt_of_le_of_lt (List.length_filter_le ..) ?_
              exact Nat.lt_of_le_of_lt (List.length_take_le' ..) (Nat.lt_of_le_of_lt lc (by decide))
            · intro b o e
              rw [upd_ne (ne_of_none e nL)]
              exact s1 _ _ e
            · rw [upd_same, tk, List.filter_append, List.filter_cons, decide_eq_false hl]
              rw [show (if (!false) = true then c :: List.filter (fun c => !decide (97 ≤ c ∧ c ≤ 122)) [] else List.filter (fun c => !decide (97 ≤ c ∧ c ≤ 122)) []) = [c] from rfl, List.map_append, List.map_append]
              rfl
        · obtain ⟨s1, hL⟩ := h
          rw [show z.cps.toList.take z.cps.size = z.cps.toList from List.take_of_length_le (by rw [Array.length_toList]; exact Nat.le_refl _)] at hL
          have hL : H' L = some (.lst (((odds z).map fun c => (⟨#[c]⟩ : Str)).map V.str)) := hL
          try dsimp only [tLst, tNil]
          refine ⟨Nat.zero_le _, fun r nr => ?_⟩
          have s2 := same_upd (o := .lst []) nr
          refine ⟨.list (((odds z).map fun c => (⟨#[c]⟩ : Str)).map PyData.str), .list [], .lst (SqL.of (s2 _ _ hL)) dp_strs, .lst (SqL.of upd_same) .nil, lst_shaped (fun y hy => ?_), by decide, ?_⟩
          · obtain ⟨c, hc, rfl⟩ := List.mem_map.mp hy
            have hm : c ∈ z.cps.toList := (List.mem_filter.mp hc).1
            unfold PyData.strOk at zo ⊢
            rw [Array.all_eq_true'] at zo
            have := zo c (Array.mem_toList_iff.mp hm)
            simpa using this
          · rw [eqv_nil, odds_none]
            exact k _ (s1.trans s2)
    · have e : nameD d = false := by
        cases d <;> first | rfl | exact absurd ⟨_, rfl⟩ c
      have e2 : isS x = false := by
        cases hx <;> first | rfl | exact absurd ⟨_, rfl⟩ c
      rw [e] at k
      rw [e2]
      exact iteT (iteT (val_c _ (k H (Same.refl _))))
end
end K5
namespace K5
open PySem PySem.Spec PyProof.Rows L2
/-! ### promises of defs that show things: they are called while nothing is being shown -/
structure FnG (P : Program) (w : World) (K : PySem.W.Frag) (mg : Str → Option Value) (base : Heap) (cx : CXT) (lv : Nat) (g : Addr) (rec : FuncData) (ns : List Str) (pr : Sp) : Prop where
  many : ∀ xs G R T, pr xs G R T → xs.length = ns.length
  does : ∀ (B : Around) (out : List Env) (st : Shared) (G : Hp) (as : Args) (zs : List Value) (xs : List V) (R : VK) (T : XK), B.guards = some [] → Room lv B →
    Env0 P w K mg base B out st G → BindsTo st rec as (ns.zip zs) → Vals xs zs → pr xs G R T → codeAny (model P w) B (.call (.ref g) as) (CR cx out P w G st R T) st
section
variable {P : Program} {w : World} {K : PySem.W.Frag} {mg : Str → Option Value} {base : Heap}
theorem okG {x qual : Str} {d : Stmt} {g : Addr} {rec : FuncData} {N ns : List Str} {lv : Nat} {pr : Sp} {cx : CXT} (F : Fun K x qual d g rec) (S : FnScope N ns (defScope d)) (many : ∀ xs G R T, pr xs G R T → xs.length = ns.length)
    (runs : ∀ (cd : Value) (B : Around) (out : List Env) (st : Shared) (G : Hp) (xs : List V) (R : VK) (T : XK), B.guards = some [] → Room lv (B.deeper (envOfC qual (defScope d) st.heap.objs.size g cd)) → pr xs G R T →
      ∃ t, PSs (cxOf cx P w K mg base N qual (defScope d) g cd B out st G T) (defBody d) t ∧ t { nx := fun _ G' => R .non G', rt := R } (start N xs) G) : FnG P w K mg base cx (lv + 1) g rec ns pr := by
  obtain ⟨oc, od, kV, doc, pm, an, cd, ct, sl, rfl, lk, hcd⟩ := F.ex
  constructor
  · exact many
  intro B out st G as zs xs R T gu room e bind rel p
  have size := many _ _ _ _ p
  have still : ∀ b o, base.get? b = some o → st.heap.get? b = some o := fun b o z => (e.bs b o z).1
  have inK : K.In st.heap := e.mod.kin.keeps still
  have nol : st.heap.NoLimit := e.mod.nolimit.keeps still
  have kinds : ∀ y ∈ ns.zip zs, (defScope d).names.lookup y.1 = some .local ∨ ((defScope d).names.lookup y.1 = some .cell ∧ ((cellsFrom (st.heap.objs.size + 1) (defScope d).names []).lookup y.1).isSome = true) := by
    rintro ⟨n, v⟩ hy
    have q := S.par n (List.of_mem_zip hy).1
    exact q.imp id fun c => ⟨c, PySem.W.cellsFrom_some _ _ _ (.inl c)⟩
  apply codeAny_call_function room.depth (inK _ _ lk) rfl S.co S.gen rfl (PySem.W.codeRec_of inK hcd)
  refine bind _ _ _ _ (wpAny_newFunctionEnv_cells S.kind kinds ?_)
  intro env he s1 ic
  subst he
  obtain ⟨t, ht, hq⟩ := runs cd B out st G xs R T gu (room.deeper _) p
  have I0 := inv_start (CX := cx) (P := P) (w := w) (K := K) (mg := mg) (base := base) (qual := qual) (cd := cd) (f := g) (E := T) S room.hd e size rel ic
  refine ⟨nol.keeps ic.toInCall.keep, codeAny_func (wpAny_mono (ht.run [] s1 (start N xs) G _ I0 hq) ?_ fun _ _ z => z)⟩
  intro fl s2 hs
  have ends : ∀ {σ2 : L2.St} {G2 : Hp} {v : V} {u : Value}, Inv (cxOf cx P w K mg base N qual (defScope d) g cd B out st G T) [] σ2 G2 s2 → RelV v u → R v G2 → CE out P w G st R u s2 := by
    intro σ2 G2 v u J r q
    exact ⟨v, G2, J.os, J.bare, J.base, J.hok, r, q⟩
  match fl, hs with
  | .ret u, ⟨v, σ2, G2, J, r, q⟩ => exact ends J r q
  | .next, ⟨σ2, G2, J, q⟩ => exact ends (v := V.non) (u := Value.none) J rfl q
  | .brk, ⟨_, _, _, q⟩ => exact q.elim
  | .cont, ⟨_, _, _, q⟩ => exact q.elim
end
section
variable {X : Cx} {cx : CXT} {k : Nat} {f : Addr} {fd : FuncData} {ps : List Str} {sp : Sp} {x : Str} {E : XK} {p pos : Pos} {e : Expr} {es : List Expr} {t : TA}
theorem pe_callG (F : FnG X.prog X.w X.K X.mg X.base cx k f fd ps sp) (gu : X.A.guards = some []) (room : Room k X.A) (gl : Gl X x) (hm : X.mg x = some (.ref f)) (kp : PySem.W.keepIn X.K (.ref f) = true) (hb : Binds X.K fd ps []) (out : Passes cx X E)
    (ha : PA X (e :: es) t) (hdb : (x == ("__debug__" : Str)) = false := by decide) (he : starEach (e :: es) X.env = (false, eval e X.env) :: starEach es X.env := by rfl) (hpl : (backTo pos (starEach es X.env)).any (·.1) = false := by rfl) :
    PE X (.Call (.Name x p) (e :: es) [] pos) (tCall sp [] E t) := by
  constructor
  intro pins s σ H Q I h
  apply wpAny_Call_Name_kw
  apply ld_glob I gl hm _ hdb
  apply PySem.W.callWith_K (h₀ := X.base) I.ok.mod.kin kp _ he hpl
  refine thn (ha.run pos pins s σ H _ I h) ?_
  rintro us s1 ⟨vs, H1, I1, r, q⟩
  rw [List.append_nil] at q
  refine ⟨I1.kIn, wpAny_call (codeAny_mono (F.does X.A X.stack s1 H1 ⟨us, []⟩ us vs Q E gu room I1.env0 ?_ r q) ?_)⟩
  · have z := hb s1 us I1.kIn (by rw [List.append_nil, ← r.length]; exact F.many _ _ _ _ q)
    rw [List.append_nil] at z
    exact z
  · intro res s2 hq
    match res, hq with
    | .error v, hq => exact out pins σ H1 s1 v s2 I1 hq
    | .ok (.ret u), hq => exact I1.after hq
    | .ok .next, hq => exact hq.elim
    | .ok .brk, hq => exact hq.elim
    | .ok .cont, hq => exact hq.elim
end
end K5
namespace K5
open PySem PySem.Spec PyProof.Rows L2
/-! ### repr of any value -/
structure ShOk (d : PyData) : Prop where
  s : d.showable = true
  l : d.hasDict = true → listIn d = false
  z : d.shown.length ≤ sizeLine
  d : d.depth ≤ 50
def rReprQ : List V → Hp → VK → Prop := fun xs H Q => ∃ (x : V) (d : PyData), xs = [x] ∧ Dq H x d ∧ ShOk d ∧ Q (.str d.shown) H
section
variable {X : Cx}
theorem call_reprQ (gu : X.A.guards = some []) (hu : X.A.units + 64 < cLine) : CallR X (.builtin "repr") rReprQ := by
  intro pins s σ H xs us Q I r h
  obtain ⟨x, d, rfl, hd, sh, q⟩ := h
  obtain ⟨u, rfl, ru⟩ := r.one
  have sz := sh.z
  cases hd with
  | non =>
    obtain rfl : u = Value.none := ru
    exact PySem.P.repr_of_none ⟨.str _, H, I.tok _, ⟨_, rfl⟩, q⟩
  | bl b =>
    obtain rfl : u = Value.bool b := ru
    exact PySem.P.repr_of_bool ⟨.str _, H, I.tok _, ⟨_, rfl⟩, q⟩
  | int i =>
    obtain ⟨t, rfl⟩ := ru
    exact PySem.P.repr_of_int (of_decide_eq_true sh.s) ⟨.str _, H, I.tok _, ⟨_, rfl⟩, q⟩
  | str z =>
    obtain ⟨t, rfl⟩ := ru
    exact PySem.P.repr_of_str ⟨.str _, H, I.tok _, ⟨_, rfl⟩, q⟩ sz
  | lst h a =>
    cases ru
    obtain ⟨as, rd, hm⟩ := Dq.reads I _ _ _ (Dq.lst h a) rfl
    exact repr_of_reads' rd sh.s (fun e => hm (sh.l e)) gu (by have := sh.d; omega) (fun _ _ e => e) (fun h' u tk hk => ⟨.str _, H, I.kept hk, ⟨u, rfl⟩, q⟩) sz
  | tup h a =>
    cases ru
    obtain ⟨as, rd, hm⟩ := Dq.reads I _ _ _ (Dq.tup h a) rfl
    exact repr_of_reads' rd sh.s (fun e => hm (sh.l e)) gu (by have := sh.d; omega) (fun _ _ e => e) (fun h' u tk hk => ⟨.str _, H, I.kept hk, ⟨u, rfl⟩, q⟩) sz
  | dic h =>
    cases ru
    obtain ⟨as, rd, hm⟩ := Dq.reads I _ _ _ (Dq.dic h) rfl
    exact repr_of_reads' rd sh.s (fun e => hm (sh.l e)) gu (by have := sh.d; omega) (fun _ _ e => e) (fun h' u tk hk => ⟨.str _, H, I.kept hk, ⟨u, rfl⟩, q⟩) sz
end
theorem int_show : ∀ i : Fin 41, (PyData.showable (.int ((i.val : Int) - 20)) && PyData.leavesShort 13 (.int ((i.val : Int) - 20))) = true := by decide +kernel
theorem int_show' {i : Int} (h : -20 ≤ i ∧ i ≤ 20) : PyData.showable (.int i) = true ∧ PyData.leavesShort 13 (.int i) = true := by
  have := int_show ⟨(i + 20).toNat, by omega⟩
  rw [show (((i + 20).toNat : Nat) : Int) - 20 = i by omega, Bool.and_eq_true] at this
  exact this
mutual
theorem ok_show : ∀ d : PyData, okD d = true → d.showable = true ∧ d.leavesShort 13 = true
  | .none, _ => ⟨rfl, rfl⟩
  | .bool _, _ => ⟨rfl, rfl⟩
  | .int i, h => int_show' (of_decide_eq_true h)
  | .str z, h => by
    have h : (decide (z.length ≤ 14000) && PyData.strOk z) = true := h
    rw [Bool.and_eq_true] at h
    exact ⟨rfl, PyData.leavesShort_of_canLay0 13 (.str z) h.2 rfl⟩
  | .list xs, h => ok_showA xs h
  | .tuple xs, h => ok_showA xs h
  | .dict [], h => ⟨rfl, rfl⟩
  | .dict (_ :: _), h => by cases h
theorem ok_showA : ∀ ds : List PyData, okA ds = true → PyData.showableAll ds = true ∧ PyData.leavesShortAll 13 ds = true
  | [], _ => ⟨rfl, rfl⟩
  | d :: ds, h => by
    have h : (okD d && okA ds) = true := h
    rw [Bool.and_eq_true] at h
    obtain ⟨a1, a2⟩ := ok_show d h.1
    obtain ⟨b1, b2⟩ := ok_showA ds h.2
    constructor
    · show (PyData.showable d && PyData.showableAll ds) = true
      rw [a1, b1]
      rfl
    · show (PyData.leavesShort 13 d && PyData.leavesShortAll 13 ds) = true
      rw [a2, b2]
      rfl
end
/-- a value of a size that is met -/
structure SzD (d : PyData) : Prop where
  ok : okD d = true
  w : d.weight ≤ 1000000
  p : d.depth ≤ 50
  l : d.hasDict = true → listIn d = false
theorem SzD.sh {d : PyData} (h : SzD d) : ShOk d where
  s := (ok_show d h.ok).1
  l := h.l
  z := PyData.shown_fits (by decide) (by decide) (ok_show d h.ok).2 (Nat.le_trans h.w (by decide))
  d := h.p
theorem okA_at : ∀ {ds : List PyData} (i : Nat) {d : PyData}, okA ds = true → ds[i]? = some d → okD d = true
  | [], i, d, _, h => by cases h
  | x :: xs, 0, d, h, e => by
    have h : (okD x && okA xs) = true := h
    rw [Bool.and_eq_true] at h
    rw [← Option.some.inj e]
    exact h.1
  | x :: xs, i + 1, d, h, e => by
    have h : (okD x && okA xs) = true := h
    rw [Bool.and_eq_true] at h
    exact okA_at i h.2 e
theorem all_at85 : ∀ {ds : List PyData} (i : Nat) {d : PyData}, ds[i]? = some d → d.weight ≤ PyData.weightAll ds ∧ d.depth ≤ PyData.depthAll ds ∧ (d.hasDict = true → PyData.hasDictAll ds = true) ∧ (listIn d = true → listInA ds = true)
  | [], i, d, h => by cases h
  | x :: xs, 0, d, e => by
    rw [← Option.some.inj e]
    refine ⟨?_, ?_, fun c => ?_, fun c => ?_⟩
    · show _ ≤ PyData.weight x + 1 + PyData.weightAll xs
      omega
    · show _ ≤ max (PyData.depth x) (PyData.depthAll xs)
      omega
    · show (PyData.hasDict x || PyData.hasDictAll xs) = true
      rw [c]
      rfl
    · show (listIn x || listInA xs) = true
      rw [c]
      rfl
  | x :: xs, i + 1, d, e => by
    obtain ⟨h1, h2, h3, h4⟩ := all_at85 (ds := xs) i e
    refine ⟨?_, ?_, fun c => ?_, fun c => ?_⟩
    · show _ ≤ PyData.weight x + 1 + PyData.weightAll xs
      omega
    · show _ ≤ max (PyData.depth x) (PyData.depthAll xs)
      omega
    · show (PyData.hasDict x || PyData.hasDictAll xs) = true
      rw [h3 c, Bool.or_true]
    · show (listIn x || listInA xs) = true
      rw [h4 c, Bool.or_true]
theorem SzD.at_ {ds : List PyData} (h : SzD (.tuple ds)) (i : Nat) {d : PyData} (e : ds[i]? = some d) : SzD d := by
  obtain ⟨h1, h2, h3, h4⟩ := all_at85 i e
  have hw : PyData.weightAll ds ≤ 1000000 := h.w
  have hp : PyData.depthAll ds + 1 ≤ 50 := h.p
  have hl : PyData.hasDictAll ds = true → listInA ds = false := h.l
  refine ⟨okA_at i h.ok e, by omega, by omega, fun c => ?_⟩
  cases q : listIn d with
  | false => rfl
  | true =>
    have := hl (h3 c)
    rw [h4 q] at this
    cases this
section
variable {K : PySem.W.Frag} {σ : L2.St} {H : Hp} {ta : TE} {x : V} {d : PyData}
theorem val_reprQ (ha : Val ta σ H x) (hd : Dq H x d) (s : ShOk d) : Val (tCB rReprQ (tCons ta tNil)) σ H (.str d.shown) := fun Q q => ha _ ⟨x, d, rfl, hd, s, q⟩
end
end K5
namespace K5
open PySem PySem.Spec PyProof.Rows L2
abbrev s__law_is_event : Stmt := topS 37
theorem sc__law_is_event : FnScope ["_law_thing", "_law_wire"] ["_law_thing"] (defScope s__law_is_event) := ⟨rfl, rfl, rfl, by decide +kernel, rfl, by decide +kernel, by decide +kernel⟩
def spLEvent : Sp := fun vs H Q _ => ∃ (x : V) (d : PyData), vs = [x] ∧ Dq H x d ∧ SzD d ∧ ∀ H', Same H H' → Q (.bl (eventB d)) H'
theorem whole_below (d : PyData) : wholeD 0 3 d = belowD d := by
  cases d with
  | int i =>
    show (decide (0 ≤ i) && decide (i ≤ 3)) = (decide (0 ≤ i) && decide (i < 4))
    rw [show decide (i ≤ 3) = decide (i < 4) from decide_eq_decide.mpr (by omega)]
  | _ => rfl
theorem whole_answer (d : PyData) : wholeD (-2) 3 d = answerD d := by
  cases d with
  | int i =>
    show (decide (-2 ≤ i) && decide (i ≤ 3)) = (decide (-2 ≤ i) && decide (i < 4))
    rw [show decide (i ≤ 3) = decide (i < 4) from decide_eq_decide.mpr (by omega)]
  | _ => rfl
theorem in34 (n : Nat) : inV (.int (n : Nat)) [.int 3, .int 4] = (decide (n = 3) || decide (n = 4)) := by
  by_cases h3 : n = 3
  · subst h3
    decide
  · by_cases h4 : n = 4
    · subst h4
      decide
    · rw [decide_eq_false h3, decide_eq_false h4]
      have e : ∀ m : Int, (n : Int) ≠ m → eqV (.int m) (.int (n : Nat)) = false := fun m hm => by
        unfold eqV
        simp only [beq_eq_false_iff_ne, ne_eq, decide_eq_false_iff_not]
        omega
      show (eqV (.int 3) (.int (n : Nat)) || (eqV (.int 4) (.int (n : Nat)) || false)) = _
      rw [e 3 (by omega), e 4 (by omega)]
      rfl
theorem wire_bad {d : PyData} {ds : List PyData} (h : wireB d = false) : eventB (.tuple (d :: ds)) = false := by
  match ds with
  | [] => rfl
  | [_] => rfl
  | [_, _] =>
    show (wireB d && _) = false
    rw [h]
    rfl
  | [_, _, _] =>
    show (wireB d && _) = false
    rw [h]
    rfl
  | _ :: _ :: _ :: _ :: _ => rfl
section
variable {K : PySem.W.Frag} {σ : L2.St} {H : Hp} {ta : TE} {x : V} {d : PyData}
theorem lname_run {Q : VK} (ha : Val ta σ H x) (hd : Dq H x d) (s : okD d = true) (k : ∀ H', Same H H' → Q (.bl (nameD d)) H') : tCall spLIsName [] E0 (tCons ta tNil) σ H Q := by
  try dsimp only [tCall, tCons, tNil]
  exact ha _ ⟨x, d, rfl, hd, s, k⟩
theorem ans_ne2' {tb : TE} {v : V} (ha : Val ta σ H x) (hb : Val tb σ H v) (hs : scal x v = true) : Ans (tTest (tOp rNe ta tb)) σ H (!decide (x = v)) := fun Q q => ha _ (hb _ ⟨hs, _, rfl, q⟩)
def AnsS (t : TT) (σ : L2.St) (H : Hp) (b : Bool) : Prop := ∀ Q : Bool → Hp → Prop, (∀ H', Same H H' → Q b H') → t σ H Q
theorem sh_str {z : Str} (h : z.length ≤ 14000) (ho : PyData.strOk z = true) : ShOk (.str z) := (SzD.sh ⟨by
    show (decide (z.length ≤ 14000) && PyData.strOk z) = true
    rw [decide_eq_true h, ho]
    rfl, by
    show z.length ≤ 1000000
    omega, Nat.zero_le _, fun e => by cases e⟩)
end
section
variable {K : PySem.W.Frag} {σ : L2.St} {H : Hp} {ta : TE} {x : V} {d : PyData}
theorem sh_lit {z : Str} (h : z ∈ S85) : ShOk (.str z) := sh_str (Nat.le_trans (S85_ok z h).1 (by decide)) (S85_ok z h).2
theorem ansS_w0 (ha : ∀ H', Same H H' → Val ta σ H' x) (hd : Dq H x d) (z : SzD d) : AnsS (tAnd (tTest (tOp rNe (tCB rReprQ (tCons ta tNil)) (tCB rReprQ (tCons (tC (.str "")) tNil)))) (tNot (tB (tCall spLIsName [] E0 (tCons ta tNil))))) σ H (!isStr "" d && !nameD d) := fun Q q => by
  try dsimp only [tAnd]
  refine (ans_ne2' (val_reprQ (ha _ (Same.refl _)) hd z.sh) (val_reprQ val_c (.str "") (sh_lit (by decide +kernel))) rfl) _ ?_
  rw [show (PyData.str "").shown = reprText "" from rfl, shown_is plain3.1 z.ok]
  cases c : isStr "" d with
  | true =>
    rw [c] at q
    exact iteF (q H (Same.refl _))
  | false =>
    rw [c] at q
    refine iteT ?_
    try dsimp only [tNot, tB]
    exact lname_run (ha _ (Same.refl _)) hd z.ok fun H2 s2 => ⟨_, rfl, q H2 s2⟩
theorem val_reprEq {y : Str} (ha : Val ta σ H x) (hd : Dq H x d) (z : SzD d) (p : Plain y) (m : y ∈ S85) : Val (tOp rEq (tCB rReprQ (tCons ta tNil)) (tCB rReprQ (tCons (tC (.str y)) tNil))) σ H (.bl (isStr y d)) :=
  val_op (val_reprQ ha hd z.sh) (val_reprQ val_c (.str y) (sh_lit m)) fun Q q => ⟨rfl, by
    rw [show (PyData.str y).shown = reprText y from rfl, shown_is p z.ok]
    exact q⟩
theorem val_lwhole {a b : Int} {tb tc : TE} (ha : Val ta σ H x) (hd : Dq H x d) (hb : Val tb σ H (.int a)) (hc : Val tc σ H (.int b)) : Val (tCall spWholeN [] E0 (tCons ta (tCons tb (tCons tc tNil)))) σ H (.bl (wholeD a b d)) :=
  val_call (va_cons ha (va_cons hb (va_cons hc va_nil))) fun Q q => ⟨x, d, a, b, rfl, hd, q⟩
end
section
variable {P : Program} {w : World} {K : PySem.W.Frag} {mg : Str → Option Value} {base : Heap}
theorem ok_levent {f fN fW : Addr} {fd dN dW : FuncData} (B : Bt mg) (D : Df K mg "_law_is_event" s__law_is_event f fd ["_law_thing"]) (D__law_is_name : Df K mg "_law_is_name" s__law_is_name fN dN ["_law_thing"])
    (D__law_whole : Df K mg "_law_whole" s__law_whole fW dW ["_law_thing", "_law_low", "_law_high"]) : FnG P w K mg base CX0 2 f fd ["_law_thing"] spLEvent := by
  have G__law_is_name : FnOk P w K mg base CX0 1 fN dN ["_law_thing"] spLIsName := ok_lname B D__law_is_name
  have G__law_whole : FnOk P w K mg base CX0 1 fW dW ["_law_thing", "_law_low", "_law_high"] spWholeN := ok_lwhole B D__law_whole
  refine okG D.F sc__law_is_event (fun vs H Q E h => ?_) (fun cdv A outer s H vs Q E gu hr h => ?_)
  · obtain ⟨x, d, rfl, _⟩ := h
    rfl
  · obtain ⟨x, d, rfl, hx, sz, k⟩ := h
    have S := sc__law_is_event
    have hu := hr.units
    refine ⟨_, (pss_cons (ps_if (PW.pt (pw_or (pt_not (pt_val (pe_callB call_isi (by rfl) B.m_isinstance PyProof.Rows.boot_isinstance (pa_cons (pv 0) (pa_cons (pe_tyN bt_tuple (by rfl) B.m_tuple) pa_nil))))) (pw_or1 (pt_cmpR op_notIn_seq (pe_callB call_len_seq (by rfl) B.m_len PySem.boot_len (pa_cons (pv 0) pa_nil)) (pe_tup (pa_cons pe_int (pa_cons pe_int pa_nil))) (by rfl)))))
        (pss_one (ps_ret pe_bl))
        pss_nil)
      (pss_cons (ps_set (i := 1) S.nd rfl (.inl rfl) (pe_ix ix_tup (pv 0) pe_int (fun _ _ => rfl)))
      (pss_cons (ps_if (PW.pt (pw_or (pt_not (pt_val (pe_callB call_isi (by rfl) B.m_isinstance PyProof.Rows.boot_isinstance (pa_cons (pv 1) (pa_cons (pe_tyN bt_tuple (by rfl) B.m_tuple) pa_nil))))) (pw_or (pt_cmpR op_ne (pe_callB call_len_seq (by rfl) B.m_len PySem.boot_len (pa_cons (pv 1) pa_nil)) pe_int (nomark _)) (pw_or1 (pt_not (pt_val (pe_call G__law_is_name (hr.mono (by decide)) (by rfl) D__law_is_name.g D__law_is_name.F.kp D__law_is_name.b .nil pass0 (pa_cons (pe_ix ix_tup (pv 1) pe_int (fun _ _ => rfl)) pa_nil))))))))
        (pss_one (ps_ret pe_bl))
        pss_nil)
      (pss_cons (ps_if (PW.pt (pw_and (pt_cmpR op_ne (pe_callB (call_reprQ (by exact gu) (by exact hu)) (by rfl) B.m_repr PyProof.Rows.boot_repr (pa_cons (pe_ix ix_tup (pv 1) pe_int (fun _ _ => rfl)) pa_nil)) (pe_callB (call_reprQ (by exact gu) (by exact hu)) (by rfl) B.m_repr PyProof.Rows.boot_repr (pa_cons pe_str pa_nil)) (nomark _)) (pw_and1 (pt_not (pt_val (pe_call G__law_is_name (hr.mono (by decide)) (by rfl) D__law_is_name.g D__law_is_name.F.kp D__law_is_name.b .nil pass0 (pa_cons (pe_ix ix_tup (pv 1) pe_int (fun _ _ => rfl)) pa_nil)))))))
        (pss_one (ps_ret pe_bl))
        pss_nil)
      (pss_cons (ps_if (pt_cmpR op_eq (pe_callB call_len_seq (by rfl) B.m_len PySem.boot_len (pa_cons (pv 0) pa_nil)) pe_int (nomark _))
        (pss_one (ps_ret (pe_and (pe_cmpR op_eq (pe_callB (call_reprQ (by exact gu) (by exact hu)) (by rfl) B.m_repr PyProof.Rows.boot_repr (pa_cons (pe_ix ix_tup (pv 0) pe_int (fun _ _ => rfl)) pa_nil)) (pe_callB (call_reprQ (by exact gu) (by exact hu)) (by rfl) B.m_repr PyProof.Rows.boot_repr (pa_cons pe_str pa_nil)) (nomark _)) (pe_one (pe_call G__law_whole (hr.mono (by decide)) (by rfl) D__law_whole.g D__law_whole.F.kp D__law_whole.b .nil pass0 (pa_cons (pe_ix ix_tup (pv 0) pe_int (fun _ _ => rfl)) (pa_cons (pe_un un_neg pe_int) (pa_cons pe_int pa_nil))))))))
        pss_nil)
      (pss_cons (ps_if (PW.pt (pw_or (pt_not (pt_val (pe_call G__law_is_name (hr.mono (by decide)) (by rfl) D__law_is_name.g D__law_is_name.F.kp D__law_is_name.b .nil pass0 (pa_cons (pe_ix ix_tup (pv 0) pe_int (fun _ _ => rfl)) pa_nil)))) (pw_or1 (pt_cmpR op_eq (pe_ix ix_tup (pv 0) pe_int (fun _ _ => rfl)) pe_str (nomark _)))))
        (pss_one (ps_ret pe_bl))
        pss_nil)
      (pss_one (ps_ret (pe_and (pe_cmpR op_eq (pe_callB (call_reprQ (by exact gu) (by exact hu)) (by rfl) B.m_repr PyProof.Rows.boot_repr (pa_cons (pe_ix ix_tup (pv 0) pe_int (fun _ _ => rfl)) pa_nil)) (pe_callB (call_reprQ (by exact gu) (by exact hu)) (by rfl) B.m_repr PyProof.Rows.boot_repr (pa_cons pe_str pa_nil)) (nomark _)) (pe_one (pe_call G__law_whole (hr.mono (by decide)) (by rfl) D__law_whole.g D__law_whole.F.kp D__law_whole.b .nil pass0 (pa_cons (pe_ix ix_tup (pv 0) pe_int (fun _ _ => rfl)) (pa_cons pe_int (pa_cons pe_int pa_nil)))))))))))))), ?_⟩
    obtain ⟨Ty, kd, kt⟩ := hx.kit
    try dsimp only [tSeq, tIfS, tOr]
    refine (ans_not (ans_val (val_isi (val_var rfl) kd kt))) _ ?_
    cases c : isT d with
    | false =>
      have e : eventB d = false := by
        cases d <;> first | rfl | cases c
      rw [e] at k
      exact iteT (iteT (val_c _ (k H (Same.refl _))))
    | true =>
      refine iteF ?_
      cases hx with
      | tup hp ha =>
        rename_i p xs ds
        try dsimp only [tTest, tOp, tTup, tCons, tNil]
        refine (val_lenT (val_var rfl) (SqT.of hp)) _ (val_c _ (val_c _ ⟨by show 2 ≤ sizeLine; decide, fun u nu => ?_⟩))
        have s1 := same_upd (o := .tup [.int 3, .int 4]) nu
        refine ⟨u, _, rfl, .inr (SqT.of upd_same), rfl, rfl, _, rfl, ?_⟩
        have len := ha.len
        have hp1 := s1 _ _ hp
        have ha1 := DqA.mono s1 _ ha
        generalize (upd H u (.tup [.int 3, .int 4])) = H1 at s1 hp1 ha1 ⊢
        rw [if_pos rfl, in34, len]
        by_cases cl : ds.length = 3 ∨ ds.length = 4
        · rw [show (decide (ds.length = 3) || decide (ds.length = 4)) = true by
            rcases cl with e | e
            · rw [decide_eq_true e]
              rfl
            · rw [decide_eq_true e, Bool.or_true]]
          refine iteF ?_
          obtain ⟨d0, r, rfl⟩ : ∃ d0 r, ds = d0 :: r := by
            cases ds with
            | nil => rcases cl with e | e <;> cases e
            | cons a r => exact ⟨a, r, rfl⟩
          obtain ⟨v0, e0, q0⟩ := ha1.at_ 0 (d := d0) rfl
          have z0 := sz.at_ 0 (d := d0) rfl
          have kbad : wireB d0 = false → ∀ H', Same H1 H' → Q (.bl false) H' := fun e H' s => by
            rw [wire_bad e] at k
            exact k H' (s1.trans s)
          try dsimp only [tNext, tSeq, tAsg]
          refine (val_ixT (i := 0) (val_var rfl) hp1 e0) _ ?_
          obtain ⟨T0, kd0, kt0⟩ := q0.kit
          try dsimp only [gName, tSeq, tIfS, tOr]
          refine (ans_not (ans_val (val_isi (val_var rfl) kd0 kt0))) _ ?_
          cases c0 : isT d0 with
          | false =>
            refine iteT (iteT (val_c _ (kbad ?_ _ (Same.refl _))))
            cases d0 <;> first | rfl | cases c0
          | true =>
            refine iteF ?_
            cases q0 with
            | tup hw aw =>
              rename_i wp ws es
              refine (ans_ne2' (val_lenT (val_var rfl) (SqT.of hw)) val_c rfl) _ ?_
              by_cases c2 : es.length = 2
              · rw [show (!decide (V.int (ws.length : Nat) = V.int 2)) = false by
                  rw [aw.len, c2]
                  rfl]
                refine iteF ?_
                obtain ⟨a, b, rfl⟩ := two_d c2
                obtain ⟨va, ea, qa⟩ := aw.at_ 0 (d := a) rfl
                obtain ⟨vb, eb, qb⟩ := aw.at_ 1 (d := b) rfl
                have za := z0.at_ 0 (d := a) rfl
                have zb := z0.at_ 1 (d := b) rfl
                try dsimp only [tNot, tB]
                refine lname_run (val_ixT (i := 1) (val_var rfl) hw eb) qb zb.ok fun H2 s2 => ⟨_, rfl, ?_⟩
                cases cb : nameD b with
                | false =>
                  refine iteT (val_c _ (kbad ?_ _ s2))
                  show ((isStr "" a || nameD a) && nameD b) = false
                  rw [cb, Bool.and_false]
                | true =>
                  refine iteF ?_
                  have hw2 := s2 _ _ hw
                  have hp2 := s2 _ _ hp1
                  have qa2 := Dq.mono s2 _ qa
                  have ha2 := DqA.mono s2 _ ha1
                  have s12 := s1.trans s2
                  try dsimp only [tNext, tSeq, tIfS]
                  refine (ansS_w0 (ta := tOp (rIxT K) (tVar 1) (tC (.int (0 : Nat)))) (fun H' s => val_ixT (i := 0) (val_var rfl) (s _ _ hw2) ea) qa2 za) _ fun H3 s3 => ?_
                  have hp3 := s3 _ _ hp2
                  have ha3 := DqA.mono s3 _ ha2
                  have s13 := s12.trans s3
                  cases cw : (!isStr "" a && !nameD a) with
                  | true =>
                    refine iteT (val_c _ (kbad ?_ _ (s2.trans s3)))
                    rw [Bool.and_eq_true, Bool.not_eq_true', Bool.not_eq_true'] at cw
                    show ((isStr "" a || nameD a) && nameD b) = false
                    rw [cw.1, cw.2]
                    rfl
                  | false =>
                    have wb : wireB (.tuple [a, b]) = true := by
                      show ((isStr "" a || nameD a) && nameD b) = true
                      rw [cb, Bool.and_true]
                      cases x1 : isStr "" a with
                      | true => rfl
                      | false =>
                        rw [x1] at cw
                        cases x2 : nameD a with
                        | true => rfl
                        | false =>
                          rw [x2] at cw
                          cases cw
                    refine iteF ?_
                    clear kbad ha1 ha2 hp1 hp2 hw hw2 qa qa2 s1 s2 s3 s12
                    have len3 := ha3.len
                    have vl : Val (tCB (rLenSq K) (tCons (tVar 0) tNil)) [some (.ref p), some (.ref wp)] H3 (.int ((r.length + 1 : Nat) : Int)) := by
                      have e : ((xs.length : Nat) : Int) = ((r.length + 1 : Nat) : Int) := by rw [len3]; rfl
                      rw [← e]
                      exact val_lenT (val_var rfl) (SqT.of hp3)
                    try dsimp only [tNext, tSeq, tIfS]
                    refine (ans_eq2 vl val_c rfl) _ ?_
                    rcases cl with c3 | c4
                    · obtain ⟨d1, d2, rfl⟩ := two_d (show r.length = 2 by injection c3)
                      refine iteT ?_
                      obtain ⟨v1, e1, q1⟩ := ha3.at_ 1 (d := d1) rfl
                      obtain ⟨v2, e2, q2⟩ := ha3.at_ 2 (d := d2) rfl
                      have z1 := sz.at_ 1 (d := d1) rfl
                      have ke : eventB (.tuple [.tuple [a, b], d1, d2]) = (isStr "answer" d1 && wholeD (-2) 3 d2) := by
                        show (wireB (.tuple [a, b]) && (isStr "answer" d1 && answerD d2)) = _
                        rw [wb, Bool.true_and, whole_answer]
                      rw [ke] at k
                      try dsimp only [tRet]
                      exact (val_andV (val_reprEq (val_ixT (i := 1) (val_var rfl) hp3 e1) q1 z1 plain3.2.2 (by decide +kernel)) fun _ => val_lwhole (val_ixT (i := 2) (val_var rfl) hp3 e2) q2 (val_neg val_c) val_c) _ (k H3 s13)
                    · obtain ⟨d1, d2, d3, rfl⟩ := three_d (show r.length = 3 by injection c4)
                      refine iteF ?_
                      obtain ⟨v1, e1, q1⟩ := ha3.at_ 1 (d := d1) rfl
                      obtain ⟨v2, e2, q2⟩ := ha3.at_ 2 (d := d2) rfl
                      obtain ⟨v3, e3, q3⟩ := ha3.at_ 3 (d := d3) rfl
                      have z1 := sz.at_ 1 (d := d1) rfl
                      have z2 := sz.at_ 2 (d := d2) rfl
                      have ke : eventB (.tuple [.tuple [a, b], d1, d2, d3]) = (isStr "call" d1 && (doorD d2 && wholeD 0 3 d3)) := by
                        show (wireB (.tuple [a, b]) && (isStr "call" d1 && (doorD d2 && belowD d3))) = _
                        rw [wb, Bool.true_and, whole_below]
                      rw [ke] at k
                      try dsimp only [tNext, tSeq, tIfS, tOr, tNot, tB]
                      refine lname_run (val_ixT (i := 2) (val_var rfl) hp3 e2) q2 z2.ok fun H4 s4 => ⟨_, rfl, ?_⟩
                      have hp4 := s4 _ _ hp3
                      have s14 := s13.trans s4
                      cases cn : nameD d2 with
                      | false =>
                        have ed : doorD d2 = false := by
                          cases d2 with
                          | str y =>
                            have cn : isName y = false := cn
                            show (isName y && _) = false
                            rw [cn]
                            rfl
                          | _ => rfl
                        rw [ed, Bool.false_and, Bool.and_false] at k
                        exact iteT (iteT (val_c _ (k _ s14)))
                      | true =>
                        refine iteF ?_
                        cases q2 with
                        | str y =>
                          have ed : doorD (.str y) = !decide (V.str y = V.str "any") := by
                            have cn : isName y = true := cn
                            show (isName y && !decide (V.str y = V.str "any")) = _
                            rw [cn, Bool.true_and]
                          rw [ed] at k
                          refine (ans_eq2 (val_ixT (i := 2) (val_var rfl) hp4 e2) val_c rfl) _ ?_
                          cases ca : decide (V.str y = V.str "any") with
                          | true =>
                            rw [ca] at k
                            refine iteT (val_c _ ?_)
                            have := k H4 s14
                            rw [show (!true && wholeD 0 3 d3) = false from rfl, Bool.and_false] at this
                            exact this
                          | false =>
                            rw [ca] at k
                            refine iteF ?_
                            try dsimp only [tNext, tRet]
                            exact (val_andV (val_reprEq (val_ixT (i := 1) (val_var rfl) hp4 e1) (Dq.mono s4 _ q1) z1 plain3.2.1 (by decide +kernel)) fun _ => val_lwhole (val_ixT (i := 3) (val_var rfl) hp4 e3) (Dq.mono s4 _ q3) val_c val_c) _ (k H4 s14)
                        | _ => cases cn
              · rw [show (!decide (V.int (ws.length : Nat) = V.int 2)) = true by
                  rw [aw.len]
                  exact congrArg Bool.not (decide_eq_false fun e => c2 (by injection e with e; omega))]
                refine iteT (iteT (val_c _ (kbad (wire_no (d := .tuple es) (decide_eq_false c2)) _ (Same.refl _))))
            | _ => cases c0
        · rw [show (decide (ds.length = 3) || decide (ds.length = 4)) = false by
            rw [decide_eq_false fun e => cl (.inl e), decide_eq_false fun e => cl (.inr e)]
            rfl]
          have e : eventB (.tuple ds) = false := event_no (decide_eq_false fun e => cl (.inr e)) (decide_eq_false fun e => cl (.inl e))
          rw [e] at k
          exact iteT (val_c _ (k _ s1))
      | _ => cases c
end
end K5
namespace K5
open PySem PySem.Spec PyProof.Rows L2
abbrev s__law_is_run : Stmt := topS 38
theorem sc__law_is_run : FnScope ["_law_thing", "_law_one"] ["_law_thing"] (defScope s__law_is_run) := ⟨rfl, rfl, rfl, by decide +kernel, rfl, by decide +kernel, by decide +kernel⟩
def spLRun : Sp := fun vs H Q _ => ∃ (x : V) (d : PyData), vs = [x] ∧ Dq H x d ∧ SzD d ∧ fewD d = true ∧ ∀ H', Same H H' → Q (.bl (runB d)) H'
abbrev s__law_line : Stmt := topS 39
theorem sc__law_line : FnScope ["_law_event_here", "_law_words"] ["_law_event_here"] (defScope s__law_line) := ⟨rfl, rfl, rfl, by decide +kernel, rfl, by decide +kernel, by decide +kernel⟩
def spLine : Sp := fun vs H Q _ => ∃ (x : V) (d : PyData), vs = [x] ∧ Dq H x d ∧ Ev d ∧ ∀ H', Same H H' → Q (.str (lineD d)) H'
section
variable {P : Program} {w : World} {K : PySem.W.Frag} {mg : Str → Option Value} {base : Heap}
theorem ok_lrun {f fE : Addr} {fd dE : FuncData} (B : Bt mg) (m_all : mg "all" = none) (D : Df K mg "_law_is_run" s__law_is_run f fd ["_law_thing"]) (D__law_is_event : Df K mg "_law_is_event" s__law_is_event fE dE ["_law_thing"]) (G__law_is_event : FnG P w K mg base CX0 2 fE dE ["_law_thing"] spLEvent) : FnG P w K mg base CX0 3 f fd ["_law_thing"] spLRun := by
  refine okG D.F sc__law_is_run (fun vs H Q E h => ?_) (fun cdv A outer s H vs Q E gu hr h => ?_)
  · obtain ⟨x, d, rfl, _⟩ := h
    rfl
  · obtain ⟨x, d, rfl, hx, sz, fw, k⟩ := h
    have S := sc__law_is_run
    refine ⟨_, (pss_one (ps_ret (pe_and (pe_callB call_isi (by rfl) B.m_isinstance PyProof.Rows.boot_isinstance (pa_cons (pv 0) (pa_cons (pe_tyN bt_tuple (by rfl) B.m_tuple) pa_nil))) (pe_one (pe_callB (cr_all rfl) (by rfl) m_all (by decide +kernel) (pa_cons (pe_lc (own := [("_law_one", 1)]) (g := gName 1) (tt := tYes) rfl S.nd (pi_tup (pv 0)) (blkOk_by (own := [("_law_one", 1)]) (N := ["_law_thing", "_law_one"]) (sc := defScope s__law_is_run) (by decide +kernel)) (fun _ _ _ _ _ => pg_name (i := 1) S.nd rfl (Or.inl rfl)) (fun _ _ _ _ _ => pts_nil) (fun _ _ _ _ _ => pe_callG G__law_is_event gu (hr.mono (by decide)) (by rfl) D__law_is_event.g D__law_is_event.F.kp D__law_is_event.b pass0 (pa_cons (pv 1) pa_nil))) pa_nil)))))), ?_⟩
    obtain ⟨Ty, kd, kt⟩ := hx.kit
    try dsimp only [tRet]
    refine (val_isi (val_var rfl) kd kt) _ ⟨_, rfl, ?_⟩
    cases c : isT d with
    | false =>
      have e : runB d = false := by
        cases d <;> first | rfl | cases c
      rw [e] at k
      exact iteF (k H (Same.refl _))
    | true =>
      refine iteT ?_
      cases hx with
      | tup h a =>
        rename_i p xs ds
        have fw : ds.length ≤ 100 := of_decide_eq_true fw
        try dsimp only [tCB, tCons, tNil]
        refine lc_valsT (p := p) (xs := xs) (zs := (ds.map eventB).map V.bl) (val_var rfl) h (by rw [List.length_map, List.length_map, a.len]) (by rw [List.length_map, List.length_map]; omega) (fun i x z H' hx hz s => ?_) fun H1 q s1 hq => ?_
        · obtain ⟨d, hd, dq⟩ := a.at2 i hx
          rw [List.getElem?_map, List.getElem?_map, hd] at hz
          have hz : V.bl (eventB d) = z := Option.some.inj hz
          refine ⟨_, fun P hP => hP, rfl, fun R hR => ?_⟩
          rw [← hz] at hR
          try dsimp only [tCall, tCons, tNil]
          refine (val_var rfl) _ ?_
          exact ⟨x, d, rfl, Dq.mono s _ dq, sz.at_ i hd, hR⟩
        · refine ⟨q, _, rfl, SqL.of hq, ?_⟩
          have e : (ds.map eventB).all id = runB (.tuple ds) := by
            rw [List.all_map]
            rfl
          rw [e]
          exact k H1 s1
      | _ => cases c
theorem ok_line {f : Addr} {fd : FuncData} (B : Bt mg) (D : Df K mg "_law_line" s__law_line f fd ["_law_event_here"]) : FnOk P w K mg base CX0 1 f fd ["_law_event_here"] spLine := by
  refine D.F.ok sc__law_line (fun vs H Q E h => ?_) (fun cdv A outer s H vs Q E hr h => ?_)
  · obtain ⟨x, d, rfl, _⟩ := h
    rfl
  · obtain ⟨x, d, rfl, hx, ev, k⟩ := h
    have S := sc__law_line
    refine ⟨_, (pss_cons (ps_set (i := 1) S.nd rfl (.inl rfl) (pe_lst (pa_cons (pe_ix ix_tup (pv 0) pe_int (fun _ _ => rfl)) (pa_cons (pe_ifExp (pt_cmpR op_eq (pe_ix ix_tup (pe_ix ix_tup (pv 0) pe_int (fun _ _ => rfl)) pe_int (fun _ _ => rfl)) pe_str (nomark _)) pe_str (pe_ix ix_tup (pe_ix ix_tup (pv 0) pe_int (fun _ _ => rfl)) pe_int (fun _ _ => rfl))) (pa_cons (pe_ix ix_tup (pe_ix ix_tup (pv 0) pe_int (fun _ _ => rfl)) pe_int (fun _ _ => rfl)) pa_nil)))))
      (pss_cons (ps_if (pt_cmpR op_eq (pe_ix ix_tup (pv 0) pe_int (fun _ _ => rfl)) pe_str (nomark _))
        (pss_one (ps_ret (pe_bm PySem.F.plainAttrs_str PySem.F.slot_str_join PySem.F.type_str_join mt_join pe_str (pa_cons (pe_op op_cat (pv 1) (pe_lst (pa_cons (pe_ix ix_tup (pv 0) pe_int (fun _ _ => rfl)) (pa_cons (pe_callTy call_str_int (by rfl) B.m_str (by decide +kernel) (pa_cons (pe_ix ix_tup (pv 0) pe_int (fun _ _ => rfl)) pa_nil)) pa_nil)))) pa_nil))))
        pss_nil)
      (pss_one (ps_ret (pe_bm PySem.F.plainAttrs_str PySem.F.slot_str_join PySem.F.type_str_join mt_join pe_str (pa_cons (pe_op op_cat (pv 1) (pe_lst (pa_cons (pe_dget2 (by exact Nat.lt_of_le_of_lt (Nat.add_le_add_left (by decide) _) hr.units) (pe_disp (pps_cons (pe_un un_neg pe_int) pe_str (pps_cons (pe_un un_neg pe_int) pe_str pps_nil)) (by rfl) (by rfl) (by simp) (by decide)) (pe_ix ix_tup (pv 0) pe_int (fun _ _ => rfl)) (pe_callTy call_str_int (by rfl) B.m_str (by decide +kernel) (pa_cons (pe_ix ix_tup (pv 0) pe_int (fun _ _ => rfl)) pa_nil)) ⟨rfl, rfl, rfl, rfl⟩) pa_nil))) pa_nil)))))), ?_⟩
    have l1 : (" " : Str).length = 1 := by decide +kernel
    have ca : ¬ V.str "answer" = V.str "call" := by decide +kernel
    -- the words in common
    have wds : ∀ (p wr : Addr) (kd a b : Str) (rest : List V) (R : VK), H p = some (.tup (.ref wr :: .str kd :: rest)) → H wr = some (.tup [.str a, .str b]) → (∀ l, H l = none → R (.ref l) (upd H l (.lst [.str kd, .str (dash a), .str b]))) →
        tLst (tCons (tOp (rIxT K) (tVar 0) (tC (.int 1))) (tCons (tIf (tTest (tOp rEq (tOp (rIxT K) (tOp (rIxT K) (tVar 0) (tC (.int 0))) (tC (.int 0))) (tC (.str "")))) (tC (.str "-")) (tOp (rIxT K) (tOp (rIxT K) (tVar 0) (tC (.int 0))) (tC (.int 0)))) (tCons (tOp (rIxT K) (tOp (rIxT K) (tVar 0) (tC (.int 0))) (tC (.int 1))) tNil))) [some (.ref p), none] H R := by
      intro p wr kd a b rest R hp hw q
      have v1 : Val (tOp (rIxT K) (tVar 0) (tC (.int (1 : Nat)))) [some (.ref p), none] H (.str kd) := val_ixT (val_var rfl) hp rfl
      have v0 : Val (tOp (rIxT K) (tVar 0) (tC (.int (0 : Nat)))) [some (.ref p), none] H (.ref wr) := val_ixT (val_var rfl) hp rfl
      have va : Val (tOp (rIxT K) (tOp (rIxT K) (tVar 0) (tC (.int (0 : Nat)))) (tC (.int (0 : Nat)))) [some (.ref p), none] H (.str a) := val_ixT v0 hw rfl
      have vb : Val (tOp (rIxT K) (tOp (rIxT K) (tVar 0) (tC (.int (0 : Nat)))) (tC (.int (1 : Nat)))) [some (.ref p), none] H (.str b) := val_ixT v0 hw rfl
      try dsimp only [tLst, tCons, tNil]
      refine v1 _ ?_
      refine (val_ite (ans_eq2 va val_c rfl) (fun _ => val_c) fun _ => va) _ ?_
      refine vb _ ⟨by show 3 ≤ sizeLine; decide, fun l nl => ?_⟩
      have e : (if decide (V.str a = V.str "") = true then V.str "-" else V.str a) = V.str (dash a) := by
        unfold dash
        by_cases c : a = ""
        · rw [c, if_pos rfl, if_pos (decide_eq_true rfl)]
        · rw [if_neg c, if_neg (by rw [decide_eq_false fun z => c (by injection z)]; exact Bool.false_ne_true)]
      rw [e]
      exact q l nl
    cases ev with
    | @call a b r n hwn hb hr' n0 n4 =>
      obtain ⟨p, wr, rfl, hp, hw⟩ := dq_call hx
      try dsimp only [tSeq, tAsg]
      refine wds p wr "call" a b _ _ hp hw fun l nl => ?_
      have s1 := same_upd (o := .lst [.str "call", .str (dash a), .str b]) nl
      have hl : (upd H l (.lst [.str "call", .str (dash a), .str b])) l = some (.lst [.str "call", .str (dash a), .str b]) := upd_same
      generalize (upd H l (.lst [.str "call", .str (dash a), .str b])) = H1 at s1 hl ⊢
      have hp1 := s1 _ _ hp
      try dsimp only [gName, tSeq, tIfS]
      refine (ans_eq2 (val_ixT (i := 1) (val_var rfl) hp1 rfl) val_c rfl) _ ?_
      rw [decide_eq_true rfl]
      refine iteT ?_
      try dsimp only [tRet]
      refine bm_run (x := .str " ") val_c rfl ?_
      try dsimp only [tOp, tLst, tCons, tNil]
      refine (val_var rfl) _ ((val_ixT (i := 2) (val_var rfl) hp1 rfl) _ ((val_strI (val_ixT (i := 3) (val_var rfl) hp1 rfl) (log_small (by omega))) _ ⟨by show 2 ≤ sizeLine; decide, fun l2 nl2 => ?_⟩))
      have s2 := same_upd (o := .lst [.str r, .str (toString n)]) nl2
      refine ⟨l, l2, _, _, rfl, rfl, s2 _ _ hl, upd_same, by show 5 ≤ sizeLine; decide, fun l3 nl3 => ?_⟩
      have s3 := same_upd (o := .lst ([.str "call", .str (dash a), .str b] ++ [.str r, .str (toString n)])) nl3
      refine ⟨" ", l3, [("call" : Str), dash a, b, r, toString n], rfl, rfl, .inl (SqL.of upd_same), ?_, ?_⟩
      · have h1 := sum_le (zs := [("call" : Str), dash a, b, r, toString n]) (c := 10) fun z hz => by
          have := dash_len hwn
          have := (name_len hb).2
          have := door_len hr'
          have := int_len n0 n4
          have l4 : ("call" : Str).length = 4 := by decide +kernel
          simp only [List.mem_cons, List.not_mem_nil, or_false] at hz
          rcases hz with rfl | rfl | rfl | rfl | rfl <;> omega
        rw [l1]
        have h2 : ([("call" : Str), dash a, b, r, toString n]).length = 5 := rfl
        rw [h2] at h1 ⊢
        omega
      · rw [jn_txt]
        exact k _ (s1.trans (s2.trans s3))
    | @ans a b i hwn hb i0 i4 =>
      obtain ⟨p, wr, rfl, hp, hw⟩ := dq_ans hx
      try dsimp only [tSeq, tAsg]
      refine wds p wr "answer" a b _ _ hp hw fun l nl => ?_
      have s1 := same_upd (o := .lst [.str "answer", .str (dash a), .str b]) nl
      have hl : (upd H l (.lst [.str "answer", .str (dash a), .str b])) l = some (.lst [.str "answer", .str (dash a), .str b]) := upd_same
      generalize (upd H l (.lst [.str "answer", .str (dash a), .str b])) = H1 at s1 hl ⊢
      have hp1 := s1 _ _ hp
      try dsimp only [gName, tSeq, tIfS]
      refine (ans_eq2 (val_ixT (i := 1) (val_var rfl) hp1 rfl) val_c rfl) _ ?_
      rw [decide_eq_false ca]
      refine iteF ?_
      try dsimp only [tNext, tRet]
      refine bm_run (x := .str " ") val_c rfl ?_
      try dsimp only [tOp, tLst, tCons, tNil]
      try dsimp only [tDGet2, tDisp, tPairs]
      refine (val_var rfl) _ ?_
      refine fun g ng => ?_
      have s2 := same_upd (o := .dK []) ng
      have hg : (upd H1 g (.dK [])) g = some (.dK []) := upd_same
      have gl : ∀ {x : Addr} {o : HO}, H1 x = some o → x ≠ g := fun e => ne_of_none e ng
      generalize (upd H1 g (.dK [])) = H2 at s2 hg ⊢
      refine val_c _ ⟨1, rfl, val_c _ (val_c _ ⟨2, rfl, val_c _ ⟨hg, [((.inl (-1) : Key), .str "lost"), (.inl (-2), .str "busy")], rfl, Nat.le_of_ble_eq_true rfl, ?_⟩⟩)⟩
      have hg3 : (upd H2 g (.dK (mergeK [] [((.inl (-1) : Key), V.str "lost"), (.inl (-2), .str "busy")]))) g = some (.dK [((.inl (-1) : Key), .str "lost"), (.inl (-2), .str "busy")]) := upd_same
      have k3 : ∀ x o, H1 x = some o → (upd H2 g (.dK (mergeK [] [((.inl (-1) : Key), V.str "lost"), (.inl (-2), .str "busy")]))) x = some o := fun x o e => by
        rw [upd_ne (gl e)]
        exact s2 _ _ e
      generalize (upd H2 g (.dK (mergeK [] [((.inl (-1) : Key), V.str "lost"), (.inl (-2), .str "busy")]))) = H3 at hg3 k3 ⊢
      have hp3 := k3 _ _ hp1
      have vi : Val (tOp (rIxT K) (tVar 0) (tC (.int (2 : Nat)))) [some (.ref p), some (.ref l)] H3 (.int i) := val_ixT (val_var rfl) hp3 rfl
      refine ⟨g, rfl, .inl ⟨_, .inl hg3⟩, ?_⟩
      refine vi _ ((val_strI vi (log_small (by omega))) _ ⟨_, DGet.k (k := .inl i) hg3, ?_⟩)
      have ew : ((valV [((.inl (-1) : Key), V.str "lost"), (.inl (-2), .str "busy")] (.inl i)).getD (.str (toString i))) = .str (ansWord i) := by
        have hi : i = -2 ∨ i = -1 ∨ 0 ≤ i := by omega
        rcases hi with rfl | rfl | hi
        · rfl
        · rfl
        · unfold ansWord
          rw [if_neg (by omega), if_neg (by omega)]
          have n1 : ¬ ((.inl (-1) : Key) = .inl i) := fun e => by injection e with e; omega
          have n2 : ¬ ((.inl (-2) : Key) = .inl i) := fun e => by injection e with e; omega
          have e0 : valV [((.inl (-1) : Key), V.str "lost"), (.inl (-2), .str "busy")] (.inl i) = none := (valV_neg n1).trans ((valV_neg n2).trans rfl)
          rw [e0]
          rfl
      rw [ew]
      refine ⟨by show 1 ≤ sizeLine; decide, fun l2 nl2 => ?_⟩
      have s4 := same_upd (o := .lst [.str (ansWord i)]) nl2
      refine ⟨l, l2, _, _, rfl, rfl, s4 _ _ (k3 _ _ hl), upd_same, by show 4 ≤ sizeLine; decide, fun l3 nl3 => ?_⟩
      have s5 := same_upd (o := .lst ([.str "answer", .str (dash a), .str b] ++ [.str (ansWord i)])) nl3
      refine ⟨" ", l3, [("answer" : Str), dash a, b, ansWord i], rfl, rfl, .inl (SqL.of upd_same), ?_, ?_⟩
      · have h1 := sum_le (zs := [("answer" : Str), dash a, b, ansWord i]) (c := 10) fun z hz => by
          have := dash_len hwn
          have := (name_len hb).2
          have := ansWord_len i0 i4
          have l4 : ("answer" : Str).length = 6 := by decide +kernel
          simp only [List.mem_cons, List.not_mem_nil, or_false] at hz
          rcases hz with rfl | rfl | rfl | rfl <;> omega
        rw [l1]
        have h2 : ([("answer" : Str), dash a, b, ansWord i]).length = 4 := rfl
        rw [h2] at h1 ⊢
        omega
      · rw [jn_txt]
        exact k _ (fun x o e => s5 _ _ (s4 _ _ (k3 _ _ (s1 _ _ e))))
end
end K5
namespace K5
open PySem PySem.Spec PyProof.Rows L2
/-! ### an event in a line, as the law reads it -/
def dig4 : List Str := ["0", "1", "2", "3"]
theorem num_dig : ∀ z ∈ dig4, ∃ i : Nat, dig4[i]? = some z ∧ numV z = (i : Int) ∧ V.str (toString (numV z)) = V.str z ∧ (decide ((3 : Int) < (z.length : Int)) || !(Txt.isascii z && Txt.isdecimal z)) = false := by
  intro z hz
  simp only [dig4, List.mem_cons, List.not_mem_nil, or_false] at hz
  rcases hz with rfl | rfl | rfl | rfl
  · exact ⟨0, rfl, by decide +kernel, by decide +kernel, by decide +kernel⟩
  · exact ⟨1, rfl, by decide +kernel, by decide +kernel, by decide +kernel⟩
  · exact ⟨2, rfl, by decide +kernel, by decide +kernel, by decide +kernel⟩
  · exact ⟨3, rfl, by decide +kernel, by decide +kernel, by decide +kernel⟩
theorem dig_at : ∀ i : Nat, i < 4 → ∃ z, dig4[i]? = some z ∧ Str.ofString (toString ((i : Nat) : Int)) = z := by
  intro i hi
  match i, hi with
  | 0, _ => exact ⟨_, rfl, by decide +kernel⟩
  | 1, _ => exact ⟨_, rfl, by decide +kernel⟩
  | 2, _ => exact ⟨_, rfl, by decide +kernel⟩
  | 3, _ => exact ⟨_, rfl, by decide +kernel⟩
theorem num_mem {z : Str} {w : Nat} (hw : w ≤ 4) : decide (z ∈ dig4.take w) = decide (0 ≤ numOf z (w : Int)) := by
  refine decide_eq_decide.mpr ⟨fun h => ?_, fun h => ?_⟩
  · obtain ⟨i, hi⟩ := List.getElem?_of_mem h
    rw [List.getElem?_take] at hi
    split at hi
    · rename_i iw
      obtain ⟨j, h1, h2, h3, h4⟩ := num_dig z (List.mem_of_getElem? hi)
      have e : i = j := by
        have nd : dig4.Nodup := by decide +kernel
        have li : i < dig4.length := (List.getElem?_eq_some_iff.mp hi).1
        have lj : j < dig4.length := (List.getElem?_eq_some_iff.mp h1).1
        exact (List.getElem?_inj li nd).mp (hi.trans h1.symm)
      subst e
      unfold numOf
      rw [h4, if_neg Bool.false_ne_true, decide_eq_true h3, decide_eq_true (show numV z < (w : Int) by omega), Bool.and_self, if_pos rfl]
      omega
    · cases hi
  · unfold numOf at h
    split at h
    · omega
    · split at h
      · rename_i c1 c2
        rw [Bool.and_eq_true] at c2
        have e1 := of_decide_eq_true c2.1
        have e2 := of_decide_eq_true c2.2
        injection e1 with e1
        obtain ⟨i, ei⟩ : ∃ i : Nat, numV z = (i : Int) := ⟨(numV z).toNat, by omega⟩
        rw [ei] at e1 e2
        obtain ⟨y, h1, h2⟩ := dig_at i (by omega)
        have ez : y = z := h2.symm.trans e1
        rw [ez] at h1
        refine List.mem_of_getElem? (i := i) ?_
        rw [List.getElem?_take, if_pos (by omega)]
        exact h1
      · omega

def numG (z : Str) : Option Int := if 0 ≤ numOf z 4 then some (numOf z 4) else none
def numsK : List (Key × V) := [(.inr "0", .int 0), (.inr "1", .int 1), (.inr "2", .int 2), (.inr "3", .int 3)]
def ansK : List (Key × V) := [(.inr "0", .int 0), (.inr "1", .int 1), (.inr "2", .int 2), (.inr "3", .int 3), (.inr "lost", .int (-1)), (.inr "busy", .int (-2))]
theorem dig_num : ∀ z ∈ dig4, valV numsK (.inr z) = some (.int (numOf z 4)) ∧ 0 ≤ numOf z 4 ∧ valV ansK (.inr z) = some (.int (numOf z 4)) ∧ z ≠ "busy" ∧ z ≠ "lost" := by
  intro z hz
  simp only [dig4, List.mem_cons, List.not_mem_nil, or_false] at hz
  have n0 : numOf "0" 4 = 0 := by decide +kernel
  have n1 : numOf "1" 4 = 1 := by decide +kernel
  have n2 : numOf "2" 4 = 2 := by decide +kernel
  have n3 : numOf "3" 4 = 3 := by decide +kernel
  have ne : ∀ x y : Str, x ≠ y → ¬ ((.inr x : Key) = .inr y) := fun x y h e => h (by injection e)
  rcases hz with rfl | rfl | rfl | rfl
  · rw [n0]
    exact ⟨valV_pos rfl, by decide, valV_pos rfl, by decide +kernel, by decide +kernel⟩
  · rw [n1]
    exact ⟨(valV_neg (ne _ _ (by decide +kernel))).trans (valV_pos rfl), by decide, (valV_neg (ne _ _ (by decide +kernel))).trans (valV_pos rfl), by decide +kernel, by decide +kernel⟩
  · rw [n2]
    exact ⟨(valV_neg (ne _ _ (by decide +kernel))).trans ((valV_neg (ne _ _ (by decide +kernel))).trans (valV_pos rfl)), by decide, (valV_neg (ne _ _ (by decide +kernel))).trans ((valV_neg (ne _ _ (by decide +kernel))).trans (valV_pos rfl)), by decide +kernel, by decide +kernel⟩
  · rw [n3]
    exact ⟨(valV_neg (ne _ _ (by decide +kernel))).trans ((valV_neg (ne _ _ (by decide +kernel))).trans ((valV_neg (ne _ _ (by decide +kernel))).trans (valV_pos rfl))), by decide, (valV_neg (ne _ _ (by decide +kernel))).trans ((valV_neg (ne _ _ (by decide +kernel))).trans ((valV_neg (ne _ _ (by decide +kernel))).trans (valV_pos rfl))), by decide +kernel, by decide +kernel⟩
theorem num_not {z : Str} (h : z ∉ dig4) : ¬ 0 ≤ numOf z 4 := by
  have := num_mem (z := z) (w := 4) (by decide)
  rw [show dig4.take 4 = dig4 from rfl, decide_eq_false h] at this
  exact of_decide_eq_false this.symm
theorem nums_at (z : Str) : valV numsK (.inr z) = (numG z).map V.int := by
  by_cases h : z ∈ dig4
  · obtain ⟨h1, h2, _⟩ := dig_num z h
    rw [h1]
    unfold numG
    rw [if_pos h2]
    rfl
  · have ne : ∀ x ∈ dig4, ¬ ((.inr x : Key) = .inr z) := fun x hx e => h (by injection e with e; rw [← e]; exact hx)
    unfold numG
    rw [if_neg (num_not h)]
    exact (valV_neg (ne _ (by decide +kernel))).trans ((valV_neg (ne _ (by decide +kernel))).trans ((valV_neg (ne _ (by decide +kernel))).trans ((valV_neg (ne _ (by decide +kernel))).trans rfl)))
theorem ans_at (z : Str) : valV ansK (.inr z) = (ansOf z).map V.int := by
  by_cases h : z ∈ dig4
  · obtain ⟨_, h2, h3, h4, h5⟩ := dig_num z h
    rw [h3]
    unfold ansOf
    rw [if_neg h4, if_neg h5, if_pos h2]
    rfl
  · have ne : ∀ x ∈ dig4, ¬ ((.inr x : Key) = .inr z) := fun x hx e => h (by injection e with e; rw [← e]; exact hx)
    have skip : ∀ r : Option V, valV [((.inr "lost" : Key), V.int (-1)), (.inr "busy", .int (-2))] (.inr z) = r → valV ansK (.inr z) = r := fun r hr =>
      (valV_neg (ne _ (by decide +kernel))).trans ((valV_neg (ne _ (by decide +kernel))).trans ((valV_neg (ne _ (by decide +kernel))).trans ((valV_neg (ne _ (by decide +kernel))).trans hr)))
    refine skip _ ?_
    unfold ansOf
    by_cases hb : z = "busy"
    · subst hb
      rw [if_pos rfl]
      exact (valV_neg (fun e => by injection e with e; exact busy_lost e.symm)).trans (valV_pos rfl)
    · rw [if_neg hb]
      by_cases hl : z = "lost"
      · subst hl
        rw [if_pos rfl]
        exact valV_pos rfl
      · rw [if_neg hl, if_neg (num_not h)]
        exact (valV_neg (fun e => hl (by injection e with e; exact e.symm))).trans ((valV_neg (fun e => hb (by injection e with e; exact e.symm))).trans rfl)
/-- what the law finds in the words -/
def intO : Option Int → PyData
  | none => .none
  | some i => .int i
def undash (a : Str) : Str := if a = "-" then "" else a
def fndOf : List Str → PyData
  | [k, a, b, d, n] => .tuple [.tuple [.str (undash a), .str b], .str k, .str d, intO (numG n)]
  | [k, a, b, x] => .tuple [.tuple [.str (undash a), .str b], .str k, intO (ansOf x)]
  | _ => .none
theorem name_ne {z : Str} (h : isName z = true) : z ≠ "" := fun e => by
  have := (name_len h).1
  rw [e] at this
  exact absurd this (by decide +kernel)
theorem below_int (o : Option Int) (h : ∀ i, o = some i → 0 ≤ i ∧ i < 4) : belowD (intO o) = o.isSome := by
  cases o with
  | none => rfl
  | some i =>
    obtain ⟨h1, h2⟩ := h i rfl
    show (decide (0 ≤ i) && decide (i < 4)) = true
    rw [decide_eq_true h1, decide_eq_true h2]
    rfl
theorem num_lt (z : Str) : numOf z 4 < 4 := by
  unfold numOf
  split
  · decide
  · split
    · rename_i c
      rw [Bool.and_eq_true] at c
      exact of_decide_eq_true c.2
    · decide
theorem numG_in {z : Str} {i : Int} (h : numG z = some i) : 0 ≤ i ∧ i < 4 := by
  unfold numG at h
  split at h
  · rename_i c
    cases h
    exact ⟨c, num_lt z⟩
  · cases h
theorem ansOf_in {z : Str} {i : Int} (h : ansOf z = some i) : -2 ≤ i ∧ i < 4 := by
  unfold ansOf at h
  split at h
  · cases h
    exact ⟨by decide, by decide⟩
  · split at h
    · cases h
      exact ⟨by decide, by decide⟩
    · split at h
      · rename_i c
        cases h
        exact ⟨by omega, num_lt z⟩
      · cases h
/-- the law's wire is the package's -/
theorem wire_law {a b : Str} (na : a ≠ "") : wireOf [a, b] = if wireB (.tuple [.str (undash a), .str b]) = true then some (undash a, b) else none := by
  rw [wire2]
  have e : wireB (.tuple [.str (undash a), .str b]) = ((decide (undash a = "") || isName (undash a)) && isName b) := rfl
  rw [e]
  unfold undash
  cases hb : isName b with
  | false =>
    rw [Bool.and_false, if_neg Bool.false_ne_true, if_neg Bool.false_ne_true]
  | true =>
    rw [Bool.and_true, if_pos rfl]
    by_cases ha : a = "-"
    · rw [if_pos ha, if_pos ha, decide_eq_true rfl, Bool.true_or, if_pos rfl]
    · rw [if_neg ha, if_neg ha, decide_eq_false na, Bool.false_or]
theorem law_ev {ws : List Str} (h1 : ws.length = 4 ∨ ws.length = 5) (n1 : ws.getD 1 "" ≠ "") : (if eventB (fndOf ws) = true then some (fndOf ws) else none) = evOf (cleanWords ws) := by
  have cl : cleanWords ws = if ("" : Str) ∈ ws then [] else ws := by
    unfold cleanWords
    rw [inV_strs]
    by_cases c : ("" : Str) ∈ ws
    · rw [if_pos c, if_pos (decide_eq_true c)]
    · rw [if_neg c, if_neg (by rw [decide_eq_false c]; exact Bool.false_ne_true)]
  have em : isName "" = false := by decide +kernel
  have emd : isDoor "" = false := by decide +kernel
  have nc : ("" : Str) ≠ "call" := by decide +kernel
  have na : ("" : Str) ≠ "answer" := by decide +kernel
  have ng : numG "" = none := by decide +kernel
  have ag : ansOf "" = none := by decide +kernel
  rw [cl]
  rcases h1 with h1 | h1
  · obtain ⟨k, a, b, x, rfl⟩ : ∃ k a b x, ws = [k, a, b, x] := by
      match ws, h1 with
      | [k, a, b, x], _ => exact ⟨k, a, b, x, rfl⟩
    have n1 : a ≠ "" := n1
    have e1 : eventB (fndOf [k, a, b, x]) = (wireB (.tuple [.str (undash a), .str b]) && (decide (k = "answer") && answerD (intO (ansOf x)))) := rfl
    have e2 : answerD (intO (ansOf x)) = (ansOf x).isSome := by
      cases hx : ansOf x with
      | none => rfl
      | some i =>
        obtain ⟨i0, i4⟩ := ansOf_in hx
        show (decide (-2 ≤ i) && decide (i < 4)) = true
        rw [decide_eq_true i0, decide_eq_true i4]
        rfl
    rw [e1, e2]
    by_cases c : ("" : Str) ∈ [k, a, b, x]
    · rw [if_pos c]
      have bad : (wireB (.tuple [.str (undash a), .str b]) && (decide (k = "answer") && (ansOf x).isSome)) = false := by
        simp only [List.mem_cons, List.not_mem_nil, or_false] at c
        rcases c with c | c | c | c
        · rw [← c, decide_eq_false na, Bool.false_and, Bool.and_false]
        · exact absurd c.symm n1
        · rw [← c]
          show ((_ && isName "") && _) = false
          rw [em, Bool.and_false, Bool.false_and]
        · rw [← c, ag, show (none : Option Int).isSome = false from rfl, Bool.and_false, Bool.and_false]
      rw [bad, if_neg Bool.false_ne_true]
      rfl
    · rw [if_neg c]
      have hw := wire_law (a := a) (b := b) n1
      cases wb : wireB (.tuple [.str (undash a), .str b]) with
      | false =>
        rw [wb, if_neg Bool.false_ne_true] at hw
        rw [Bool.false_and, if_neg Bool.false_ne_true]
        exact (ev_none (ws := [k, a, b, x]) hw).symm
      | true =>
        rw [wb, if_pos rfl] at hw
        rw [Bool.true_and, ev4 hw]
        by_cases ck : k = "answer"
        · rw [decide_eq_true ck, Bool.true_and, if_pos ck]
          subst ck
          cases hx : ansOf x with
          | none => rfl
          | some i =>
            show some (PyData.tuple [.tuple [.str (undash a), .str b], .str "answer", intO (ansOf x)]) = _
            rw [hx]
            rfl
        · rw [decide_eq_false ck, Bool.false_and, if_neg Bool.false_ne_true, if_neg ck]
  · obtain ⟨k, a, b, d, n, rfl⟩ : ∃ k a b d n, ws = [k, a, b, d, n] := by
      match ws, h1 with
      | [k, a, b, d, n], _ => exact ⟨k, a, b, d, n, rfl⟩
    have n1 : a ≠ "" := n1
    have e1 : eventB (fndOf [k, a, b, d, n]) = (wireB (.tuple [.str (undash a), .str b]) && (decide (k = "call") && (isDoor d && belowD (intO (numG n))))) := rfl
    rw [e1, below_int _ fun i hi => numG_in hi]
    by_cases c : ("" : Str) ∈ [k, a, b, d, n]
    · rw [if_pos c]
      have bad : (wireB (.tuple [.str (undash a), .str b]) && (decide (k = "call") && (isDoor d && (numG n).isSome))) = false := by
        simp only [List.mem_cons, List.not_mem_nil, or_false] at c
        rcases c with c | c | c | c | c
        · rw [← c, decide_eq_false nc, Bool.false_and, Bool.and_false]
        · exact absurd c.symm n1
        · rw [← c]
          show ((_ && isName "") && _) = false
          rw [em, Bool.and_false, Bool.false_and]
        · rw [← c, emd, Bool.false_and, Bool.and_false, Bool.and_false]
        · rw [← c, ng, show (none : Option Int).isSome = false from rfl, Bool.and_false, Bool.and_false, Bool.and_false]
      rw [bad, if_neg Bool.false_ne_true]
      rfl
    · rw [if_neg c]
      have hw := wire_law (a := a) (b := b) n1
      cases wb : wireB (.tuple [.str (undash a), .str b]) with
      | false =>
        rw [wb, if_neg Bool.false_ne_true] at hw
        rw [Bool.false_and, if_neg Bool.false_ne_true]
        exact (ev_none (ws := [k, a, b, d, n]) hw).symm
      | true =>
        rw [wb, if_pos rfl] at hw
        rw [Bool.true_and, ev5 hw]
        by_cases ck : k = "call"
        · rw [decide_eq_true ck, Bool.true_and, if_pos ck]
          subst ck
          by_cases cd : isDoor d = true ∧ 0 ≤ numOf n 4
          · rw [if_pos cd]
            have hn : numG n = some (numOf n 4) := if_pos cd.2
            rw [cd.1, hn, show (some (numOf n 4)).isSome = true from rfl, if_pos (show (true && true) = true from rfl)]
            show some (PyData.tuple [.tuple [.str (undash a), .str b], .str "call", .str d, intO (numG n)]) = _
            rw [hn]
            rfl
          · rw [if_neg cd]
            have : (isDoor d && (numG n).isSome) = false := by
              cases q1 : isDoor d with
              | false => rfl
              | true =>
                have hn : numG n = none := if_neg fun q2 => cd ⟨q1, q2⟩
                rw [hn]
                rfl
            rw [this, if_neg Bool.false_ne_true]
        · rw [decide_eq_false ck, Bool.false_and, if_neg Bool.false_ne_true, if_neg ck]
end K5
namespace K5
open PySem PySem.Spec PyProof.Rows L2
abbrev s__law_event_in : Stmt := topS 40
theorem sc__law_event_in : FnScope ["_law_line_here", "_law_words", "_law_wire", "_law_numbers", "_law_found"] ["_law_line_here"] (defScope s__law_event_in) := ⟨rfl, rfl, rfl, by decide +kernel, rfl, by decide +kernel, by decide +kernel⟩
def spEvIn : Sp := fun vs H Q _ => ∃ z : Str, vs = [.str z] ∧ z.length ≤ 14000 ∧ PyData.strOk z = true ∧ ∀ (H' : Hp) (x : V), Same H H' → OD H' x (evOf (rowWords z 0)) → Q x H'
theorem row0 (z : Str) : rowWords z 0 = cleanWords (Txt.split z " ") := by
  have m0 : margin 0 = "" := by decide +kernel
  have sw : Txt.startswith z "" = true := by
    have e : ("" : Str).length = 0 := by decide +kernel
    have e2 : ("" : Str).cps.toList = [] := by decide +kernel
    unfold Txt.startswith
    rw [StrLaws.subAt_eq, e, e2, List.take_zero, decide_eq_true (Nat.zero_le _)]
    rfl
  have ct : cutS z (some (("" : Str).length : Int)) none = z := by
    have e : ("" : Str).length = 0 := by decide +kernel
    rw [e]
    refine str_eq ?_
    show (z.cps.toList.drop (HT.sIx z.length 0 (some 0))).take (HT.sIx z.length z.length none - HT.sIx z.length 0 (some 0)) = _
    rw [show HT.sIx z.length 0 (some 0) = min 0 z.length from HT.sIx_nat _ _ 0, HT.sIx_none, Nat.zero_min, List.drop_zero, Nat.sub_zero]
    exact List.take_of_length_le (by rw [Array.length_toList]; exact Nat.le_refl _)
  unfold rowWords restWords
  rw [m0, sw, if_pos rfl, ct]
theorem in45 (n : Nat) : inV (.int (n : Nat)) [.int 4, .int 5] = (decide (n = 4) || decide (n = 5)) := by
  by_cases h3 : n = 4
  · subst h3
    decide
  · by_cases h4 : n = 5
    · subst h4
      decide
    · rw [decide_eq_false h3, decide_eq_false h4]
      have e : ∀ m : Int, (n : Int) ≠ m → eqV (.int m) (.int (n : Nat)) = false := fun m hm => by
        unfold eqV
        simp only [beq_eq_false_iff_ne, ne_eq, decide_eq_false_iff_not]
        omega
      show (eqV (.int 4) (.int (n : Nat)) || (eqV (.int 5) (.int (n : Nat)) || false)) = _
      rw [e 4 (by omega), e 5 (by omega)]
      rfl
theorem ev_few {ws : List Str} (h : ¬ (ws.length = 4 ∨ ws.length = 5)) : evOf (cleanWords ws) = none := by
  unfold cleanWords
  split
  · rfl
  · match ws, h with
    | [], _ => rfl
    | [_], _ => rfl
    | [_, _], _ => rfl
    | [_, _, _], _ => rfl
    | [_, _, _, _], h => exact absurd (.inl rfl) h
    | [_, _, _, _, _], h => exact absurd (.inr rfl) h
    | _ :: _ :: _ :: _ :: _ :: _ :: _, _ => rfl
theorem ev_gap {ws : List Str} (h : ws.length = 4 ∨ ws.length = 5) (e : ws.getD 1 "" = "") : evOf (cleanWords ws) = none := by
  have m : ("" : Str) ∈ ws := by
    match ws, h, e with
    | _ :: b :: _, _, e =>
      have e : b = "" := e
      rw [e]
      exact List.mem_cons_of_mem _ (List.mem_cons_self ..)
  unfold cleanWords
  rw [inV_strs, if_pos (decide_eq_true m)]
  rfl
theorem paired_mono {α β : Type} {F G : α → β → Prop} (fg : ∀ a b, F a b → G a b) : ∀ {xs : List α} {ys : List β}, Paired F xs ys → Paired G xs ys
  | _, _, .nil => .nil
  | _, _, .cons h t => .cons (fg _ _ h) (paired_mono fg t)
theorem paired_join {α β : Type} {F : α → β → Prop} {xs xs' : List α} {ys ys' : List β} (h : Paired F xs ys) (g : Paired F xs' ys') : Paired F (xs ++ xs') (ys ++ ys') := by
  induction h with
  | nil => exact g
  | cons e t ih => exact .cons e ih
theorem int_w : ∀ i : Fin 6, (okD (.int ((i.val : Int) - 2)) && decide (PyData.weight (.int ((i.val : Int) - 2)) ≤ 3)) = true := by decide +kernel
theorem intO_ok {o : Option Int} (h : ∀ i, o = some i → -2 ≤ i ∧ i < 4) : okD (intO o) = true ∧ (intO o).weight ≤ 3 ∧ (intO o).depth = 0 ∧ (intO o).hasDict = false := by
  cases o with
  | none => exact ⟨rfl, Nat.zero_le _, rfl, rfl⟩
  | some i =>
    obtain ⟨i0, i4⟩ := h i rfl
    have := int_w ⟨(i + 2).toNat, by omega⟩
    rw [show (((i + 2).toNat : Nat) : Int) - 2 = i by omega, Bool.and_eq_true] at this
    exact ⟨this.1, of_decide_eq_true this.2, rfl, rfl⟩
theorem dq_intO {H : Hp} (o : Option Int) : Dq H ((o.map V.int).getD .non) (intO o) := by
  cases o with
  | none => exact .non
  | some i => exact .int i
section
variable {P : Program} {w : World} {K : PySem.W.Frag} {mg : Str → Option Value} {base : Heap}
theorem ok_evin {f fE : Addr} {fd dE : FuncData} (B : Bt mg) (m_dict : mg "dict" = none) (D : Df K mg "_law_event_in" s__law_event_in f fd ["_law_line_here"]) (D__law_is_event : Df K mg "_law_is_event" s__law_is_event fE dE ["_law_thing"]) (G__law_is_event : FnG P w K mg base CX0 2 fE dE ["_law_thing"] spLEvent) :
    FnG P w K mg base CX0 3 f fd ["_law_line_here"] spEvIn := by
  refine okG D.F sc__law_event_in (fun vs H Q E h => ?_) (fun cdv A outer s H vs Q E gu hr h => ?_)
  · obtain ⟨z, rfl, _⟩ := h
    rfl
  · obtain ⟨z, rfl, zl, zo, k⟩ := h
    have S := sc__law_event_in
    refine ⟨_, (pss_cons (ps_set (i := 1) S.nd rfl (.inl rfl) (pe_bm PySem.F.plainAttrs_str PySem.F.slot_str_split PySem.F.type_str_split mt_split (pv 0) (pa_cons pe_str pa_nil)))
      (pss_cons (ps_if (pt_cmpR op_notIn_seq (pe_callB call_len_seq (by rfl) B.m_len PySem.boot_len (pa_cons (pv 1) pa_nil)) (pe_tup (pa_cons pe_int (pa_cons pe_int pa_nil))) (by rfl))
        (pss_one (ps_ret pe_non))
        pss_nil)
      (pss_cons (ps_set (i := 2) S.nd rfl (.inl rfl) (pe_tup (pa_cons (pe_ifExp (pt_cmpR op_eq (pe_ix ix_list (pv 1) pe_int (fun _ _ => rfl)) pe_str (nomark _)) pe_str (pe_ix ix_list (pv 1) pe_int (fun _ _ => rfl))) (pa_cons (pe_ix ix_list (pv 1) pe_int (fun _ _ => rfl)) pa_nil))))
      (pss_cons (ps_if (pt_cmpR op_eq (pe_ix ix_list (pv 1) pe_int (fun _ _ => rfl)) pe_str (nomark _))
        (pss_one (ps_ret pe_non))
        pss_nil)
      (pss_cons (ps_set (i := 3) S.nd rfl (.inl rfl) (pe_disp (pps_cons pe_str pe_int (pps_cons pe_str pe_int (pps_cons pe_str pe_int (pps_cons pe_str pe_int pps_nil)))) (by rfl) (by rfl) (by simp) (by decide)))
      (pss_cons (ps_if (pt_cmpR op_eq (pe_callB call_len_seq (by rfl) B.m_len PySem.boot_len (pa_cons (pv 1) pa_nil)) pe_int (nomark _))
        (pss_one (ps_set (i := 4) S.nd rfl (.inl rfl) (pe_tup (pa_cons (pv 2) (pa_cons (pe_ix ix_list (pv 1) pe_int (fun _ _ => rfl)) (pa_cons (pe_ix ix_list (pv 1) pe_int (fun _ _ => rfl)) (pa_cons (pe_dget1 (by exact Nat.lt_of_le_of_lt (Nat.add_le_add_left (by decide) _) hr.units) (pv 3) (pe_ix ix_list (pv 1) pe_int (fun _ _ => rfl)) ⟨rfl, rfl, rfl, rfl⟩) pa_nil)))))))
        (pss_one (ps_set (i := 4) S.nd rfl (.inl rfl) (pe_tup (pa_cons (pv 2) (pa_cons (pe_ix ix_list (pv 1) pe_int (fun _ _ => rfl)) (pa_cons (pe_dget1 (by exact Nat.lt_of_le_of_lt (Nat.add_le_add_left (by decide) _) hr.units) (pe_callTy (call_dictP rfl) (by rfl) m_dict (by decide +kernel) (pa_cons (pe_op op_cat (LiI.pe_listItems (by rfl) (pv 3) (by rfl) B.m_list PyProof.Rows.boot_list) (pe_lst (pa_cons (pe_tup (pa_cons pe_str (pa_cons (pe_un un_neg pe_int) pa_nil))) (pa_cons (pe_tup (pa_cons pe_str (pa_cons (pe_un un_neg pe_int) pa_nil))) pa_nil)))) pa_nil)) (pe_ix ix_list (pv 1) pe_int (fun _ _ => rfl)) ⟨rfl, rfl, rfl, rfl⟩) pa_nil)))))))
      (pss_one (ps_ret (pe_ifExp (pt_val (pe_callG G__law_is_event gu (hr.mono (by decide)) (by rfl) D__law_is_event.g D__law_is_event.F.kp D__law_is_event.b pass0 (pa_cons (pv 4) pa_nil))) (pv 4) pe_non))))))))), ?_⟩
    rw [row0] at k
    try dsimp only [tSeq, tAsg]
    refine bm_run (x := .str z) (val_var rfl) rfl ?_
    try dsimp only [tCons, tNil]
    refine val_c _ ⟨z, " ", rfl, rfl, by decide +kernel, big_size (by omega), fun lp nlp => ?_⟩
    have wl : ∀ y ∈ Txt.split z " ", y.length ≤ 14000 ∧ PyData.strOk y = true := fun y hy => ⟨Nat.le_trans (split_len hy) zl, split_ok hy zo⟩
    have s1 := same_upd (o := .lst ((Txt.split z " ").map V.str)) nlp
    have hl : (upd H lp (.lst ((Txt.split z " ").map V.str))) lp = some (.lst ((Txt.split z " ").map V.str)) := upd_same
    generalize (upd H lp (.lst ((Txt.split z " ").map V.str))) = H1 at s1 hl ⊢
    generalize Txt.split z " " = ws at *
    try dsimp only [gName, tSeq, tIfS, tTest, tOp, tTup, tCons, tNil]
    refine (val_lenL (K := K) (val_var rfl) (SqL.of hl)) _ (val_c _ (val_c _ ⟨by show 2 ≤ sizeLine; decide, fun u nu => ?_⟩))
    have s2 := same_upd (o := .tup [.int 4, .int 5]) nu
    have hl2 := s2 _ _ hl
    refine ⟨u, _, rfl, .inr (SqT.of upd_same), rfl, rfl, _, rfl, ?_⟩
    generalize (upd H1 u (.tup [.int 4, .int 5])) = H2 at s2 hl2 ⊢
    have s02 := s1.trans s2
    clear s1 s2 hl nu nlp
    rw [if_pos rfl, in45, List.length_map]
    by_cases c : ws.length = 4 ∨ ws.length = 5
    · rw [show (decide (ws.length = 4) || decide (ws.length = 5)) = true by
        rcases c with e | e
        · rw [decide_eq_true e]
          rfl
        · rw [decide_eq_true e, Bool.or_true]]
      refine iteF ?_
      obtain ⟨kd, a, b, r, rfl⟩ : ∃ kd a b r, ws = kd :: a :: b :: r := by
        match ws, c with
        | kd :: a :: b :: r, _ => exact ⟨kd, a, b, r, rfl⟩
        | [_, _], c => rcases c with c | c <;> cases c
        | [_], c => rcases c with c | c <;> cases c
        | [], c => rcases c with c | c <;> cases c
      have hS : ∀ H' : Hp, Same H2 H' → SqL K H' lp ((kd :: a :: b :: r).map V.str) := fun H' s => SqL.of (s _ _ hl2)
      have vx : ∀ (i : Nat) (y : Str), (kd :: a :: b :: r)[i]? = some y → ∀ (H' : Hp), Same H2 H' → ∀ σ : L2.St, σ[1]? = some (some (.ref lp)) → Val (tOp (rIxL K) (tVar 1) (tC (.int (i : Nat)))) σ H' (.str y) := fun i y h H' s σ h0 =>
        val_ixL (val_var h0) val_c (hS H' s) (atI_nat (j := i) (by rw [List.getElem?_map, h]; rfl))
      have r0 : Same H2 H2 := Same.refl _
      try dsimp only [tNext, tSeq, tAsg]
      try dsimp only [tTup, tCons, tNil]
      refine (val_ite (ans_eq2 (vx 1 a rfl _ r0 _ rfl) val_c rfl) (fun _ => val_c) fun _ => vx 1 a rfl _ r0 _ rfl) _ ?_
      have eu : (if decide (V.str a = V.str "-") = true then V.str "" else V.str a) = V.str (undash a) := by
        unfold undash
        by_cases ca : a = "-"
        · rw [ca, if_pos rfl, if_pos (decide_eq_true rfl)]
        · rw [if_neg ca, if_neg (by rw [decide_eq_false fun z => ca (by injection z)]; exact Bool.false_ne_true)]
      rw [eu]
      refine (vx 2 b rfl _ r0 _ rfl) _ ⟨by show 2 ≤ sizeLine; decide, fun wr nwr => ?_⟩
      have s3 := same_upd (o := .tup [.str (undash a), .str b]) nwr
      have hw : (upd H2 wr (.tup [.str (undash a), .str b])) wr = some (.tup [.str (undash a), .str b]) := upd_same
      generalize (upd H2 wr (.tup [.str (undash a), .str b])) = H3 at s3 hw ⊢
      try dsimp only [gName, tSeq, tIfS]
      refine (ans_eq2 (vx 1 a rfl _ s3 _ rfl) val_c rfl) _ ?_
      by_cases na : a = ""
      · rw [decide_eq_true (show V.str a = V.str "" by rw [na])]
        refine iteT (val_c _ (k _ _ (s02.trans s3) ?_))
        rw [ev_gap c na]
        rfl
      · rw [decide_eq_false (show ¬ V.str a = V.str "" from fun z => na (by injection z))]
        refine iteF ?_
        have key := law_ev (ws := kd :: a :: b :: r) c na
        have lx : ∀ y ∈ kd :: a :: b :: r, y.length ≤ 14000 ∧ PyData.strOk y = true := wl
        have ou : (undash a).length ≤ 14000 ∧ PyData.strOk (undash a) = true := by
          unfold undash
          split
          · exact ⟨by decide +kernel, by decide +kernel⟩
          · exact lx a (by simp)
        have ob := lx b (by simp)
        have ok_ := lx kd (by simp)
        have okS : ∀ y : Str, y.length ≤ 14000 ∧ PyData.strOk y = true → okD (.str y) = true := fun y h => by
          show (decide (y.length ≤ 14000) && PyData.strOk y) = true
          rw [decide_eq_true h.1, h.2]
          rfl
        -- the end
        have fin : ∀ (H5 : Hp) (fr : Addr) (d3 : Option V), Same H2 H5 → Dq H5 (.ref fr) (fndOf (kd :: a :: b :: r)) → SzD (fndOf (kd :: a :: b :: r)) →
            tRet (tIf (tB (tCall spLEvent [] E0 (tCons (tVar 4) tNil))) (tVar 4) (tC .non)) { nx := fun _ H' => Q .non H', rt := Q } [some (.str z), some (.ref lp), some (.ref wr), d3, some (.ref fr)] H5 := by
          intro H5 fr d3 s5 dq sz
          try dsimp only [tRet, tIf, tB, tCall, tCons, tNil]
          refine (val_var rfl) _ ⟨.ref fr, _, rfl, dq, sz, fun H6 s6 => ⟨_, rfl, ?_⟩⟩
          have s06 : Same H H6 := s02.trans (s5.trans s6)
          cases ce : eventB (fndOf (kd :: a :: b :: r)) with
          | true =>
            rw [ce, if_pos rfl] at key
            refine iteT ((val_var rfl) _ (k _ _ s06 ?_))
            rw [← key]
            exact ⟨Dq.mono s6 _ dq, fun e => nomatch e⟩
          | false =>
            rw [ce, if_neg Bool.false_ne_true] at key
            refine iteF (val_c _ (k _ _ s06 ?_))
            rw [← key]
            rfl
        try dsimp only [tNext, tSeq, tAsg]
        try dsimp only [tDisp, tPairs]
        refine fun g ng => ?_
        have s4 := same_upd (o := .dK []) ng
        have hg : (upd H3 g (.dK [])) g = some (.dK []) := upd_same
        have gl : ∀ {x : Addr} {o : HO}, H3 x = some o → x ≠ g := fun e => ne_of_none e ng
        generalize (upd H3 g (.dK [])) = H4 at s4 hg ⊢
        refine val_c _ (val_c _ (val_c _ (val_c _ (val_c _ (val_c _ (val_c _ (val_c _ ⟨hg, numsK, rfl, Nat.le_of_ble_eq_true rfl, ?_⟩)))))))
        have hg5 : (upd H4 g (.dK (mergeK [] numsK))) g = some (.dK numsK) := upd_same
        have k5 : Same H3 (upd H4 g (.dK (mergeK [] numsK))) := fun x o e => by
          rw [upd_ne (gl e)]
          exact s4 _ _ e
        generalize (upd H4 g (.dK (mergeK [] numsK))) = H5 at hg5 k5 ⊢
        have s25 := s3.trans k5
        have hw5 := k5 _ _ hw
        try dsimp only [gName, tSeq, tIfS]
        refine (ans_eq2 (val_lenL (val_var rfl) (hS H5 s25)) val_c rfl) _ ?_
        rcases c with c4 | c5
        · obtain ⟨x, rfl⟩ := List.length_eq_one_iff.mp (show r.length = 1 by simpa using c4)
          refine iteF ?_
          have ox := lx x (by simp)
          obtain ⟨q1, q2, q3, q4⟩ := intO_ok (o := ansOf x) fun i hi => ansOf_in hi
          try dsimp only [tAsg, tTup, tDGet1, tCB, tOp, tLst, tCons, tNil, LiI.tListItems]
          refine (val_var rfl) _ ((vx 0 kd rfl _ s25 _ rfl) _ ?_)
          refine (val_var rfl) _ ⟨g, numsK, rfl, hg5, fun Ha pa tsa ka npa nta pna hpa pra => ?_⟩
          have la : tsa.length = 4 := Paired.length pra
          refine val_c _ (val_c _ ⟨1, rfl, by show 2 ≤ sizeLine; decide, fun t1 nt1 => ?_⟩)
          have e1 := same_upd (o := .tup [.str "lost", .int (-1)]) nt1
          have h1 : (upd Ha t1 (.tup [.str "lost", .int (-1)])) t1 = some (.tup [.str "lost", .int (-1)]) := upd_same
          generalize (upd Ha t1 (.tup [.str "lost", .int (-1)])) = Hb at e1 h1 ⊢
          refine val_c _ (val_c _ ⟨2, rfl, by show 2 ≤ sizeLine; decide, fun t2 nt2 => ?_⟩)
          have e2 := same_upd (o := .tup [.str "busy", .int (-2)]) nt2
          have h2 : (upd Hb t2 (.tup [.str "busy", .int (-2)])) t2 = some (.tup [.str "busy", .int (-2)]) := upd_same
          generalize (upd Hb t2 (.tup [.str "busy", .int (-2)])) = Hc at e2 h2 ⊢
          refine ⟨by show 2 ≤ sizeLine; decide, fun lb nlb => ?_⟩
          have e3 := same_upd (o := .lst [.ref t1, .ref t2]) nlb
          have h3 : (upd Hc lb (.lst [.ref t1, .ref t2])) lb = some (.lst [.ref t1, .ref t2]) := upd_same
          generalize (upd Hc lb (.lst [.ref t1, .ref t2])) = Hd at e3 h3 ⊢
          have ead : Same Ha Hd := e1.trans (e2.trans e3)
          refine ⟨pa, lb, _, _, rfl, rfl, ead _ _ hpa, h3, by rw [List.length_map, la]; exact (show 4 + 2 ≤ sizeLine by decide), fun lc nlc => ?_⟩
          have e4 := same_upd (o := .lst (tsa.map V.ref ++ [.ref t1, .ref t2])) nlc
          have hlc : (upd Hd lc (.lst (tsa.map V.ref ++ [.ref t1, .ref t2]))) lc = some (.lst ((tsa ++ [t1, t2]).map V.ref)) := by
            rw [upd_same, List.map_append]
            rfl
          generalize (upd Hd lc (.lst (tsa.map V.ref ++ [.ref t1, .ref t2]))) = He at e4 hlc ⊢
          have eae : Same Ha He := ead.trans e4
          have p1 := e4 _ _ (e3 _ _ (e2 _ _ h1))
          have p2 := e4 _ _ (e3 _ _ h2)
          have pr : Paired (fun p (kv : Key × V) => SqT K He p [kV kv.1, kv.2]) (tsa ++ [t1, t2]) ansK := by
            have g1 : Paired (fun p (kv : Key × V) => SqT K He p [kV kv.1, kv.2]) tsa numsK := paired_mono (fun x q e => SqT.of (eae _ _ e)) pra
            have g2 : Paired (fun p (kv : Key × V) => SqT K He p [kV kv.1, kv.2]) [t1, t2] [((.inr "lost" : Key), .int (-1)), (.inr "busy", .int (-2))] := .cons (SqT.of p1) (.cons (SqT.of p2) .nil)
            exact paired_join g1 g2
          refine ⟨lc, tsa ++ [t1, t2], ansK, rfl, SqL.of hlc, pr, fun g2 ng2 => ?_⟩
          have hg2 : (upd He g2 (.dK (mergeK [] ansK))) g2 = some (.dK ansK) := upd_same
          have e5 := same_upd (o := .dK (mergeK [] ansK)) ng2
          generalize (upd He g2 (.dK (mergeK [] ansK))) = Hf at hg2 e5 ⊢
          have e5f : Same H5 Hf := fun x o e => e5 _ _ (eae _ _ (ka _ _ e))
          have s2f := s25.trans e5f
          refine ⟨g2, rfl, .inl ⟨_, .inl hg2⟩, ?_⟩
          refine (vx 3 x rfl _ s2f _ rfl) _ ⟨_, DGet.k (k := .inr x) hg2, ?_⟩
          rw [ans_at]
          refine ⟨by show 3 ≤ sizeLine; decide, fun fr nfr => ?_⟩
          have s6 := same_upd (o := .tup [.ref wr, .str kd, ((ansOf x).map V.int).getD .non]) nfr
          refine fin _ fr _ (s2f.trans s6) (.tup upd_same (.cons (.tup (s6 _ _ (e5f _ _ hw5)) (.cons (.str _) (.cons (.str _) .nil))) (.cons (.str _) (.cons (dq_intO _) .nil)))) ⟨?_, ?_, ?_, ?_⟩
          · show ((okD (.str (undash a)) && (okD (.str b) && true)) && (okD (.str kd) && (okD (intO (ansOf x)) && true))) = true
            rw [okS _ ou, okS _ ob, okS _ ok_, q1]
            rfl
          · show ((undash a).length + 1 + (b.length + 1 + 0)) + 1 + (kd.length + 1 + ((intO (ansOf x)).weight + 1 + 0)) ≤ 1000000
            have := ou.1
            have := ob.1
            have := ok_.1
            omega
          · show max (max 0 (max 0 0) + 1) (max 0 (max ((intO (ansOf x)).depth) 0)) + 1 ≤ 50
            rw [q3]
            decide
          · intro e
            have e : ((false || (false || false)) || (false || ((intO (ansOf x)).hasDict || false))) = true := e
            rw [q4] at e
            cases e
        · obtain ⟨d, n, rfl⟩ := two_of (show r.length = 2 by simpa using c5)
          refine iteT ?_
          have od := lx d (by simp)
          obtain ⟨q1, q2, q3, q4⟩ := intO_ok (o := numG n) fun i hi => by
            have := numG_in hi
            omega
          try dsimp only [tAsg, tTup, tDGet1, tCons, tNil]
          refine (val_var rfl) _ ((vx 0 kd rfl _ s25 _ rfl) _ ((vx 3 d rfl _ s25 _ rfl) _ ?_))
          refine (val_var rfl) _ ⟨g, rfl, .inl ⟨_, .inl hg5⟩, ?_⟩
          refine (vx 4 n rfl _ s25 _ rfl) _ ⟨_, DGet.k (k := .inr n) hg5, ?_⟩
          rw [nums_at]
          refine ⟨by show 4 ≤ sizeLine; decide, fun fr nfr => ?_⟩
          have s6 := same_upd (o := .tup [.ref wr, .str kd, .str d, ((numG n).map V.int).getD .non]) nfr
          refine fin _ fr _ (s25.trans s6) (.tup upd_same (.cons (.tup (s6 _ _ hw5) (.cons (.str _) (.cons (.str _) .nil))) (.cons (.str _) (.cons (.str _) (.cons (dq_intO _) .nil))))) ⟨?_, ?_, ?_, ?_⟩
          · show ((okD (.str (undash a)) && (okD (.str b) && true)) && (okD (.str kd) && (okD (.str d) && (okD (intO (numG n)) && true)))) = true
            rw [okS _ ou, okS _ ob, okS _ ok_, okS _ od, q1]
            rfl
          · show ((undash a).length + 1 + (b.length + 1 + 0)) + 1 + (kd.length + 1 + (d.length + 1 + ((intO (numG n)).weight + 1 + 0))) ≤ 1000000
            have := ou.1
            have := ob.1
            have := ok_.1
            have := od.1
            omega
          · show max (max 0 (max 0 0) + 1) (max 0 (max 0 (max ((intO (numG n)).depth) 0))) + 1 ≤ 50
            rw [q3]
            decide
          · intro e
            have e : ((false || (false || false)) || (false || (false || ((intO (numG n)).hasDict || false)))) = true := e
            rw [q4] at e
            cases e
    · rw [show (decide (ws.length = 4) || decide (ws.length = 5)) = false by
        rw [decide_eq_false fun e => c (.inl e), decide_eq_false fun e => c (.inr e)]
        rfl]
      refine iteT (val_c _ (k _ _ s02 ?_))
      rw [ev_few c]
      rfl
end
end K5
namespace K5
open PySem PySem.Spec PyProof.Rows L2
/-! ### what is due of a page -/
section
variable {K : PySem.W.Frag} {σ : L2.St} {H : Hp} {p : Addr} {j : Nat} {Q : VK}
theorem takeA {ds : List PyData} {m : Nat} (h : listInA ds = false) : listInA (ds.take m) = false := by
  induction ds generalizing m with
  | nil => cases m <;> rfl
  | cons d ds ih =>
    have h : (listIn d || listInA ds) = false := h
    rw [Bool.or_eq_false_iff] at h
    cases m with
    | zero => rfl
    | succ m =>
      show (listIn d || listInA (ds.take m)) = false
      rw [h.1, ih h.2]
      rfl
theorem lc_relL {te : TE} {g : TG} {tv : TE} {vs : List Nat} {xs : List V} {zs : List PyData} (hv : ∀ R : VK, (∀ H1 p, Same H H1 → H1 p = some (.lst xs) → R (.ref p) H1) → te σ H R) (len : xs.length = zs.length) (few : zs.length ≤ 100000) (nl : listInA zs = false)
    (turn : ∀ (i : Nat) (x : V) (d : PyData) (H' : Hp), xs[i]? = some x → zs[i]? = some d → Same H H' → ∃ σ2 : L2.St, (∀ P : L2.St → Hp → Prop, P σ2 H' → g x (wipe σ vs) H' P) ∧ wipe σ2 vs = wipe σ vs ∧ ∀ R : VK, (∀ H'' y, Same H' H'' → Dq H'' y d → R y H'') → tv σ2 H' R)
    (k : ∀ (H' : Hp) (q : Addr) (ys : List V), Same H H' → H' q = some (.lst ys) → DqA H' ys zs → Q (.ref q) H') : tLc (iList K te) g tYes tv vs σ H Q := by
  try dsimp only [tLc, iList]
  refine hv _ fun H1 p s0 hp => ⟨p, rfl, ⟨_, SqL.of hp⟩, fun L nL => ?_⟩
  refine lc_list (K := K) (a := p) (xs := xs) (fun k H' => Same H1 H' ∧ ∃ ys, H' L = some (.lst ys) ∧ DqA H' ys (zs.take k)) ⟨same_upd nL, [], upd_same, .nil⟩ (fun k H' _ h => SqL.of (h.1 _ _ hp)) (fun m x H' hx h => ?_) fun H' h => ?_
  · obtain ⟨s2, ys, hL, dA⟩ := h
    have hm : m < zs.length := by
      have := (List.getElem?_eq_some_iff.mp hx).1
      omega
    obtain ⟨σ2, h1, h2, h3⟩ := turn m x zs[m] H' hx (List.getElem?_eq_getElem hm) (s0.trans s2)
    refine h1 _ ⟨h2, ?_⟩
    show tv σ2 H' _
    refine h3 _ fun H'' y s dq => ⟨_, s _ _ hL, ?_, fun b o e => ?_, ys ++ [y], upd_same, ?_⟩
    · rw [dA.len]
      exact Nat.lt_of_le_of_lt (List.length_take_le ..) (Nat.lt_of_le_of_lt (by omega : m ≤ 100000) (by decide))
    · rw [upd_ne (ne_of_none e nL)]
      exact s _ _ (s2 _ _ e)
    · rw [snocV (List.getElem?_eq_getElem hm)]
      refine DqA.tk (TK.but (SameBut.upd L H'' _) (s _ _ hL) (fun _ e => nomatch e) (fun e => nomatch e)) _ ?_ (DqA.app (DqA.mono s _ dA) (.cons dq .nil))
      rw [← snocV (List.getElem?_eq_getElem hm)]
      exact takeA nl
  · obtain ⟨s2, ys, hL, dA⟩ := h
    rw [len, List.take_length] at dA
    exact k H' L ys (s0.trans s2) hL dA
end
def optD : Option PyData → PyData
  | none => .none
  | some d => d
theorem OD.dq {H : Hp} {x : V} {o : Option PyData} (h : OD H x o) : Dq H x (optD o) := by
  cases o with
  | none =>
    have h : x = .non := h
    rw [h]
    exact .non
  | some d => exact h.1
def dueD : Except Nat (List PyData) → PyData
  | .ok ds => .tuple [.str "run", .tuple ds]
  | .error e => .tuple [.str "line", .int (e : Nat)]
theorem evs_spec : ∀ (rows : List Str) (n : Nat), (∃ j, (rows.map fun r => evOf (rowWords r 0))[j]? = some none ∧ (∀ m, m < j → (rows.map fun r => evOf (rowWords r 0))[m]? ≠ some none) ∧ evs rows n = .error (n + j)) ∨
    ∃ ds, (rows.map fun r => evOf (rowWords r 0)) = ds.map some ∧ evs rows n = .ok ds
  | [], n => .inr ⟨[], rfl, rfl⟩
  | r :: rs, n => by
    have e : evs (r :: rs) n = match evOf (rowWords r 0) with
      | none => .error n
      | some d => match evs rs (n + 1) with
        | .ok l => .ok (d :: l)
        | .error e => .error e := rfl
    rw [e]
    cases h : evOf (rowWords r 0) with
    | none => exact .inl ⟨0, by rw [List.map_cons, h]; rfl, fun m hm => absurd hm (Nat.not_lt_zero _), rfl⟩
    | some d =>
      rcases evs_spec rs (n + 1) with ⟨j, h1, h2, h3⟩ | ⟨ds, h1, h2⟩
      · refine .inl ⟨j + 1, by rw [List.map_cons]; exact h1, fun m hm => ?_, ?_⟩
        · cases m with
          | zero =>
            rw [List.map_cons, h]
            intro c
            cases c
          | succ m =>
            rw [List.map_cons]
            exact h2 m (by omega)
        · rw [h3]
          show Except.error (n + 1 + j) = Except.error (n + (j + 1))
          rw [Nat.add_assoc, Nat.add_comm 1 j]
      · refine .inr ⟨d :: ds, by rw [List.map_cons, h, h1]; rfl, ?_⟩
        rw [h2]
abbrev s__law_read_due : Stmt := topS 42
theorem sc__law_read_due : FnScope ["_law_page", "_law_found", "_law_line_here"] ["_law_page"] (defScope s__law_read_due) := ⟨rfl, rfl, rfl, by decide +kernel, rfl, by decide +kernel, by decide +kernel⟩
def spReadDue : Sp := fun vs H Q _ => ∃ z : Str, vs = [.str z] ∧ z.length ≤ 14000 ∧ PyData.strOk z = true ∧ ∀ (H' : Hp) (x : V), Same H H' → Dq H' x (dueD (readR z)) → Q x H'
end K5
namespace K5
open PySem PySem.Spec PyProof.Rows L2
mutual
theorem Dq.dp {K : PySem.W.Frag} {H : Hp} : ∀ (d : PyData) {v : V}, d.hasDict = false → Dq H v d → Dp K H v d
  | .none, _, _, h => by cases h; exact .non
  | .bool b, _, _, h => by cases h; exact .bl b
  | .int i, _, _, h => by cases h; exact .int i
  | .str x, _, _, h => by cases h; exact .str x
  | .list ds, _, e, h => by
    cases h with
    | lst h a => exact .lst (SqL.of h) (DqA.dp ds e a)
  | .tuple ds, _, e, h => by
    cases h with
    | tup h a => exact .tup (SqT.of h) (DqA.dp ds e a)
  | .dict kvs, _, e, h => by cases e
theorem DqA.dp {K : PySem.W.Frag} {H : Hp} : ∀ (ds : List PyData) {vs : List V}, PyData.hasDictAll ds = false → DqA H vs ds → DpAll K H vs ds
  | [], _, _, h => by cases h; exact .nil
  | d :: ds, _, e, h => by
    have e : (PyData.hasDict d || PyData.hasDictAll ds) = false := e
    rw [Bool.or_eq_false_iff] at e
    cases h with
    | cons a b => exact .cons (Dq.dp d e.1 a) (DqA.dp ds e.2 b)
end
/-- what is read of a line is flat data -/
structure EvD (d : PyData) : Prop where
  l : listIn d = false
  h : d.hasDict = false
  c : d.canLay0 = true
  p : d.depth ≤ 2
  n : PyData.eqv d .none = false
theorem ev_flat {z : Str} {d : PyData} (zo : PyData.strOk z = true) (h : evOf (rowWords z 0) = some d) : EvD d := by
  have hw : ∀ y ∈ rowWords z 0, PyData.strOk y = true := fun y hy => by
    rw [row0] at hy
    unfold cleanWords at hy
    split at hy
    · cases hy
    · exact split_ok hy zo
  have us : ∀ {a b : Str} {q : Str × Str}, wireOf [a, b] = some q → PyData.strOk a = true → PyData.strOk b = true → PyData.strOk q.1 = true ∧ PyData.strOk q.2 = true := fun {a b q} e ha hb => by
    rw [wire2] at e
    split at e
    · split at e
      · cases e
        exact ⟨show PyData.strOk ("" : Str) = true by decide +kernel, hb⟩
      · split at e
        · cases e
          exact ⟨ha, hb⟩
        · cases e
    · cases e
  unfold evOf at h
  split at h
  · rename_i k a b d' n e
    have o := hw
    rw [e] at o
    split at h
    · cases h
    · rename_i q hq
      split at h
      · split at h
        · cases h
          obtain ⟨o1, o2⟩ := us hq (o a (by simp)) (o b (by simp))
          refine ⟨rfl, rfl, ?_, by show max (max 0 (max 0 0) + 1) (max 0 (max 0 (max 0 0))) + 1 ≤ 2; decide, rfl⟩
          show ((PyData.strOk q.1 && (PyData.strOk q.2 && true)) && (PyData.strOk "call" && (PyData.strOk d' && (true && true)))) = true
          rw [o1, o2, o d' (by simp), show PyData.strOk "call" = true by decide +kernel]
          rfl
        · cases h
      · cases h
  · rename_i k a b x e
    have o := hw
    rw [e] at o
    split at h
    · cases h
    · rename_i q hq
      split at h
      · split at h
        · cases h
        · cases h
          obtain ⟨o1, o2⟩ := us hq (o a (by simp)) (o b (by simp))
          refine ⟨rfl, rfl, ?_, by show max (max 0 (max 0 0) + 1) (max 0 (max 0 0)) + 1 ≤ 2; decide, rfl⟩
          show ((PyData.strOk q.1 && (PyData.strOk q.2 && true)) && (PyData.strOk "answer" && (true && true))) = true
          rw [o1, o2, show PyData.strOk "answer" = true by decide +kernel]
          rfl
      · cases h
  · cases h
def osOf (z : Str) : List (Option PyData) := (rowsOf z).map fun r => evOf (rowWords r 0)
theorem all_flat {z : Str} (zo : PyData.strOk z = true) : ∀ o ∈ osOf z, ∀ d, o = some d → EvD d := fun o ho d e => by
  obtain ⟨r, hr, rfl⟩ := List.mem_map.mp ho
  exact ev_flat (split_ok hr zo) e
theorem data_flat : ∀ {os : List (Option PyData)}, (∀ o ∈ os, ∀ d, o = some d → EvD d) → listInA (os.map optD) = false ∧ PyData.hasDictAll (os.map optD) = false ∧ PyData.canLayAll0 (os.map optD) = true ∧ PyData.depthAll (os.map optD) ≤ 2
  | [], _ => ⟨rfl, rfl, rfl, Nat.zero_le _⟩
  | o :: os, h => by
    obtain ⟨h1, h2, h3, h4⟩ := data_flat (os := os) fun p hp => h p (List.mem_cons_of_mem _ hp)
    have f : listIn (optD o) = false ∧ (optD o).hasDict = false ∧ (optD o).canLay0 = true ∧ (optD o).depth ≤ 2 := by
      cases o with
      | none => exact ⟨rfl, rfl, rfl, Nat.zero_le _⟩
      | some d =>
        have q := h (some d) (List.mem_cons_self ..) d rfl
        exact ⟨q.l, q.h, q.c, q.p⟩
    refine ⟨?_, ?_, ?_, ?_⟩
    · show (listIn (optD o) || listInA (os.map optD)) = false
      rw [f.1, h1]
      rfl
    · show (PyData.hasDict (optD o) || PyData.hasDictAll (os.map optD)) = false
      rw [f.2.1, h2]
      rfl
    · show (PyData.canLay0 (optD o) && PyData.canLayAll0 (os.map optD)) = true
      rw [f.2.2.1, h3]
      rfl
    · show max (PyData.depth (optD o)) (PyData.depthAll (os.map optD)) ≤ 2
      have := f.2.2.2
      omega
theorem eqv_none {os : List (Option PyData)} (h : ∀ o ∈ os, ∀ d, o = some d → EvD d) {j : Nat} {o : Option PyData} (hj : os[j]? = some o) : PyData.eqv (optD o) .none = decide (o = none) := by
  cases o with
  | none => rfl
  | some d =>
    rw [show optD (some d) = d from rfl, (h _ (List.mem_of_getElem? hj) d rfl).n]
    exact (decide_eq_false fun e => nomatch e).symm
section
variable {P : Program} {w : World} {K : PySem.W.Frag} {mg : Str → Option Value} {base : Heap}
theorem ok_readdue {f fE : Addr} {fd dE : FuncData} (B : Bt mg) (D : Df K mg "_law_read_due" s__law_read_due f fd ["_law_page"]) (D__law_event_in : Df K mg "_law_event_in" s__law_event_in fE dE ["_law_line_here"]) (G__law_event_in : FnG P w K mg base CX0 3 fE dE ["_law_line_here"] spEvIn) :
    FnG P w K mg base CX0 4 f fd ["_law_page"] spReadDue := by
  refine okG D.F sc__law_read_due (fun vs H Q E h => ?_) (fun cdv A outer s H vs Q E gu hr h => ?_)
  · obtain ⟨z, rfl, _⟩ := h
    rfl
  · obtain ⟨z, rfl, zl, zo, k⟩ := h
    have S := sc__law_read_due
    have hu65 : (A.deeper (envOfC "_law_read_due" (defScope s__law_read_due) s.heap.objs.size f cdv)).units + 65 < cLine := by
      have := hr.un
      omega
    refine ⟨_, (pss_cons (ps_if (pt_cmpR op_eq (pv 0) pe_str (nomark _))
        (pss_one (ps_ret (pe_tup (pa_cons pe_str (pa_cons (pe_tup pa_nil) pa_nil)))))
        pss_nil)
      (pss_cons (ps_setLc (i := 1) (own := [("_law_line_here", 2)]) (g := gName 2) (by rfl) S.nd rfl rfl (sw_true rfl rfl rfl (by decide +kernel)) (pi_list (pe_bm PySem.F.plainAttrs_str PySem.F.slot_str_split PySem.F.type_str_split mt_split (pv 0) (pa_cons pe_str pa_nil))) (blkOk_by (own := [("_law_line_here", 2)]) (N := ["_law_page", "_law_found", "_law_line_here"]) (sc := defScope s__law_read_due) (by decide +kernel)) (fun _ _ _ _ _ => pg_name (i := 2) S.nd rfl (Or.inl rfl)) (fun _ _ _ _ _ => pts_nil) (fun _ _ _ _ _ => pe_callG G__law_event_in gu (hr.mono (by decide)) (by rfl) D__law_event_in.g D__law_event_in.F.kp D__law_event_in.b pass0 (pa_cons (pv 2) pa_nil)))
      (pss_one (ps_ret (pe_ifExp (pt_cmpR (op_inD (by exact hu65)) pe_non (pv 1) (by rfl)) (pe_tup (pa_cons pe_str (pa_cons (pe_bm PySem.F.plainAttrs_list PySem.F.slot_list_index PySem.F.type_list_index (mt_indexD (by exact hu65)) (pv 1) (pa_cons pe_non pa_nil)) pa_nil))) (pe_tup (pa_cons pe_str (pa_cons (pe_tupleOf (by rfl) B.m_tuple (pv 1)) pa_nil)))))))), ?_⟩
    try dsimp only [tSeq, tIfS]
    refine (ans_eq2 (val_var rfl) val_c rfl) _ ?_
    by_cases z0 : z = ""
    · subst z0
      rw [decide_eq_true rfl]
      refine iteT ?_
      try dsimp only [tRet, tTup, tCons, tNil]
      refine val_c _ ⟨Nat.zero_le _, fun a na => ?_⟩
      have s1 := same_upd (o := .tup []) na
      have ha : (upd H a (.tup [])) a = some (.tup []) := upd_same
      generalize (upd H a (.tup [])) = H1 at s1 ha ⊢
      refine ⟨by show 2 ≤ sizeLine; decide, fun b nb => ?_⟩
      have s2 := same_upd (o := .tup [.str "run", .ref a]) nb
      refine k _ _ (s1.trans s2) ?_
      exact .tup upd_same (.cons (.str _) (.cons (.tup (s2 _ _ ha) .nil) .nil))
    · rw [decide_eq_false (show ¬ V.str z = V.str "" from fun e => z0 (by injection e))]
      refine iteF ?_
      have hrd : readR z = evs (rowsOf z) 0 := if_neg z0
      rw [hrd] at k
      have rsz := sz_rows zl zo
      have rl : (rowsOf z).length ≤ 14001 := rsz.len
      obtain ⟨f1, f2, f3, f4⟩ := data_flat (all_flat zo)
      try dsimp only [tNext, tSeq, tAsg]
      have nlC : ("\n" : Str).length = 1 := by decide +kernel
      refine lc_relL (xs := (rowsOf z).map V.str) (zs := (osOf z).map optD) (fun R hR => ?_) (by unfold osOf; rw [List.length_map, List.length_map, List.length_map]) (by unfold osOf; rw [List.length_map, List.length_map]; omega) f1 (fun i x d H' hx hd s => ?_) fun H1 q ys s1 hq dA => ?_
      · refine bm_run (x := .str z) (val_var rfl) rfl ?_
        try dsimp only [tCons, tNil]
        exact val_c _ ⟨z, "\n", rfl, rfl, by decide +kernel, big_size (by omega), fun lp nlp => hR _ lp (same_upd nlp) upd_same⟩
      · rw [List.getElem?_map] at hx
        unfold osOf at hd
        rw [List.getElem?_map, List.getElem?_map] at hd
        cases hr' : (rowsOf z)[i]? with
        | none =>
          rw [hr'] at hx
          cases hx
        | some r =>
          rw [hr'] at hx hd
          have hx : V.str r = x := Option.some.inj hx
          have hd : optD (evOf (rowWords r 0)) = d := Option.some.inj hd
          refine ⟨_, fun P hP => hP, rfl, fun R hR => ?_⟩
          rw [← hx]
          try dsimp only [tCall, tCons, tNil]
          have hm := List.mem_of_getElem? hr'
          refine (val_var rfl) _ ⟨r, rfl, rsz.row r hm, rsz.ok r hm, fun H'' y s' od => hR H'' y s' ?_⟩
          rw [← hd]
          exact od.dq
      · have dp : Dp K H1 (.ref q) (.list ((osOf z).map optD)) := .lst (SqL.of hq) (DqA.dp _ f2 dA)
        have sh : SeqAt.shaped (.list ((osOf z).map optD)) = true := by
          show (PyData.canLayAll0 _ && decide (PyData.depthAll _ + 1 ≤ 64)) = true
          rw [f3, decide_eq_true (by omega)]
          rfl
        try dsimp only [gName, tRet, tIf, tTest, tOp]
        refine val_c _ ((val_var rfl) _ ⟨.none, _, .non, dp, rfl, sh, _, rfl, ?_⟩)
        rcases evs_spec (rowsOf z) 0 with ⟨j, h1, h2, h3⟩ | ⟨ds, h1, h2⟩
        · have hj : ((osOf z).map optD)[j]? = some .none := by
            rw [List.getElem?_map]
            show ((osOf z)[j]?).map optD = _
            unfold osOf
            rw [h1]
            rfl
          have an : (((osOf z).map optD).any fun y => PyData.eqv y .none) = true := List.any_eq_true.mpr ⟨.none, List.mem_of_getElem? hj, rfl⟩
          rw [an]
          refine iteT ?_
          try dsimp only [tTup, tCons, tNil]
          refine val_c _ ?_
          refine bm_run (x := .ref q) (val_var rfl) (.inl ⟨rfl, _, SqL.of hq⟩) ?_
          try dsimp only [tCons, tNil]
          refine val_c _ ⟨q, .non, .none, _, j, .none, rfl, rfl, dp, .non, sh, rfl, hj, rfl, fun m y hm hy => ?_, ?_⟩
          · rw [List.getElem?_map] at hy
            cases ho : (osOf z)[m]? with
            | none =>
              rw [ho] at hy
              cases hy
            | some o =>
              rw [ho] at hy
              have hy : optD o = y := Option.some.inj hy
              rw [← hy, eqv_none (all_flat zo) ho]
              exact decide_eq_false fun e => h2 m hm (by rw [← e]; exact ho)
          · refine ⟨by show 2 ≤ sizeLine; decide, fun t nt => ?_⟩
            have s2 := same_upd (o := .tup [.str "line", .int (j : Nat)]) nt
            refine k _ _ (s1.trans s2) ?_
            rw [h3, Nat.zero_add]
            exact .tup upd_same (.cons (.str _) (.cons (.int _) .nil))
        · have eo : (osOf z).map optD = ds := by
            unfold osOf
            rw [h1, List.map_map]
            exact List.map_id'' (fun _ => rfl) _
          have an : (((osOf z).map optD).any fun y => PyData.eqv y .none) = false := by
            rw [List.any_eq_false]
            intro y hy e
            obtain ⟨o, ho, rfl⟩ := List.mem_map.mp hy
            obtain ⟨m, hm⟩ := List.getElem?_of_mem ho
            rw [eqv_none (all_flat zo) hm] at e
            have e := of_decide_eq_true e
            have h1 : osOf z = ds.map some := h1
            rw [h1] at ho
            obtain ⟨d, _, hd⟩ := List.mem_map.mp ho
            rw [e] at hd
            cases hd
          rw [an]
          refine iteF ?_
          try dsimp only [tTup, tThen, tCons, tNil]
          refine val_c _ ((val_var rfl) _ (.inl ⟨q, ys, rfl, SqL.of hq, fun t nt => ?_⟩))
          have s2 := same_upd (o := .tup ys) nt
          have ht : (upd H1 t (.tup ys)) t = some (.tup ys) := upd_same
          have dA2 := DqA.mono s2 _ dA
          generalize (upd H1 t (.tup ys)) = H2 at s2 ht dA2 ⊢
          rw [eo] at dA2
          refine ⟨by show 2 ≤ sizeLine; decide, fun u nu => ?_⟩
          have s3 := same_upd (o := .tup [.str "run", .ref t]) nu
          refine k _ _ (s1.trans (s2.trans s3)) ?_
          rw [h2]
          exact .tup upd_same (.cons (.str _) (.cons (.tup (s3 _ _ ht) (DqA.mono s3 _ dA2)) .nil))
end
end K5
namespace K5
open PySem PySem.Spec PyProof.Rows L2
/-! ### an error that is kept behind its suite -/
/-- an error of the class cls, its dict at d, at a -/
def ExK (cls : Value) (d : Option Addr) (a : Addr) : HO := .ext fun h => ∃ (oe : Obj) (vs : Array Value), h.get? a = some oe ∧ Zc cls d oe ∧ oe.data = .fields vs
theorem exK_ok {P : Program} {w : World} {H : Hp} {h : Heap} {a : Addr} {cls : Value} {d : Option Addr} {oe : Obj} {vs : Array Value} (e : h.get? a = some oe) (z : Zc cls d oe) (f : oe.data = .fields vs) : ObjOk P w H h a (ExK cls d a) :=
  ⟨⟨oe, vs, e, z, f⟩, ⟨oe, e⟩, fun h1 h2 ⟨o1, v1, q1, q2, q3⟩ k => ⟨o1, v1, k _ q1, q2, q3⟩⟩
section
variable {X : Cx} {pins : List (Addr × Obj)} {σ σ' : L2.St} {H H' : Hp} {s sI : Shared}
/-- what came since J may be laid on the ledger -/
theorem track {a : Addr} {o : HO} (I : Inv X pins σ H s) (J : Inv X pins σ' H' sI) (new : sI.heap.get? a = none) (hx : X.ex = []) (hn : H a = none) (nL : a ≠ X.env.locals) (ok : ObjOk X.prog X.w (upd H a o) s.heap a o) : Inv X pins σ (upd H a o) s := by
  have old : ∀ b u, X.s_0.heap.get? b = some u → b ≠ a := fun b u e z => by
    obtain ⟨u2, e2⟩ := J.base.there b u e (by rw [hx]; exact List.not_mem_nil)
    rw [z, new] at e2
    cases e2
  have kp : ∀ b u, H b = some u → upd H a o b = some u := fun b u e => by
    rw [upd_ne (ne_of_none e hn)]
    exact e
  refine ⟨I.ok, I.os, I.bare, ⟨I.base.keep, I.base.slot, fun b u e n x => ?_, I.base.there, fun b xs e => kp _ _ (I.base.tups b xs e), fun b u v e => kp _ _ (I.base.frzs b u v e), fun b ps e => ?_⟩, I.loc, I.cell, ?_, fun x c e => ?_, fun p hp => ?_, fun b u e => ?_, I.len⟩
  · rw [upd_ne (old b u e)]
    exact I.base.free b u e n x
  · obtain ⟨more, e2⟩ := I.base.tbls b ps e
    exact ⟨more, kp _ _ e2⟩
  · rw [upd_ne nL.symm]
    exact I.free
  · have nc : c ≠ a := fun z => by
      obtain ⟨v, hv⟩ := J.cell x c e
      rw [z] at hv
      obtain ⟨ob, h1, _⟩ := hv
      rw [new] at h1
      cases h1
    rw [upd_ne nc]
    exact I.freeC x c e
  · obtain ⟨e1, e2, e3⟩ := I.pin p hp
    have np : p.1 ≠ a := fun z => by
      obtain ⟨q1, _⟩ := J.pin p hp
      rw [z, new] at q1
      cases q1
    rw [upd_ne np]
    exact ⟨e1, e2, e3⟩
  · by_cases c : b = a
    · subst c
      rw [upd_same] at e
      cases e
      exact ok
    · rw [upd_ne c] at e
      exact (I.hok b u e).stay (fun c v _ q => q) (fun c q => kp _ _ q) fun c xs q => kp _ _ q
end
end K5
namespace K5
open PySem PySem.Spec PyProof.Rows L2
/-- what the clause 'except x as n' wishes, whose suite runs through; the error stays known behind it -/
def wKeep (K : PySem.W.Frag) (c : Value) (i : Nat) (ts : Addr → Value → Option Addr → TS) (Wout : WX) (D : Ends) : WX := fun cls d σ H =>
  ∃ b, PySem.W.exmOne K cls c = some b ∧
    (b = true → ∀ a, H a = none → ts a cls d { nx := fun σ' H' => D.nx (σ'.set i none) (upd H' a (ExK cls d a)), rt := fun _ _ => False, bk := fun _ _ => False, ct := fun _ _ => False } (σ.set i (some (.ref a))) H) ∧
    (b = false → Wout cls d σ H)
section
variable {X : Cx} {x n : Str} {c : Value} {i : Nat} {body suite : List Stmt} {b0 : Stmt} {np pos pos' : Pos} {tb : WX → TS} {ts : Addr → Value → Option Addr → TS} {Wout : WX}
theorem ps_try_keep (hs : X.stack = X.env :: X.outer) (hf : X.env.frame = some X.env.locals) (hex : X.ex = []) (nodup : X.N.Nodup) (at1 : X.N[i]? = some n) (loc1 : X.env.kindOf n = some .local) (names : Names X x c) (tk : Takes X Wout)
    (bodyOk : ∀ (W : WX) (pn : List (Addr × Obj)) (xe : Value → Shared → Prop), Takes (X.tr pn xe) W → PassesOwn (model X.prog X.w) X.A X.env xe → PSs (X.tr pn xe) body (tb W))
    (suiteOk : ∀ (a : Addr) (oe : Obj) (cls : Value) (d : Option Addr) (pn : List (Addr × Obj)), Zc cls d oe → (∃ vs, oe.data = .fields vs) → PSs (X.suite a ((a, oe) :: pn)) (b0 :: suite) (ts a cls d)) :
    PS X (.Try body [.ExceptHandler (some (.Name x np)) (some n) (b0 :: suite) pos'] [] [] pos) (fun D σ H => tb (wKeep X.K c i ts Wout D) D σ H) := by
  refine ⟨fun pins s σ H D I h => ?_⟩
  have okX := I.ok
  have frames : X.A.frames = some (X.env :: X.outer) := by
    rw [okX.frames, hs]
  refine wpAny_Try_except ?_
  -- what the body lets out is looked at by the clause
  let out : Value → Shared → Prop := fun e s1 => wpAny (model X.prog X.w) X.A (noteFrame e X.env) (fun _ s2 => wpAny (model X.prog X.w) X.A (setFlight e none) (fun _ s3 =>
    wpAny (model X.prog X.w) X.A (handleBy e X.env [.ExceptHandler (some (.Name x np)) (some n) (b0 :: suite) pos']) (SP X pins D) X.xe s3) X.xe s2) X.xe s1
  have catches : Takes (X.tr (X.pn ++ pins) out) (wKeep X.K c i ts Wout D) := fun u s' raised => by
    obtain ⟨a, B, sI, pins1, σ1, H1, cls, d, rfl, J0, kept, up, sky, na, os1, ag, b, isb, yes, no⟩ := raised
    have J : Inv X pins σ1 H1 sI := J0.ofTry okX
    have sky1 : Sky B (X.env :: X.outer) a (Zc cls d) X.env.locals s'.heap := by
      rw [← hs]
      exact sky
    show wpAny (model X.prog X.w) X.A (noteFrame (.ref a) X.env) _ _ _
    refine Sky.land Zc.steady frames hf sky1 fun hA flA upA => ?_
    have JA : Inv X pins σ1 H1 { s' with heap := hA } := J.landed kept flA.1 (up.trans upA) os1 ag
    obtain ⟨oA, vA, eA, zA, dA⟩ := flA.there
    -- it is no frame
    have noFrame : a ∉ frs (X.env :: X.outer) := fun q => by
      obtain ⟨_, o2, e2, nf⟩ := flA.2.2.1.mem q
      rw [eA] at e2
      cases e2
      exact nf _ dA
    have nL : a ≠ X.env.locals := fun q => noFrame (List.mem_filterMap.mpr ⟨X.env, List.mem_cons_self, by rw [hf, q]⟩)
    have nF : a ∉ X.fs := fun q => by
      obtain ⟨e, h1, h2⟩ := List.mem_filterMap.mp q
      exact noFrame (List.mem_filterMap.mpr ⟨e, List.mem_cons_of_mem _ h1, h2⟩)
    -- it is new
    have new : sI.heap.get? a = none := by
      cases e : sI.heap.get? a with
      | none => rfl
      | some o =>
        have q := kept a o e (by rw [hs]; exact noFrame)
        rw [flA.2.1] at q
        cases q
    have SA := JA.suite eA dA na nL nF
    refine wpAny_handleBy_cons (codeAny_handlers_test ?_) (fun q => nomatch q)
    have tyA : PySem.W.Looks (model X.prog X.w) hA (typeOf (.ref a)) cls := fun A Q E s k q => wpAny_typeOf_ref (k _ _ eA) (by rw [zA.1]; exact q)
    have asks := PySem.W.exm_one (M := model X.prog X.w) (JA.kIn) tyA isb
    have named : ∀ {Q : Value → Shared → Prop} {E : Value → Shared → Prop}, Q c { s' with heap := hA } → wpAny (model X.prog X.w) (X.A.mark (some (.ref a))) (eval (.Name x np) X.env) Q E { s' with heap := hA } := fun {Q E} q => by
      obtain ⟨g1, g2, g3 | ⟨g3, g4, g5⟩⟩ := names
      · exact ld_glob (X := X.suite a ((a, oA) :: (X.pn ++ pins))) SA g1 g3 q g2
      · exact ld_blt (X := X.suite a ((a, oA) :: (X.pn ++ pins))) SA g1 g3 g4 q g5 g2
    refine named (asks.here ?_)
    cases b with
    | true =>
      refine codeAny_handlers_suite_as ?_
      refine HandSPX.lands_againZ flA fun hB flB upB => ?_
      have JB : Inv X pins σ1 H1 { s' with heap := hB } := J.landed kept flB.1 ((up.trans upA).trans upB) os1 ag
      obtain ⟨oB, vB, eB, zB, dB⟩ := flB.there
      refine store_ok (X := X.suite a ((a, oB) :: (X.pn ++ pins))) (v := .ref a) (JB.suite eB dB na nL nF) nodup at1 (.inl loc1) rfl (fun s5 S5 => ?_) (.inr loc1)
      refine wpAny_mono ((suiteOk a oB cls d (X.pn ++ pins) zB ⟨_, dB⟩).run [] s5 _ H1 _ S5 (yes rfl a na)) (fun f s6 done => ?_) (fun _ _ z => False.elim z)
      cases f with
      | next =>
        obtain ⟨σ6, H6, S6, q6⟩ := done
        obtain ⟨p1, p2, _⟩ := S6.pin (a, oB) (List.mem_append_left _ List.mem_cons_self)
        have laid : Inv X pins σ6 (upd H6 a (ExK cls d a)) s6 := track (S6.unsuite okX) J new hex p2 nL (exK_ok p1 zB dB)
        exact gone_ok laid nodup at1 loc1 fun s7 J7 => ⟨_, _, J7, q6⟩
      | brk =>
        obtain ⟨_, _, _, z⟩ := done
        exact z.elim
      | cont =>
        obtain ⟨_, _, _, z⟩ := done
        exact z.elim
      | ret u =>
        obtain ⟨_, _, _, _, _, z⟩ := done
        exact z.elim
    | false =>
      show wpAny _ X.A (handleBy (.ref a) X.env []) _ _ _
      refine wpAny_handleBy_nil ?_
      obtain ⟨oC, vC, tr, _, _, eC, _, dC, at3, _⟩ := flA.2.2.2
      unfold PySem.passOn
      refine wpAny_bind (wpAny_field eC dC at3 ?_)
      rw [if_neg (show ¬ ((Value.ref tr == Value.none) = true) from by simp)]
      have on : wpAny (model X.prog X.w) X.A (setFlight (.ref a) X.env.frame) (fun _ s4 => wpAny (model X.prog X.w) X.A (throw (.ref a) : Sem Flow) (SP X pins D) X.xe s4) X.xe { s' with heap := hA } := by
        rw [hf]
        refine HandSPX.setFlight_upZ flA fun hC held upC => wpAny_throw (tk _ _ ?_)
        exact ⟨a, B, sI, pins, σ1, H1, cls, d, rfl, J, kept, (up.trans upA).trans upC, .inr (.inr (by rw [hs]; exact held)), na, os1, ag, no rfl⟩
      first
        | exact wpAny_bind (wpAny_pure (wpAny_bind on))
        | exact wpAny_bind on
  refine wpAny_mono ((bodyOk (wKeep X.K c i ts Wout D) (X.pn ++ pins) out catches PassesOwn.looking).run [] s σ H D (I.toTry _) h) (fun f s1 done => ?_) (fun e s1 z => z)
  cases f with
  | next =>
    obtain ⟨σ2, H2, J2, q⟩ := done
    exact wpAny_execs_nil ⟨σ2, H2, J2.ofTry okX, q⟩
  | brk =>
    obtain ⟨σ2, H2, J2, q⟩ := done
    exact ⟨σ2, H2, J2.ofTry okX, q⟩
  | cont =>
    obtain ⟨σ2, H2, J2, q⟩ := done
    exact ⟨σ2, H2, J2.ofTry okX, q⟩
  | ret u =>
    obtain ⟨v2, σ2, H2, J2, r2, q⟩ := done
    exact ⟨v2, σ2, H2, J2.ofTry okX, r2, q⟩
end
end K5
namespace K5
open PySem PySem.Spec PyProof.Rows L2
/-- isinstance(e, c), e a kept error that has its dict -/
def rIsK (K : PySem.W.Frag) : List V → Hp → VK → Prop := fun xs H Q => ∃ (a D dd : Addr) (fs : List (Str × V)) (c : V) (cv : Value) (b : Bool), xs = [.ref a, c] ∧ H a = some (ExK (.ref D) (some dd) a) ∧ H dd = some (.xd fs) ∧ ExcC K D ∧ (∀ u, RelV c u → u = cv) ∧ PySem.W.kitOne K (.ref D) cv = some b ∧ Q (.bl b) H
theorem inst_kept {X : Cx} {pins : List (Addr × Obj)} {σ : L2.St} {H : Hp} {s : Shared} {a D dd : Addr} {fs : List (Str × V)} (I : Inv X pins σ H s) (h1 : H a = some (ExK (.ref D) (some dd) a)) (h2 : H dd = some (.xd fs)) :
    ∃ oe od mA, PySem.W.InstAt s.heap a oe D (some od) ∧ s.heap.get? dd = some od ∧ s.heap.Ns1 dd mA ∧ ∀ f, RelO (fs.lookup f) (mA f) := by
  obtain ⟨⟨oe, vs, e, z, f⟩, _⟩ := (show ObjOk X.prog X.w H s.heap a (ExK (.ref D) (some dd) a) from I.hok a _ h1)
  obtain ⟨mA, hns, hr⟩ := (show ObjOk X.prog X.w H s.heap dd (.xd fs) from I.hok dd _ h2)
  obtain ⟨od, ho, _⟩ := lookIn_ns hns
  refine ⟨oe, od, mA, ⟨e, z.1, ?_, ?_⟩, ho, hns, hr⟩
  · unfold PySem.W.notCls
    rw [f]
  · rw [z.2]
    exact ho
theorem call_isK {X : Cx} : CallR X (.builtin "isinstance") (rIsK X.K) := by
  intro pins s σ H xs us Q I r h
  obtain ⟨a, D, dd, fs, c, cv, b, rfl, h1, h2, C, hcv, hb, q⟩ := h
  cases r with
  | cons rx rr =>
    cases rr with
    | cons rt rr =>
      cases rr
      cases rx
      have ec := hcv _ rt
      subst ec
      obtain ⟨oe, od, _, J, _⟩ := inst_kept I h1 h2
      have hcl : (PySem.W.clsIn X.K D).isSome = true := by
        obtain ⟨cd, e, _⟩ := PySem.W.any_some C.hd
        rw [e]
        rfl
      exact PySem.W.kia_one (PySem.W.kitx_exc hcl C.hg C.hk C.hs C.ha C.hn C.ht C.hm) I.kIn J hb (fun z => nomatch z) fun tk => ⟨.bl b, H, I.kept (t' := tk) fun _ _ z => z, rfl, q⟩
/-- e.n, e a kept error -/
def tXk (K : PySem.W.Frag) (n : Str) (te : TE) : TE := fun σ H Q => te σ H fun x H1 => ∃ (a C dd : Addr) (fs : List (Str × V)) (v : V), x = .ref a ∧ H1 a = some (ExK (.ref C) (some dd) a) ∧ H1 dd = some (.xd fs) ∧ XfC K C ∧ PySem.W.findIn K (.ref C) n = some none ∧ fs.lookup n = some v ∧ Q v H1
theorem pe_xk {X : Cx} {e : Expr} {te : TE} {pos : Pos} {n : Str} (he : PE X e te) (hb : attributeBase e n X.env (eval e X.env) = eval e X.env := by rfl) : PE X (.Attribute e n pos) (tXk X.K n te) := by
  refine ⟨fun pins s σ H Q I h => ?_⟩
  refine attr_of hb (thn (he.run pins s σ H _ I h) fun u s1 hh => ?_)
  obtain ⟨x, H1, I1, rx, a, C, dd, fs, v, ex, h1, h2, T, hno, l, q⟩ := hh
  subst ex
  obtain rfl : u = Value.ref a := rx
  obtain ⟨oe, od, mA, J, ho, hns, hr⟩ := inst_kept I1 h1 h2
  obtain ⟨od2, ho2, hl⟩ := lookIn_ns hns
  rw [ho] at ho2
  cases ho2
  obtain ⟨u, hu, ru⟩ := RelO.some_of (v := v) (o := mA n) (by rw [← l]; exact hr n)
  exact HandSPX.exc_get I1.kIn J T.ga T.gg T.exC (PySem.W.findObj_own T.hdC hno rfl (by rw [hl, hu])) (handed_of ru) ⟨v, H1, I1.tok _, ru, q⟩
end K5
namespace K5
open PySem PySem.Spec PyProof.Rows L2
/-- what may be known of the slots may be forgotten -/
theorem forget {X : Cx} {pins : List (Addr × Obj)} {σ : L2.St} {H : Hp} {s : Shared} (I : Inv X pins σ H s) : Inv X pins (List.replicate X.N.length none) H s := by
  obtain ⟨m, h1, _⟩ := I.loc
  refine ⟨I.ok, I.os, I.bare, I.base, ⟨m, h1, fun i x v _ e _ => ?_⟩, I.cell, I.free, I.freeC, I.pin, I.hok, List.length_replicate⟩
  rw [List.getElem?_replicate] at e
  split at e
  · cases e
  · cases e
theorem passes_forget {X : Cx} {W : WX} (k : Nat) (hk : X.N.length = k) (tk : Takes X W) : Passes (L2.CX X.prog X.w) X (fun cls d H => W cls d (List.replicate k none) H) := fun _ _ _ _ e s' I c => by
  subst hk
  exact tk e s' (XE.of_call (forget I) (fun _ _ _ h => h) c)

/-! ### what a reader tells -/
structure ErC (K : PySem.W.Frag) (CE CT CR : Addr) : Prop where
  eT : PySem.W.exmOne K (.ref CT) (.ref CE) = some true
  eR : PySem.W.exmOne K (.ref CR) (.ref CE) = some true
  xT : ExcC K CT
  xR : ExcC K CR
  fT : XfC K CT
  fR : XfC K CR
  vT : PySem.W.findIn K (.ref CT) "value" = some none
  vR : PySem.W.findIn K (.ref CR) "value" = some none
  tt : PySem.W.kitOne K (.ref CT) (.ref CT) = some true
  tr : PySem.W.kitOne K (.ref CT) (.ref CR) = some false
  rt : PySem.W.kitOne K (.ref CR) (.ref CT) = some false
  rr : PySem.W.kitOne K (.ref CR) (.ref CR) = some true
  tv : PySem.W.kitOne K (.ref CT) (.type "ValueError") = some true
  rv : PySem.W.kitOne K (.ref CR) (.type "ValueError") = some true
theorem bt_ValueError : bootBuiltins "ValueError" = some (.type "ValueError") := by decide +kernel
inductive Out where
  | ok (d : PyData)
  | txt (i : Int)
  | val (d : PyData)
def outD : Out → PyData
  | .ok d => .tuple [.str "run", d]
  | .txt i => .tuple [.str "line", .int i]
  | .val d => .tuple [.str "value", d]
def Reads85 (sp : Sp) (CT CR : Addr) (x : V) (H : Hp) : Out → Prop
  | .ok d => ∀ (Q : VK) (E : XK), (∀ H' y, Same H H' → Dq H' y d → Q y H') → sp [x] H Q E
  | .txt i => ∀ (Q : VK) (E : XK), ErrK CT (.int i) H E → sp [x] H Q E
  | .val d => Dq H x d ∧ ∀ (Q : VK) (E : XK), ErrK CR x H E → sp [x] H Q E
def spTold (fR : Addr) (sp : Sp) (CT CR : Addr) : Sp := fun vs H Q _ => ∃ (x : V) (o : Out), vs = [.ref fR, x] ∧ (∀ H', Same H H' → Reads85 sp CT CR x H' o) ∧ ∀ H' y, Same H H' → Dq H' y (outD o) → Q y H'
abbrev s__law_told : Stmt := topS 41
theorem sc__law_told : FnScope ["_law_reader", "_law_thing", "_law_found", "_law_caught", "error"] ["_law_reader", "_law_thing"] (defScope s__law_told) := ⟨rfl, rfl, rfl, by decide +kernel, rfl, by decide +kernel, by decide +kernel⟩
section
variable {P : Program} {w : World} {K : PySem.W.Frag} {mg : Str → Option Value} {base : Heap} {CE CT CR : Addr}
theorem ok_told {f fR : Addr} {fd dR : FuncData} {kR : Nat} {spR : Sp} {y : Str} (B : Bt mg) (EC : ErC K CE CT CR) (gE : mg "WireError" = some (.ref CE)) (gT : mg "BadText" = some (.ref CT)) (gR : mg "BadRun" = some (.ref CR)) (gV : mg "ValueError" = none)
    (kp : PySem.W.keepIn K (.ref fR) = true) (bR : Binds K dR [y] []) (GR : FnOk P w K mg base (L2.CX P w) kR fR dR [y] spR) (k7 : kR ≤ 7)
    (D : Df K mg "_law_told" s__law_told f fd ["_law_reader", "_law_thing"]) :
    FnOk P w K mg base (L2.CX P w) 9 f fd ["_law_reader", "_law_thing"] (spTold fR spR CT CR) := by
  refine D.F.okX sc__law_told (fun vs H Q E h => ?_) (fun cdv A0 outer s H vs Q E hr h => ?_)
  · obtain ⟨x, o, rfl, _⟩ := h
    rfl
  · obtain ⟨x, o, rfl, hx, k⟩ := h
    have S := sc__law_told
    refine ⟨_, (pss_cons (ps_asg (pe_tup (pa_cons pe_non (pa_cons pe_non pa_nil))) (pg_tup (by rfl) (pgs_cons (pg_name (i := 2) S.nd rfl (.inl rfl)) (pgs_cons (pg_name (i := 3) S.nd rfl (.inl rfl)) pgs_nil))))
      (pss_cons (ps_try_keep (i := 4) (ts := fun _ _ _ => tAsg (tVar 4) (gName 3)) rfl rfl rfl S.nd rfl rfl ⟨by rfl, by decide, .inl gE⟩ (takes_of rfl rfl rfl rfl)
          (fun W pn xe tk ps => pss_one (ps_set (i := 2) S.nd rfl (.inl rfl) (pe_callL (i := 0) GR (hr.mono (by omega)) rfl (.inl rfl) kp bR .nil (passes_forget 5 rfl tk) (pa_cons (pv 1) pa_nil))))
          (fun a oe cls d pn hz hv => pss_one (ps_set (i := 3) S.nd rfl (.inl rfl) (pv 4))))
      (pss_cons (ps_if (pt_cmpR op_isN1 (pv 3) pe_non (nomark _))
        (pss_one (ps_ret (pe_tup (pa_cons pe_str (pa_cons (pv 2) pa_nil)))))
        pss_nil)
      (pss_cons (ps_if (PW.pt (pw_or (pt_cmpR op_eq (pe_callB call_isK (by rfl) B.m_isinstance PyProof.Rows.boot_isinstance (pa_cons (pv 3) (pa_cons (pe_glob (v := .ref CT) (by rfl) gT rfl) pa_nil))) (pe_callB call_isK (by rfl) B.m_isinstance PyProof.Rows.boot_isinstance (pa_cons (pv 3) (pa_cons (pe_glob (v := .ref CR) (by rfl) gR rfl) pa_nil))) (nomark _)) (pw_or1 (pt_not (pt_val (pe_callB call_isK (by rfl) B.m_isinstance PyProof.Rows.boot_isinstance (pa_cons (pv 3) (pa_cons (pe_tyN bt_ValueError (by rfl) gV) pa_nil))))))))
        (pss_one (ps_ret (pe_tup (pa_cons pe_str pa_nil))))
        pss_nil)
      (pss_one (ps_ret (pe_tup (pa_cons (pe_ifExp (pt_val (pe_callB call_isK (by rfl) B.m_isinstance PyProof.Rows.boot_isinstance (pa_cons (pv 3) (pa_cons (pe_glob (v := .ref CT) (by rfl) gT rfl) pa_nil)))) pe_str pe_str) (pa_cons (pe_xk (pv 3)) pa_nil))))))))), ?_⟩
    try dsimp only [tSeq, tAsg, tTup, tCons, tNil]
    refine val_c _ (val_c _ ⟨by show 2 ≤ sizeLine; decide, fun u nu => ?_⟩)
    have s1 := same_upd (o := .tup [.non, .non]) nu
    have hu : (upd H u (.tup [.non, .non])) u = some (.tup [.non, .non]) := upd_same
    generalize (upd H u (.tup [.non, .non])) = H1 at s1 hu ⊢
    refine ⟨u, _, rfl, SqT.of hu, rfl, _, _, rfl, _, _, rfl, rfl, ?_⟩
    have hx1 : Reads85 spR CT CR x H1 o := hx _ s1
    try dsimp only [gName]
    try dsimp only [tSeq, tCallL, tCons, tNil]
    refine ⟨rfl, (val_var rfl) _ ?_⟩
    cases o with
    | ok d =>
      refine hx1 _ _ fun H2 y s2 dq => ?_
      try dsimp only [gName, tSeq, tIfS]
      refine (ans_isN (x := .non) (b := true) (val_var rfl) (decide_eq_true rfl)) _ (iteT ?_)
      try dsimp only [tRet, tTup, tCons, tNil]
      refine val_c _ ((val_var rfl) _ ⟨by show 2 ≤ sizeLine; decide, fun t nt => ?_⟩)
      have s3 := same_upd (o := .tup [.str "run", y]) nt
      exact k _ _ (s1.trans (s2.trans s3)) (.tup upd_same (.cons (.str _) (.cons (Dq.mono s3 _ dq) .nil)))
    | txt i =>
      refine hx1 _ _ fun d H2 s2 nd hd => ?_
      refine ⟨true, EC.eT, fun _ e he => ?_, fun z => nomatch z⟩
      have nde : d ≠ e := ne_of_none hd he
      have hE : (upd H2 e (ExK (.ref CT) (some d) e)) e = some (ExK (.ref CT) (some d) e) := upd_same
      have hD : (upd H2 e (ExK (.ref CT) (some d) e)) d = some (.xd [(("value" : Str), .int i)]) := by
        rw [upd_ne nde]
        exact hd
      have s3 : Same H (upd H2 e (ExK (.ref CT) (some d) e)) := s1.trans (s2.trans (same_upd he))
      show tVar 4 _ _ _
      refine (val_var rfl) _ ?_
      dsimp only [gName]
      generalize (upd H2 e (ExK (.ref CT) (some d) e)) = H3 at hE hD s3
      have nn : decide (V.ref e = V.non) = false := decide_eq_false (fun z => nomatch z)
      dsimp only [tSeq, tIfS, tTest]
      refine (val_op (z := .bl false) (val_var rfl) val_c fun Q q => ⟨rfl, by rw [nn]; exact q⟩) _ ?_
      refine ⟨_, rfl, iteF ?_⟩
      try dsimp only [tNext, tSeq, tIfS, tOr, tTest, tOp, tNot, tB, tCB, tCons, tNil]
      refine (val_var rfl) _ ⟨e, CT, d, _, .ref CT, .ref CT, true, rfl, hE, hD, EC.xT, fun u r => r, EC.tt, ?_⟩
      refine (val_var rfl) _ ⟨e, CT, d, _, .ref CR, .ref CR, false, rfl, hE, hD, EC.xT, fun u r => r, EC.tr, ?_⟩
      refine ⟨rfl, _, rfl, iteF ?_⟩
      refine (val_var rfl) _ ⟨e, CT, d, _, .ty "ValueError", .type "ValueError", true, rfl, hE, hD, EC.xT, fun u r => r, EC.tv, _, rfl, iteF ?_⟩
      try dsimp only [tRet, tTup, tIf, tB, tCB, tCons, tNil]
      refine (val_var rfl) _ ⟨e, CT, d, _, .ref CT, .ref CT, true, rfl, hE, hD, EC.xT, fun u r => r, EC.tt, _, rfl, iteT ?_⟩
      refine val_c _ ?_
      refine (val_var rfl) _ ⟨e, CT, d, _, .int i, rfl, hE, hD, EC.fT, EC.vT, lk_hd, ?_⟩
      refine ⟨by show 2 ≤ sizeLine; decide, fun t nt => ?_⟩
      have s4 := same_upd (o := .tup [.str "line", .int i]) nt
      exact k _ _ (s3.trans s4) (.tup upd_same (.cons (.str _) (.cons (.int _) .nil)))
    | val dt =>
      refine hx1.2 _ _ fun d H2 s2 nd hd => ?_
      refine ⟨true, EC.eR, fun _ e he => ?_, fun z => nomatch z⟩
      have nde : d ≠ e := ne_of_none hd he
      have hE : (upd H2 e (ExK (.ref CR) (some d) e)) e = some (ExK (.ref CR) (some d) e) := upd_same
      have hD : (upd H2 e (ExK (.ref CR) (some d) e)) d = some (.xd [(("value" : Str), x)]) := by
        rw [upd_ne nde]
        exact hd
      have s3 : Same H (upd H2 e (ExK (.ref CR) (some d) e)) := s1.trans (s2.trans (same_upd he))
      show tVar 4 _ _ _
      refine (val_var rfl) _ ?_
      dsimp only [gName]
      generalize (upd H2 e (ExK (.ref CR) (some d) e)) = H3 at hE hD s3
      have nn : decide (V.ref e = V.non) = false := decide_eq_false (fun z => nomatch z)
      dsimp only [tSeq, tIfS, tTest]
      refine (val_op (z := .bl false) (val_var rfl) val_c fun Q q => ⟨rfl, by rw [nn]; exact q⟩) _ ?_
      refine ⟨_, rfl, iteF ?_⟩
      try dsimp only [tNext, tSeq, tIfS, tOr, tTest, tOp, tNot, tB, tCB, tCons, tNil]
      refine (val_var rfl) _ ⟨e, CR, d, _, .ref CT, .ref CT, false, rfl, hE, hD, EC.xR, fun u r => r, EC.rt, ?_⟩
      refine (val_var rfl) _ ⟨e, CR, d, _, .ref CR, .ref CR, true, rfl, hE, hD, EC.xR, fun u r => r, EC.rr, ?_⟩
      refine ⟨rfl, _, rfl, iteF ?_⟩
      refine (val_var rfl) _ ⟨e, CR, d, _, .ty "ValueError", .type "ValueError", true, rfl, hE, hD, EC.xR, fun u r => r, EC.rv, _, rfl, iteF ?_⟩
      try dsimp only [tRet, tTup, tIf, tB, tCB, tCons, tNil]
      refine (val_var rfl) _ ⟨e, CR, d, _, .ref CT, .ref CT, false, rfl, hE, hD, EC.xR, fun u r => r, EC.rt, _, rfl, iteF ?_⟩
      refine val_c _ ?_
      refine (val_var rfl) _ ⟨e, CR, d, _, x, rfl, hE, hD, EC.fR, EC.vR, lk_hd, ?_⟩
      refine ⟨by show 2 ≤ sizeLine; decide, fun t nt => ?_⟩
      have s4 := same_upd (o := .tup [.str "value", x]) nt
      exact k _ _ (s3.trans s4) (.tup upd_same (.cons (.str _) (.cons (Dq.mono (s3.trans s4) _ (hx _ (Same.refl _)).1) .nil)))
end
end K5
namespace K5
open PySem PySem.Spec PyProof.Rows L2
/-! ### drawn values beside the box -/
/-- the heap without the box: data over it stays when the box goes on -/
def hide (b : Addr) (H : Hp) : Hp := fun a => if a = b then none else H a
theorem hide_sub (b : Addr) (H : Hp) : Same (hide b H) H := fun a o e => by
  unfold hide at e
  split at e
  · cases e
  · exact e
theorem hide_at {b a : Addr} {H : Hp} (n : a ≠ b) : hide b H a = H a := if_neg n
theorem hide_but {b : Addr} {H H' : Hp} (s : SameBut b H H') : Same (hide b H) (hide b H') := fun a o e => by
  unfold hide at e ⊢
  split at e
  · cases e
  · rename_i n
    rw [if_neg n]
    exact s a o n e
theorem hide_same {b : Addr} {H H' : Hp} (s : Same H H') : Same (hide b H) (hide b H') := hide_but (SameBut.of_same s)
theorem Dq.full {b : Addr} {H : Hp} {x : V} {d : PyData} (h : Dq (hide b H) x d) : Dq H x d := Dq.mono (hide_sub b H) _ h
theorem Dq.but {b : Addr} {H H' : Hp} {x : V} {d : PyData} (h : Dq (hide b H) x d) (s : SameBut b H H') : Dq (hide b H') x d := Dq.mono (hide_but s) _ h
/-! ### what is drawn from, and what comes -/
mutual
/-- no list, no dict, small ints and texts -/
def inB : PyData → Bool
  | .none => true
  | .bool _ => true
  | .int i => decide (-3 ≤ i ∧ i ≤ 4)
  | .str z => decide (z ∈ S85)
  | .list _ => false
  | .tuple xs => decide (xs.length ≤ 6) && inBA xs
  | .dict _ => false
def inBA : List PyData → Bool
  | [] => true
  | x :: xs => inB x && inBA xs
end
/-- how many items a tuple has -/
def lenD : PyData → Nat
  | .tuple ds => ds.length
  | _ => 0
theorem in_tup {ds : List PyData} (h : inB (.tuple ds) = true) : ds.length ≤ 6 ∧ inBA ds = true := by
  have h : (decide (ds.length ≤ 6) && inBA ds) = true := h
  rw [Bool.and_eq_true] at h
  exact ⟨of_decide_eq_true h.1, h.2⟩
mutual
theorem in_ok : ∀ d : PyData, inB d = true → smallD d = true ∧ listIn d = false ∧ d.hasDict = false
  | .none, _ => ⟨rfl, rfl, rfl⟩
  | .bool _, _ => ⟨rfl, rfl, rfl⟩
  | .int i, h => by
    have h := of_decide_eq_true h
    exact ⟨decide_eq_true (by omega), rfl, rfl⟩
  | .str z, h => ⟨h, rfl, rfl⟩
  | .list _, h => by cases h
  | .tuple xs, h => in_okA xs (in_tup h).2
  | .dict _, h => by cases h
theorem in_okA : ∀ ds : List PyData, inBA ds = true → smallA ds = true ∧ listInA ds = false ∧ PyData.hasDictAll ds = false
  | [], _ => ⟨rfl, rfl, rfl⟩
  | d :: ds, h => by
    have h : (inB d && inBA ds) = true := h
    rw [Bool.and_eq_true] at h
    obtain ⟨a1, a2, a3⟩ := in_ok d h.1
    obtain ⟨b1, b2, b3⟩ := in_okA ds h.2
    refine ⟨?_, ?_, ?_⟩
    · show (smallD d && smallA ds) = true
      rw [a1, b1]
      rfl
    · show (listIn d || listInA ds) = false
      rw [a2, b2]
      rfl
    · show (PyData.hasDict d || PyData.hasDictAll ds) = false
      rw [a3, b3]
      rfl
end
theorem inBA_app (xs ys : List PyData) : inBA (xs ++ ys) = (inBA xs && inBA ys) := by
  induction xs with
  | nil => rfl
  | cons x xs ih =>
    show (inB x && inBA (xs ++ ys)) = ((inB x && inBA xs) && inBA ys)
    rw [ih, Bool.and_assoc]
theorem inBA_all (xs : List PyData) : inBA xs = xs.all inB := by
  induction xs with
  | nil => rfl
  | cons x xs ih =>
    show (inB x && inBA xs) = _
    rw [ih]
    rfl
theorem inBA_sub {xs ys : List PyData} (h : inBA xs = true) (s : ∀ y ∈ ys, y ∈ xs) : inBA ys = true := by
  rw [inBA_all, List.all_eq_true] at h ⊢
  exact fun y hy => h y (s y hy)
/-- a value that is drawn from -/
structure InD (d : PyData) (w n : Nat) : Prop where
  i : inB d = true
  w : d.weight ≤ w
  n : d.depth ≤ n
/-- a value that comes -/
structure Res (d : PyData) (w n : Nat) : Prop where
  s : smallD d = true
  l : d.hasDict = true → listIn d = false
  w : d.weight ≤ w
  n : d.depth ≤ n
  c : lenD d ≤ 20
theorem InD.len {d : PyData} {w n : Nat} (h : InD d w n) : lenD d ≤ 6 := by
  cases d with
  | tuple ds => exact (in_tup h.i).1
  | _ => exact Nat.zero_le _
theorem InD.le {d : PyData} {w n w' n' : Nat} (h : InD d w n) (hw : w ≤ w') (hn : n ≤ n') : InD d w' n' := ⟨h.i, Nat.le_trans h.w hw, Nat.le_trans h.n hn⟩
theorem InD.res {d : PyData} {w n w' n' : Nat} (h : InD d w n) (hw : w ≤ w') (hn : n ≤ n') : Res d w' n' :=
  ⟨(in_ok d h.i).1, (fun _ => (in_ok d h.i).2.1), Nat.le_trans h.w hw, Nat.le_trans h.n hn, Nat.le_trans h.len (by decide)⟩
theorem Res.sz {d : PyData} {w n : Nat} (h : Res d w n) (hw : w ≤ 1000000) (hn : n ≤ 50) : SzD d := ⟨ok_small d h.s, Nat.le_trans h.w hw, Nat.le_trans h.n hn, h.l⟩
theorem wA_app (xs ys : List PyData) : PyData.weightAll (xs ++ ys) = PyData.weightAll xs + PyData.weightAll ys := by
  induction xs with
  | nil => exact (Nat.zero_add _).symm
  | cons x xs ih =>
    show PyData.weight x + 1 + PyData.weightAll (xs ++ ys) = (PyData.weight x + 1 + PyData.weightAll xs) + PyData.weightAll ys
    rw [ih]
    omega
theorem pA_app (xs ys : List PyData) : PyData.depthAll (xs ++ ys) = max (PyData.depthAll xs) (PyData.depthAll ys) := by
  induction xs with
  | nil => exact (Nat.max_eq_right (Nat.zero_le _)).symm
  | cons x xs ih =>
    show max (PyData.depth x) (PyData.depthAll (xs ++ ys)) = max (max (PyData.depth x) (PyData.depthAll xs)) (PyData.depthAll ys)
    rw [ih, Nat.max_assoc]
theorem hA_app (xs ys : List PyData) : PyData.hasDictAll (xs ++ ys) = (PyData.hasDictAll xs || PyData.hasDictAll ys) := by
  induction xs with
  | nil => rfl
  | cons x xs ih =>
    show (PyData.hasDict x || PyData.hasDictAll (xs ++ ys)) = ((PyData.hasDict x || PyData.hasDictAll xs) || PyData.hasDictAll ys)
    rw [ih, Bool.or_assoc]
theorem sA_app (xs ys : List PyData) : smallA (xs ++ ys) = (smallA xs && smallA ys) := by
  induction xs with
  | nil => rfl
  | cons x xs ih =>
    show (smallD x && smallA (xs ++ ys)) = ((smallD x && smallA xs) && smallA ys)
    rw [ih, Bool.and_assoc]
theorem InD.at_ {ds : List PyData} {w n : Nat} (h : InD (.tuple ds) w (n + 1)) {i : Nat} {d : PyData} (e : ds[i]? = some d) : InD d w n := by
  obtain ⟨h1, h2, _, _⟩ := all_at85 i e
  have hw : PyData.weightAll ds ≤ w := h.w
  have hn : PyData.depthAll ds + 1 ≤ n + 1 := h.n
  have hi : inBA ds = true := (in_tup h.i).2
  rw [inBA_all, List.all_eq_true] at hi
  exact ⟨hi d (List.mem_of_getElem? e), by omega, by omega⟩
/-- one place of a tuple otherwise -/
theorem Res.place {xs ys : List PyData} {d d0 : PyData} {w n v : Nat} (h : InD (.tuple (xs ++ d0 :: ys)) w n) (r : Res d v n) : Res (.tuple (xs ++ (d :: ys))) (w + v) (n + 1) := by
  have hi : inBA (xs ++ d0 :: ys) = true := (in_tup h.i).2
  have hc : (xs ++ d0 :: ys).length ≤ 6 := (in_tup h.i).1
  rw [List.length_append, List.length_cons] at hc
  rw [inBA_app] at hi
  have hi2 : (inBA xs && (inB d0 && inBA ys)) = true := hi
  simp only [Bool.and_eq_true] at hi2
  obtain ⟨x1, x2, x3⟩ := in_okA xs hi2.1
  obtain ⟨y1, y2, y3⟩ := in_okA ys hi2.2.2
  have hw : PyData.weightAll (xs ++ d0 :: ys) ≤ w := h.w
  rw [wA_app] at hw
  have hw : PyData.weightAll xs + (PyData.weight d0 + 1 + PyData.weightAll ys) ≤ w := hw
  have hn : PyData.depthAll (xs ++ d0 :: ys) + 1 ≤ n := h.n
  rw [pA_app] at hn
  have hn : max (PyData.depthAll xs) (max (PyData.depth d0) (PyData.depthAll ys)) + 1 ≤ n := hn
  have rw_ := r.w
  have rn := r.n
  refine ⟨?_, ?_, ?_, ?_, ?_⟩
  · show smallA (xs ++ d :: ys) = true
    rw [sA_app, x1]
    show (true && (smallD d && smallA ys)) = true
    rw [r.s, y1]
    rfl
  · intro e
    have e : PyData.hasDictAll (xs ++ d :: ys) = true := e
    rw [hA_app, x3] at e
    have e : (false || (PyData.hasDict d || PyData.hasDictAll ys)) = true := e
    rw [y3, Bool.or_false, Bool.false_or] at e
    show listInA (xs ++ d :: ys) = false
    rw [listInA_app, x2]
    show (false || (listIn d || listInA ys)) = false
    rw [r.l e, y2]
    rfl
  · show PyData.weightAll (xs ++ d :: ys) ≤ w + v
    rw [wA_app]
    show PyData.weightAll xs + (PyData.weight d + 1 + PyData.weightAll ys) ≤ w + v
    omega
  · show PyData.depthAll (xs ++ d :: ys) + 1 ≤ n + 1
    rw [pA_app]
    show max (PyData.depthAll xs) (max (PyData.depth d) (PyData.depthAll ys)) + 1 ≤ n + 1
    omega
  · show (xs ++ d :: ys).length ≤ 20
    rw [List.length_append, List.length_cons]
    omega
end K5
namespace HT
open PySem PySem.Spec PyProof.Rows
section
variable {prog : Program} {w : World} {A : Around} {E : Value → Shared → Prop} {s : Shared}
/-! ### t[::-1] of a tuple -/
theorem sliceApplied_rev {sl : Addr} {n : Nat} {tk : Tok} {Q : Int × Int × Nat → Shared → Prop} (hs : s.heap.IsSliceOf sl .none .none (.int (-1) tk))
    (h : Q ((n : Int) - 1, -1, n) s) : wpAny (model prog w) A (Builtin.Slice.sliceApplied (.ref sl) (pure (n : Int))) Q E s := by
  obtain ⟨os, hos, hcs, hds⟩ := id hs
  unfold Builtin.Slice.sliceApplied Builtin.Slice.sliceFields
  refine wpAny_bind (wpAny_bind (wpAny_field hos hds (x := .none) rfl (wpAny_bind (wpAny_field hos hds (x := .none) rfl (wpAny_bind (wpAny_field hos hds (x := .int (-1) tk) rfl (wpAny_pure ?_)))))))
  refine wpAny_bind (slicePart_int ?_)
  show wpAny _ _ (if ((-1 : Int) == 0) = true then _ else _) _ _ s
  rw [if_neg (by decide)]
  refine wpAny_bind (slicePart_none (wpAny_bind (slicePart_none (wpAny_bind (wpAny_pure ?_)))))
  show wpAny _ _ (match Builtin.Slice.sliceAdjust none none (-1) (n : Int) with | (lo, hi) => pure (lo, (-1 : Int), Builtin.Slice.slicePlaces lo hi (-1))) _ _ s
  have e1 : Builtin.Slice.sliceAdjust none none (-1) (n : Int) = ((n : Int) - 1, -1) := by
    unfold Builtin.Slice.sliceAdjust
    rfl
  rw [e1]
  have e2 : Builtin.Slice.slicePlaces ((n : Int) - 1) (-1) (-1) = n := by
    unfold Builtin.Slice.slicePlaces
    rw [if_neg (by decide)]
    rw [show (-(-1) : Int) = 1 from rfl, Int.ediv_one]
    split <;> omega
  show wpAny _ _ (pure ((n : Int) - 1, (-1 : Int), Builtin.Slice.slicePlaces ((n : Int) - 1) (-1) (-1))) _ _ s
  rw [e2]
  exact wpAny_pure h
theorem filterMap_same {α β : Type} {f g : α → Option β} : ∀ {l : List α}, (∀ m ∈ l, f m = g m) → l.filterMap f = l.filterMap g
  | [], _ => rfl
  | x :: l, h => by
    rw [List.filterMap_cons, List.filterMap_cons, h x (List.mem_cons_self ..), filterMap_same fun m hm => h m (List.mem_cons_of_mem _ hm)]
theorem pick_rev (xs : Array Value) : ((List.range xs.size).filterMap fun (m : Nat) => xs[(((xs.size : Nat) : Int) - 1 + (m : Int) * (-1)).toNat]?) = xs.toList.reverse := by
  have h : ∀ m ∈ List.range xs.size, xs[(((xs.size : Nat) : Int) - 1 + (m : Int) * (-1)).toNat]? = xs.toList.reverse[m]? := fun m hm => by
    have hm := List.mem_range.mp hm
    rw [show (((xs.size : Nat) : Int) - 1 + (m : Int) * (-1)).toNat = xs.size - 1 - m by omega, List.getElem?_reverse (by rw [Array.length_toList]; exact hm), Array.length_toList, Array.getElem?_toList]
  rw [filterMap_same h]
  have e : xs.size = xs.toList.reverse.length := by rw [List.length_reverse, Array.length_toList]
  rw [e]
  generalize xs.toList.reverse = l
  induction l with
  | nil => rfl
  | cons x r ih =>
    rw [List.length_cons, List.range_succ_eq_map, List.filterMap_cons]
    show x :: List.filterMap _ (List.map Nat.succ (List.range r.length)) = _
    rw [List.filterMap_map]
    exact congrArg _ ih
theorem getItem_tuple_rev {t sl : Addr} {items : Array Value} {tk : Tok} {Q : Value → Shared → Prop} (ht : IsTup s.heap t items) (hs : s.heap.IsSliceOf sl .none .none (.int (-1) tk))
    (h : Q (.ref s.heap.objs.size) { s with heap := s.heap.push { cls := .type "tuple", data := .seq items.toList.reverse.toArray } })
    (hsz : items.size ≤ sizeLine) : wpAny (model prog w) A (getItem (.ref t) (.ref sl)) Q E s := by
  have htake : sizeOk (.seq items.toList.reverse.toArray) := by
    show items.toList.reverse.toArray.size ≤ sizeLine
    rw [List.size_toArray, List.length_reverse, Array.length_toList]
    exact hsz
  obtain ⟨os, hos, hcs, hds⟩ := id hs
  have hTs : s.TypeIs (.ref sl) "slice" := ⟨os, hos, hcs⟩
  unfold getItem
  try with_reducible refine wpAny_holding ?_
  first | refine wpAny_bind (wpAny_pure ?_) | skip
  refine wpAny_bind (wpAny_sequenceKey ht.typeIs (by decide) ?_)
  refine wpAny_bind (wpAny_callSpecial?_slot (name := Str.ofString "__getitem__") ht.typeIs PyProof.Rows.slot_tuple_getitem
    (wpAny_call_entry PyProof.Rows.slot_tuple_getitem ht.typeIs entry_tuple_getitem ?_ (args_tuple_getitem _ _)))
  show wpAny _ _ (Builtin.Tuple.tupleItemsOf (.ref t) >>= _) _ _ s
  refine wpAny_bind (tupleItemsOf_ ht ?_)
  refine wpAny_bind (wpAny_typeOf hTs ?_)
  rw [if_pos (by decide)]
  refine wpAny_bind (sliceApplied_rev hs ?_)
  have hno : ¬ (((((items.size : Nat) : Int) - 1) == 0 && (-1 : Int) == 1 && items.size == items.size) = true) := by
    intro q
    rw [Bool.and_eq_true, Bool.and_eq_true] at q
    exact absurd (eq_of_beq q.1.2) (by decide)
  show wpAny _ _ (if ((((items.size : Nat) : Int) - 1) == 0 && (-1 : Int) == 1 && items.size == items.size) = true then _ else _) _ _ s
  rw [if_neg hno, pick_rev]
  first
    | exact wpAny_bind (m := Builtin.Tuple.tupleExact _) (wpAny_newObj_type (wpAny_pure ⟨_, rfl, wpAny_pure h⟩) htake)
    | exact wpAny_bind (m := Builtin.Tuple.tupleExact _) (wpAny_newObj_type (wpAny_bind (wpAny_pure (wpAny_pure ⟨_, rfl, wpAny_pure h⟩))) htake)
    | exact wpAny_bind (wpAny_bind (m := Builtin.Tuple.tupleExact _) (wpAny_newObj_type (wpAny_pure (wpAny_pure ⟨_, rfl, wpAny_pure h⟩)) htake))
    | exact wpAny_bind (wpAny_bind (m := Builtin.Tuple.tupleExact _) (wpAny_newObj_type (wpAny_pure ⟨_, rfl, wpAny_pure h⟩) htake))
end
end HT
namespace K5
open PySem PySem.Spec PyProof.Rows L2
def tRevT (K : PySem.W.Frag) (te : TE) : TE := fun σ H Q => te σ H fun x H1 => ∃ a xs, x = .ref a ∧ SqT K H1 a xs ∧ ∀ p, H1 p = none → Q (.ref p) (upd H1 p (.tup xs.reverse))
theorem pe_revT {X : Cx} {e : Expr} {te : TE} {k : Nat} {p1 p2 p3 pos : Pos} (he : PE X e te) : PE X (.Subscript e (.Slice none none (some (.UnaryOp .USub (.Constant (.int 1) k p1) p2)) p3) pos) (tRevT X.K te) := by
  refine ⟨fun pins s σ H Q I h => ?_⟩
  refine Subscript_ (thn (he.run pins s σ H _ I h) fun v s1 ⟨x, H1, I1, r1, q1⟩ => ?_)
  obtain ⟨a, xs, ex, hx, q⟩ := q1
  subst ex
  cases r1
  have hst : PO X (some (.UnaryOp .USub (.Constant (.int 1) k p1) p2)) (tPart (tUn (rU fun i => .int (-i)) (tC (.int 1)))) := po_some (pe_un un_neg pe_int)
  refine wpAny_Slice (thn (po_none.run pins s1 σ H1 (fun o H2 => o = none ∧ H2 = H1) I1 ⟨rfl, rfl⟩) fun vl s2 ⟨l, H2, I2, pl, el, e2⟩ => ?_)
  subst el e2
  refine thn (po_none.run pins s2 σ H2 (fun o H3 => o = none ∧ H3 = H2) I2 ⟨rfl, rfl⟩) fun vu s3 ⟨u, H3, I3, pu, eu, e3⟩ => ?_
  subst eu e3
  refine thn (hst.run pins s3 σ H3 (fun o H4 => o = some (-1) ∧ H4 = H3) I3 ⟨1, rfl, -1, rfl, rfl, rfl⟩) fun vs s4 ⟨o, H4, I4, ps, eo, e4⟩ => ?_
  subst eo e4
  obtain ⟨tk, rfl⟩ : ∃ tk, vs = .int (-1) tk := by
    cases ps
    exact ⟨_, rfl⟩
  obtain rfl : vl = .none := by
    cases pl
    rfl
  obtain rfl : vu = .none := by
    cases pu
    rfl
  have I5 : L2.Inv X pins σ H4 { s4 with heap := s4.heap.push { cls := .type "slice", data := .fields #[.none, .none, .int (-1) tk] } } := I4.kept (t' := s4.toks) fun b ob q => Heap.get?_push_of_some _ q
  obtain ⟨its, r, ht, hz⟩ := I5.tuple hx
  have hlen := r.length
  show wpAny (model X.prog X.w) X.A (subscriptTail e (.Slice none none (some (.UnaryOp .USub (.Constant (.int 1) k p1) p2)) p3) (.ref a) (.ref s4.heap.objs.size)) (EP X pins σ Q) X.xe { s4 with heap := s4.heap.push { cls := .type "slice", data := .fields #[.none, .none, .int (-1) tk] } }
  refine tail_any (ops := [.ref a, .ref s4.heap.objs.size]) ht.typeIs (PyProof.Rows.slot_tuple_getitem.lookup) ?_ (by with_unfolding_all rfl)
  refine HT.getItem_tuple_rev ht (Heap.IsSliceOf.new _ .none .none (.int (-1) tk)) ?_ (by rw [List.size_toArray]; omega)
  refine ⟨.ref _, _, I5.laid (t' := s4.toks) (o := .tup xs.reverse) (fun b ob q => Heap.get?_push_of_some _ q) (Nat.le_refl _) ?_, rfl, q _ (I5.hok.fresh (Nat.le_refl _))⟩
  refine ⟨by rw [List.length_reverse]; exact hz, its.reverse, r.reverse, _, Heap.get?_push_size _ rfl, rfl, 0, ?_⟩
  rfl
end K5
namespace K5
open PySem PySem.Spec PyProof.Rows L2
/-! ### a value of any kind, drawn beside a value -/
def Good (b : Addr) (H : Hp) (w n : Nat) (x : V) : Prop := ∃ d, Dq (hide b H) x d ∧ Res d w n
theorem Good.but {b : Addr} {H H' : Hp} {w n : Nat} {x : V} (h : Good b H w n x) (s : SameBut b H H') : Good b H' w n x := by
  obtain ⟨d, h1, h2⟩ := h
  exact ⟨d, h1.but s, h2⟩
theorem Good.same {b : Addr} {H H' : Hp} {w n : Nat} {x : V} (h : Good b H w n x) (s : Same H H') : Good b H' w n x := h.but (SameBut.of_same s)
theorem good_c {b : Addr} {H : Hp} {w n : Nat} {x : V} {d : PyData} (hx : Dq (hide b H) x d) (s : smallD d = true) (hd : d.hasDict = false ∨ listIn d = false) (hw : d.weight ≤ w) (hn : d.depth ≤ n) (hc : lenD d ≤ 20) : Good b H w n x := ⟨d, hx, s, fun e => by
  rcases hd with hd | hd
  · rw [hd] at e
    cases e
  · exact hd, hw, hn, hc⟩
def GoodA (b : Addr) (H : Hp) (w n : Nat) (xs : List V) : Prop := ∀ x ∈ xs, Good b H w n x
theorem GoodA.but {b : Addr} {H H' : Hp} {w n : Nat} {xs : List V} (h : GoodA b H w n xs) (s : SameBut b H H') : GoodA b H' w n xs := fun x hx => (h x hx).but s
theorem GoodA.app {b : Addr} {H : Hp} {w n : Nat} {xs ys : List V} (h : GoodA b H w n xs) (g : GoodA b H w n ys) : GoodA b H w n (xs ++ ys) := fun x hx => (List.mem_append.mp hx).elim (h x) (g x)
theorem GoodA.twice {b : Addr} {H : Hp} {w n : Nat} {xs : List V} (h : GoodA b H w n xs) (k : Nat) : GoodA b H w n (List.replicate k xs).flatten := fun x hx => by
  obtain ⟨l, hl, hx⟩ := List.mem_flatten.mp hx
  rw [(List.mem_replicate.mp hl).2] at hx
  exact h x hx
theorem DqA.drop {H : Hp} : ∀ {xs : List V} {ds : List PyData} (k : Nat), DqA H xs ds → DqA H (xs.drop k) (ds.drop k)
  | _, _, 0, h => h
  | _, _, k + 1, .nil => .nil
  | _, _, k + 1, .cons a b => DqA.drop k b
theorem DqA.take {H : Hp} : ∀ {xs : List V} {ds : List PyData} (k : Nat), DqA H xs ds → DqA H (xs.take k) (ds.take k)
  | _, _, 0, h => .nil
  | _, _, k + 1, .nil => .nil
  | _, _, k + 1, .cons a b => .cons a (DqA.take k b)
theorem DqA.rev {H : Hp} {xs : List V} {ds : List PyData} (h : DqA H xs ds) : DqA H xs.reverse ds.reverse := by
  induction ds generalizing xs with
  | nil =>
    cases h
    exact .nil
  | cons d ds ih =>
    cases h with
    | cons a b =>
      rw [List.reverse_cons, List.reverse_cons]
      exact DqA.app (ih b) (.cons a .nil)
theorem wA_take (k : Nat) (xs : List PyData) : PyData.weightAll (xs.take k) + PyData.weightAll (xs.drop k) = PyData.weightAll xs := by
  rw [← wA_app, List.take_append_drop]
theorem wA_rev (xs : List PyData) : PyData.weightAll xs.reverse = PyData.weightAll xs := by
  induction xs with
  | nil => rfl
  | cons x xs ih =>
    rw [List.reverse_cons, wA_app, ih]
    show PyData.weightAll xs + (PyData.weight x + 1 + 0) = PyData.weight x + 1 + PyData.weightAll xs
    omega
theorem pA_le {xs : List PyData} {n : Nat} : PyData.depthAll xs ≤ n ↔ ∀ x ∈ xs, x.depth ≤ n := by
  induction xs with
  | nil => exact ⟨fun _ x hx => (nomatch hx), fun _ => Nat.zero_le _⟩
  | cons x xs ih =>
    show max (PyData.depth x) (PyData.depthAll xs) ≤ n ↔ _
    rw [Nat.max_le, ih]
    constructor
    · rintro ⟨h1, h2⟩ y hy
      rcases List.mem_cons.mp hy with rfl | hy
      · exact h1
      · exact h2 y hy
    · exact fun h => ⟨h x (List.mem_cons_self ..), fun y hy => h y (List.mem_cons_of_mem _ hy)⟩
/-- parts of a tuple that is drawn from -/
theorem InD.sub {ds es : List PyData} {w n : Nat} (h : InD (.tuple ds) w n) (s : ∀ e ∈ es, e ∈ ds) (hw : PyData.weightAll es ≤ 2 * w) (hc : es.length ≤ 20) : Res (.tuple es) (2 * w) n := by
  have hi : inBA es = true := inBA_sub (in_tup h.i).2 s
  obtain ⟨a, b, c⟩ := in_okA es hi
  have hn : PyData.depthAll ds + 1 ≤ n := h.n
  refine ⟨a, fun _ => b, hw, ?_, hc⟩
  have : PyData.depthAll es ≤ n - 1 := pA_le.mpr fun x hx => by
    have := pA_le.mp (Nat.le_refl (PyData.depthAll ds)) x (s x hx)
    omega
  show PyData.depthAll es + 1 ≤ n
  omega
theorem InD.subL {ds : List PyData} {w n : Nat} (h : InD (.tuple ds) w n) : Res (.list ds) (2 * w) n := by
  obtain ⟨a, b, c⟩ := in_okA ds (in_tup h.i).2
  refine ⟨a, fun e => ?_, ?_, h.n, Nat.zero_le _⟩
  · have e : PyData.hasDictAll ds = true := e
    rw [c] at e
    cases e
  · have : PyData.weightAll ds ≤ w := h.w
    show PyData.weightAll ds ≤ 2 * w
    omega
end K5
namespace K5
open PySem PySem.Spec PyProof.Rows L2
/-! ### written lists of values that come -/
def GV (b : Addr) (w n : Nat) (te : TE) (σ : L2.St) (H : Hp) : Prop := ∀ H1, Same H H1 → ∀ Q : VK, (∀ x H', Same H1 H' → Good b H' w n x → Q x H') → te σ H1 Q
def GT (b : Addr) (w n k : Nat) (t : TA) (σ : L2.St) (H : Hp) : Prop := ∀ H1, Same H H1 → ∀ Q : List V → Hp → Prop, (∀ xs H', Same H1 H' → GoodA b H' w n xs → xs.length = k → Q xs H') → t σ H1 Q
section
variable {σ : L2.St} {H : Hp} {b : Addr} {w n k : Nat} {te : TE} {t : TA} {x : V} {o : HO}
theorem gt_nil : GT b w n 0 tNil σ H := fun H1 _ Q q => q [] H1 (Same.refl _) (fun _ h => nomatch h) rfl
theorem gt_cons (h : GV b w n te σ H) (g : GT b w n k t σ H) : GT b w n (k + 1) (tCons te t) σ H := fun H1 s Q q =>
  h H1 s _ fun x H2 s2 gx => g H2 (s.trans s2) _ fun xs H3 s3 gs l => q (x :: xs) H3 (s2.trans s3) (fun y hy => by
    rcases List.mem_cons.mp hy with rfl | hy
    · exact gx.same s3
    · exact gs y hy) (by rw [List.length_cons, l])
theorem gv_val (h : ∀ H1, Same H H1 → Val te σ H1 x ∧ Good b H1 w n x) : GV b w n te σ H := fun H1 s Q q => (h H1 s).1 _ (q x H1 (Same.refl _) (h H1 s).2)
theorem int_w85 : ∀ i : Fin 41, PyData.weight (.int ((i.val : Int) - 20)) ≤ 20 := by decide +kernel
theorem int_w85' {i : Int} (h : -20 ≤ i ∧ i ≤ 20) : PyData.weight (.int i) ≤ 20 := by
  have := int_w85 ⟨(i + 20).toNat, by omega⟩
  rw [show (((i + 20).toNat : Nat) : Int) - 20 = i by omega] at this
  exact this
theorem good_int {i : Int} (h : -20 ≤ i ∧ i ≤ 20) (hw : 20 ≤ w) : Good b H w n (.int i) := good_c (.int i) (decide_eq_true h) (.inl rfl) (Nat.le_trans (int_w85' h) hw) (Nat.zero_le _) (Nat.zero_le _)
theorem good_str {z : Str} (h : z ∈ S85) (hw : 20 ≤ w) : Good b H w n (.str z) := good_c (.str z) (decide_eq_true h) (.inl rfl) (Nat.le_trans (S85_ok z h).1 hw) (Nat.zero_le _) (Nat.zero_le _)
theorem good_non : Good b H w n .non := good_c .non rfl (.inl rfl) (Nat.zero_le _) (Nat.zero_le _) (Nat.zero_le _)
theorem good_bl (c : Bool) : Good b H w n (.bl c) := good_c (.bl c) rfl (.inl rfl) (Nat.zero_le _) (Nat.zero_le _) (Nat.zero_le _)
theorem gv_non : GV b w n (tC .non) σ H := gv_val fun _ _ => ⟨val_c, good_non⟩
theorem gv_bl {c : Bool} : GV b w n (tC (.bl c)) σ H := gv_val fun _ _ => ⟨val_c, good_bl c⟩
theorem gv_int {i : Int} (h : -20 ≤ i ∧ i ≤ 20) (hw : 20 ≤ w) : GV b w n (tC (.int i)) σ H := gv_val fun _ _ => ⟨val_c, good_int h hw⟩
theorem gv_neg {i : Int} (h : -20 ≤ -i ∧ -i ≤ 20) (hw : 20 ≤ w) : GV b w n (tUn (rU fun i => .int (-i)) (tC (.int i))) σ H := gv_val fun _ _ => ⟨val_neg val_c, good_int h hw⟩
theorem gv_str {z : Str} (h : z ∈ S85) (hw : 20 ≤ w) : GV b w n (tC (.str z)) σ H := gv_val fun _ _ => ⟨val_c, good_str h hw⟩
theorem hide_new {p : Addr} {u : HO} (hb : H b = some u) (np : H p = none) : hide b (upd H p o) p = some o := by
  rw [hide_at (ne_of_none hb np).symm]
  exact upd_same
theorem good_tup {p : Addr} {u : HO} {ys : List V} {es : List PyData} (hb : H b = some u) (np : H p = none) (a : DqA (hide b H) ys es) (r : Res (.tuple es) w n) : Good b (upd H p (.tup ys)) w n (.ref p) :=
  ⟨.tuple es, .tup (hide_new hb np) (DqA.mono (hide_same (same_upd np)) _ a), r⟩
theorem good_lst {p : Addr} {u : HO} {ys : List V} {es : List PyData} (hb : H b = some u) (np : H p = none) (a : DqA (hide b H) ys es) (r : Res (.list es) w n) : Good b (upd H p (.lst ys)) w n (.ref p) :=
  ⟨.list es, .lst (hide_new hb np) (DqA.mono (hide_same (same_upd np)) _ a), r⟩
theorem good_dic {p : Addr} {u : HO} (hb : H b = some u) (np : H p = none) (hn : 1 ≤ n) : Good b (upd H p (.dK [])) w n (.ref p) :=
  ⟨.dict [], .dic (hide_new hb np), rfl, fun _ => rfl, Nat.zero_le _, hn, Nat.zero_le _⟩
theorem gv_tup0 {u : HO} (hb : H b = some u) (hn : 1 ≤ n) : GV b w n (tTup tNil) σ H := fun H1 s Q q =>
  ⟨Nat.zero_le _, fun p np => q _ _ (same_upd np) (good_tup (s _ _ hb) np .nil ⟨rfl, fun _ => rfl, Nat.zero_le _, hn, Nat.zero_le _⟩)⟩
theorem gv_lst0 {u : HO} (hb : H b = some u) (hn : 1 ≤ n) : GV b w n (tLst tNil) σ H := fun H1 s Q q =>
  ⟨Nat.zero_le _, fun p np => q _ _ (same_upd np) (good_lst (s _ _ hb) np .nil ⟨rfl, (fun c => nomatch c), Nat.zero_le _, hn, Nat.zero_le _⟩)⟩
theorem gv_dic0 {u : HO} (hb : H b = some u) (hn : 1 ≤ n) : GV b w n tDNewK σ H := fun H1 s Q q p np => q _ _ (same_upd np) (good_dic (s _ _ hb) np hn)
theorem gv_tup1 {u : HO} {z : Str} (hb : H b = some u) (hz : z ∈ S85) (hw : 25 ≤ w) (hn : 1 ≤ n) : GV b w n (tTup (tCons (tC (.str z)) tNil)) σ H := fun H1 s Q q => by
  dsimp only [tTup, tCons, tNil]
  refine val_c _ ?_
  exact ⟨by show 1 ≤ sizeLine; decide, fun p np => q _ _ (same_upd np) (good_tup (s _ _ hb) np (.cons (.str z) .nil) ⟨(by
    show (decide (z ∈ S85) && true) = true
    rw [decide_eq_true hz]
    rfl), fun _ => rfl, (by
    have : z.cps.size ≤ 20 := (S85_ok z hz).1
    show z.cps.size + 1 + 0 ≤ w
    omega), hn, (by first | (show 1 ≤ 20; decide) | (show 2 ≤ 20; decide))⟩)⟩
theorem gv_tup2 {u : HO} {z y : Str} (hb : H b = some u) (hz : z ∈ S85) (hy : y ∈ S85) (hw : 50 ≤ w) (hn : 1 ≤ n) : GV b w n (tTup (tCons (tC (.str z)) (tCons (tC (.str y)) tNil))) σ H := fun H1 s Q q => by
  dsimp only [tTup, tCons, tNil]
  refine val_c _ (val_c _ ?_)
  exact ⟨by show 2 ≤ sizeLine; decide, fun p np => q _ _ (same_upd np) (good_tup (s _ _ hb) np (.cons (.str z) (.cons (.str y) .nil)) ⟨(by
    show (decide (z ∈ S85) && (decide (y ∈ S85) && true)) = true
    rw [decide_eq_true hz, decide_eq_true hy]
    rfl), fun _ => rfl, (by
    have h1 : z.cps.size ≤ 20 := (S85_ok z hz).1
    have h2 : y.cps.size ≤ 20 := (S85_ok y hy).1
    show z.cps.size + 1 + (y.cps.size + 1 + 0) ≤ w
    omega), hn, (by first | (show 1 ≤ 20; decide) | (show 2 ≤ 20; decide))⟩)⟩
/-! ### of a tuple that is drawn from -/
theorem hide_tup {a : Addr} {xs : List V} (h : hide b H a = some (.tup xs)) : H a = some (.tup xs) := hide_sub b H _ _ h
theorem gv_whole {a : Addr} {d : PyData} {i : Nat} {w0 n0 : Nat} (hi : σ[i]? = some (some x)) (hx : Dq (hide b H) x d) (r : InD d w0 n0) (hw : w0 ≤ w) (hn : n0 ≤ n) : GV b w n (tVar i) σ H :=
  gv_val fun H1 s => ⟨val_var hi, d, Dq.mono (hide_same s) _ hx, r.res hw hn⟩
end
theorem DqA.cut {H : Hp} {xs : List V} {ds : List PyData} (h : DqA H xs ds) (lo hi : Option Int) : ∃ es, DqA H (cutV xs lo hi) es ∧ (∀ e ∈ es, e ∈ ds) ∧ PyData.weightAll es ≤ PyData.weightAll ds ∧ es.length ≤ ds.length := by
  refine ⟨_, (h.drop _).take _, (fun e he => List.mem_of_mem_drop (List.mem_of_mem_take he)), ?_, by rw [List.length_take, List.length_drop]; omega⟩
  have h1 := wA_take (HT.sIx xs.length xs.length hi - HT.sIx xs.length 0 lo) (ds.drop (HT.sIx xs.length 0 lo))
  have h2 := wA_take (HT.sIx xs.length 0 lo) ds
  omega
section
variable {K : PySem.W.Frag} {σ : L2.St} {H : Hp} {b a : Addr} {w n i : Nat} {u : HO} {xs : List V} {ds : List PyData} {lo hi : Option Int} {tl th : TO}
theorem good_cut (hb : H b = some u) (hx : hide b H a = some (.tup xs)) (ha : DqA (hide b H) xs ds) (r : InD (.tuple ds) w n) (lo hi : Option Int) {Q : VK} (q : ∀ y H', Same H H' → Good b H' (2 * w) (n + 1) y → Q y H') : rSlA K (.ref a) lo hi H Q := by
  refine ⟨a, xs, rfl, SqT.of (hide_tup hx), fun _ => q _ _ (Same.refl _) ⟨.tuple ds, .tup hx ha, r.res (by omega) (by omega)⟩, fun _ p np => ?_⟩
  obtain ⟨es, h1, h2, h3, h4⟩ := ha.cut lo hi
  have l6 := (in_tup r.i).1
  have hw : PyData.weightAll ds ≤ w := r.w
  have r2 := r.sub h2 (by omega) (by omega)
  exact q _ _ (same_upd np) (good_tup hb np h1 ⟨r2.s, r2.l, r2.w, Nat.le_trans r2.n (Nat.le_succ _), r2.c⟩)
theorem gv_slice (hi' : σ[i]? = some (some (.ref a))) (hb : H b = some u) (hx : hide b H a = some (.tup xs)) (ha : DqA (hide b H) xs ds) (r : InD (.tuple ds) w n) (hl : ∀ H1 (Q : Option Int → Hp → Prop), Q lo H1 → tl σ H1 Q) (hh : ∀ H1 (Q : Option Int → Hp → Prop), Q hi H1 → th σ H1 Q) :
    GV b (2 * w) (n + 1) (tSl (rSlA K) (tVar i) tl th) σ H := fun H1 s Q q =>
  (val_var hi') _ (hl _ _ (hh _ _ (good_cut (s _ _ hb) (hide_same s _ _ hx) (DqA.mono (hide_same s) _ ha) r lo hi q)))
theorem gv_rev (hi' : σ[i]? = some (some (.ref a))) (hb : H b = some u) (hx : hide b H a = some (.tup xs)) (ha : DqA (hide b H) xs ds) (r : InD (.tuple ds) w n) : GV b (2 * w) (n + 1) (tRevT K (tVar i)) σ H := fun H1 s Q q => by
  have hw : PyData.weightAll ds ≤ w := r.w
  have r2 := r.sub (es := ds.reverse) (fun e he => List.mem_reverse.mp he) (by rw [wA_rev]; omega) (by rw [List.length_reverse]; have := (in_tup r.i).1; omega)
  exact (val_var hi') _ ⟨a, xs, rfl, SqT.of (hide_tup (hide_same s _ _ hx)), fun p np => q _ _ (same_upd np) (good_tup (s _ _ hb) np (DqA.mono (hide_same s) _ ha).rev ⟨r2.s, r2.l, r2.w, Nat.le_trans r2.n (Nat.le_succ _), r2.c⟩)⟩
theorem gv_list (hi' : σ[i]? = some (some (.ref a))) (hb : H b = some u) (hx : hide b H a = some (.tup xs)) (ha : DqA (hide b H) xs ds) (r : InD (.tuple ds) w n) :
    GV b (2 * w) (n + 1) (tCB (fun xs H Q => ∃ p ys, xs = [.ref p] ∧ (SqL K H p ys ∨ SqT K H p ys) ∧ ∀ l, H l = none → Q (.ref l) (upd H l (.lst ys))) (tCons (tVar i) tNil)) σ H := fun H1 s Q q => by
  have r2 := r.subL
  exact (val_var hi') _ ⟨a, xs, rfl, .inr (SqT.of (hide_tup (hide_same s _ _ hx))), fun p np => q _ _ (same_upd np) (good_lst (s _ _ hb) np (DqA.mono (hide_same s) _ ha) ⟨r2.s, r2.l, r2.w, Nat.le_trans r2.n (Nat.le_succ _), r2.c⟩)⟩
theorem gv_in1 (hi' : σ[i]? = some (some (.ref a))) (hb : H b = some u) (hx : hide b H a = some (.tup xs)) (ha : DqA (hide b H) xs ds) (r : InD (.tuple ds) w n) (w1 : 1 ≤ w) :
    GV b (2 * w) (n + 1) (tTup (tCons (tVar i) tNil)) σ H := fun H1 s Q q => by
  have r2 := r.res (w' := w) (n' := n) (Nat.le_refl _) (Nat.le_refl _)
  have rw_ := r2.w
  have rn := r2.n
  exact (val_var hi') _ ⟨by show 1 ≤ sizeLine; decide, fun p np => q _ _ (same_upd np) (good_tup (s _ _ hb) np (.cons (Dq.mono (hide_same s) _ (.tup hx ha)) .nil) ⟨(by
    show (smallD (.tuple ds) && true) = true
    rw [r2.s]
    rfl), (fun e => by
    have e : (PyData.hasDict (.tuple ds) || false) = true := e
    rw [Bool.or_false] at e
    show (listIn (.tuple ds) || false) = false
    rw [r2.l e]
    rfl), (by
    show PyData.weight (.tuple ds) + 1 + 0 ≤ 2 * w
    omega), (by
    show max (PyData.depth (.tuple ds)) 0 + 1 ≤ n + 1
    omega), (by show 1 ≤ 20; decide)⟩)⟩
theorem gv_cat1 (hi' : σ[i]? = some (some (.ref a))) (hb : H b = some u) (hx : hide b H a = some (.tup xs)) (ha : DqA (hide b H) xs ds) (r : InD (.tuple ds) w n) :
    GV b (2 * w) (n + 1) (tOp (rCatA K) (tVar i) (tSl (rSlA K) (tVar i) tNoPart (tPart (tC (.int 1))))) σ H := fun H1 s Q q => by
  have hw : PyData.weightAll ds ≤ w := r.w
  have hx1 := hide_same s _ _ hx
  have ha1 := DqA.mono (hide_same s) _ ha
  have len := ha.len
  have l6 := (in_tup r.i).1
  have big : ∀ {m : Nat}, m ≤ 200 → m ≤ sizeLine := fun h => Nat.le_trans h (by decide)
  refine (val_var hi') _ ((val_var hi') _ ?_)
  show tNoPart _ _ _
  refine ⟨1, rfl, ?_⟩
  refine ⟨a, xs, rfl, SqT.of (hide_tup hx1), fun _ => ?_, fun _ p np => ?_⟩
  · refine ⟨a, a, xs, xs, rfl, rfl, SqT.of (hide_tup hx1), SqT.of (hide_tup hx1), big (by omega), fun _ => ?_, fun _ _ => ?_, fun _ _ p np => ?_⟩
    · exact q _ _ (Same.refl _) ⟨.tuple ds, .tup hx1 ha1, r.res (by omega) (by omega)⟩
    · exact q _ _ (Same.refl _) ⟨.tuple ds, .tup hx1 ha1, r.res (by omega) (by omega)⟩
    · have r2 := r.sub (es := ds ++ ds) (fun e he => (List.mem_append.mp he).elim id id) (by rw [wA_app]; omega) (by rw [List.length_append]; omega)
      exact q _ _ (same_upd np) (good_tup (s _ _ hb) np (ha1.app ha1) ⟨r2.s, r2.l, r2.w, Nat.le_trans r2.n (Nat.le_succ _), r2.c⟩)
  · obtain ⟨es, h1, h2, h3, h4⟩ := ha1.cut none (some 1)
    have s1 := same_upd (o := .tup (cutV xs none (some 1))) np
    have hp : (upd H1 p (.tup (cutV xs none (some 1)))) p = some (.tup (cutV xs none (some 1))) := upd_same
    have cl := cutV_length xs none (some 1)
    have h1' := DqA.mono (hide_same s1) _ h1
    have hxp := hide_same s1 _ _ hx1
    have hap := DqA.mono (hide_same s1) _ ha1
    have hbp := s1 _ _ (s _ _ hb)
    have gp := good_tup (s _ _ hb) np h1 (w := 2 * w) (n := n + 1) (by
      have r2 := r.sub h2 (by omega) (by omega)
      exact ⟨r2.s, r2.l, r2.w, Nat.le_trans r2.n (Nat.le_succ _), r2.c⟩)
    refine ⟨a, p, xs, _, rfl, rfl, SqT.of (hide_tup hxp), SqT.of hp, big (by omega), fun _ => ?_, fun _ _ => ?_, fun _ _ p2 np2 => ?_⟩
    · exact q _ _ s1 gp
    · exact q _ _ s1 ⟨.tuple ds, .tup hxp hap, r.res (by omega) (by omega)⟩
    · have r2 := r.sub (es := ds ++ es) (fun e he => (List.mem_append.mp he).elim id (h2 e)) (by rw [wA_app]; omega) (by rw [List.length_append]; omega)
      exact q _ _ (s1.trans (same_upd np2)) (good_tup hbp np2 (hap.app h1') ⟨r2.s, r2.l, r2.w, Nat.le_trans r2.n (Nat.le_succ _), r2.c⟩)
end
/-! ### of a number -/
theorem str_in : ∀ j : Fin 8, (toString ((j.val : Int) - 3) : Str) ∈ S85 := by decide +kernel
theorem str_in' {i : Int} (h : -3 ≤ i ∧ i ≤ 4) : (toString i : Str) ∈ S85 := by
  have := str_in ⟨(i + 3).toNat, by omega⟩
  rw [show (((i + 3).toNat : Nat) : Int) - 3 = i by omega] at this
  exact this
section
variable {σ : L2.St} {H : Hp} {b : Addr} {w n j : Nat} {i : Int}
theorem gv_add (hj : σ[j]? = some (some (.int i))) (h : -3 ≤ i ∧ i ≤ 4) (hw : 20 ≤ w) : GV b w n (tOp (rI0 fun i j => .int (i + j)) (tVar j) (tC (.int 1))) σ H := gv_val fun _ _ => ⟨val_i0 (val_var hj) val_c, good_int (by omega) hw⟩
theorem gv_sub (hj : σ[j]? = some (some (.int i))) (h : -3 ≤ i ∧ i ≤ 4) (hw : 20 ≤ w) : GV b w n (tOp (rI0 fun i j => .int (i - j)) (tVar j) (tC (.int 1))) σ H := gv_val fun _ _ => ⟨val_i0 (val_var hj) val_c, good_int (by omega) hw⟩
theorem gv_stri (hj : σ[j]? = some (some (.int i))) (h : -3 ≤ i ∧ i ≤ 4) (hw : 20 ≤ w) : GV b w n (tCB (fun xs H Q => ∃ i, xs = [.int i] ∧ i.natAbs.log2 < 1920 ∧ Q (.str (toString i)) H) (tCons (tVar j) tNil)) σ H := gv_val fun _ _ => ⟨val_strI (val_var hj) (log_small (by omega)), good_str (str_in' h) hw⟩
theorem gv_eq1 (hj : σ[j]? = some (some (.int i))) : GV b w n (tOp rEq (tVar j) (tC (.int 1))) σ H := gv_val fun _ _ => ⟨val_op (z := .bl (decide (V.int i = V.int 1))) (val_var hj) val_c fun Q q => ⟨rfl, q⟩, good_bl _⟩
end
/-! ### the list of what is drawn from goes on -/
section
variable {σ : L2.St} {H : Hp} {b : Addr} {w n k : Nat} {t : TA} {te : TE} {c : TT} {u v : TS} {D : L2.Ends}
theorem lst_go (g : GT b w n k t σ H) (hk : k ≤ 100) {Q : VK} (q : ∀ p ys H', Same H H' → H p = none → H' p = some (.lst ys) → GoodA b H' w n ys → ys.length = k → Q (.ref p) H') : tLst t σ H Q :=
  g H (Same.refl _) _ fun ys H1 s1 g1 l1 => ⟨small_sz (by omega), fun p np => q p ys _ (s1.trans (same_upd np)) (s1.free np) upd_same (g1.but (SameBut.of_same (same_upd np))) l1⟩
theorem rep_go (g : GT b w n k t σ H) (hk : k ≤ 100) {Q : VK} (q : ∀ p ys H', Same H H' → H p = none → H' p = some (.lst ys) → GoodA b H' w n ys → ys.length = 2 * k → Q (.ref p) H') : tOp rRep (tLst t) (tC (.int 2)) σ H Q := by
  refine lst_go (H := H) g hk fun p ys H1 s1 _ hp g1 l1 => ?_
  show rRep _ _ _ _
  refine ⟨p, 2, ys, rfl, rfl, hp, by decide, by decide, small_sz (by rw [l1]; show k * 2 ≤ 1000; omega), fun p2 np2 => ?_⟩
  have s2 := same_upd (o := .lst (List.replicate (2 : Int).toNat ys).flatten) np2
  refine q p2 _ _ (s1.trans s2) (s1.free np2) upd_same ((g1.twice 2).but (SameBut.of_same s2)) ?_
  show (ys ++ (ys ++ [])).length = 2 * k
  rw [List.append_nil, List.length_append, l1]
  omega
theorem cat_go {l : Addr} {xs : List V} {j : Nat} (hj : σ[j]? = some (some (.ref l))) (hl : H l = some (.lst xs)) (hx : xs.length ≤ 400) (gx : GoodA b H w n xs)
    (hte : ∀ R : VK, (∀ p ys H', Same H H' → H' p = some (.lst ys) → GoodA b H' w n ys → ys.length ≤ 100 → R (.ref p) H') → te σ H R)
    {Q : VK} (q : ∀ p zs H', Same H H' → H p = none → H' p = some (.lst zs) → GoodA b H' w n zs → xs.length ≤ zs.length → zs.length ≤ xs.length + 100 → Q (.ref p) H') : tOp rCat (tVar j) te σ H Q := by
  refine (val_var hj) _ (hte _ fun p ys H1 s1 hp g1 l1 => ?_)
  refine ⟨l, p, xs, ys, rfl, rfl, s1 _ _ hl, hp, small_sz (by omega), fun p2 np2 => ?_⟩
  have s2 := same_upd (o := .lst (xs ++ ys)) np2
  exact q p2 _ _ (s1.trans s2) (s1.free np2) upd_same (((gx.but (SameBut.of_same s1)).app g1).but (SameBut.of_same s2)) (by rw [List.length_append]; omega) (by rw [List.length_append]; omega)
theorem if_seq {I : L2.St → Hp → Prop} {a : Bool} (hc : Ans c σ H a) (ht : a = true → ∀ D' : L2.Ends, (∀ σ' H', I σ' H' → D'.nx σ' H') → u D' σ H) (hf : a = false → I σ H) (k : ∀ σ' H', I σ' H' → v D σ' H') : tSeq (tIfS c u tNext) v D σ H := by
  refine hc _ ?_
  cases a with
  | true => exact iteT (ht rfl _ k)
  | false => exact iteF (k _ _ (hf rfl))
end
end K5
namespace K5
open PySem PySem.Spec PyProof.Rows L2
abbrev s__law_any : Stmt := topS 43
theorem sc__law_any : FnScope ["_law_box_here", "_law_thing", "_law_some"] ["_law_box_here", "_law_thing"] (defScope s__law_any) := ⟨rfl, rfl, rfl, by decide +kernel, rfl, by decide +kernel, by decide +kernel⟩
def spAny : Sp := fun vs H Q _ => ∃ (b : Addr) (x : V) (d : PyData) (w n : Nat) (p q m : Int), vs = [.ref b, x] ∧ H b = some (.lst (bx p q m)) ∧ Box p q m ∧ m < 1000000 ∧ Dq (hide b H) x d ∧ InD d w n ∧ 50 ≤ w ∧
  ∀ (H' : Hp) (y : V) (p' m' : Int), SameBut b H H' → H' b = some (.lst (bx p' q m')) → Box p' q m' → m' ≤ m + 1 → Good b H' (2 * w) (n + 1) y → Q y H'
theorem in85 : ("" : Str) ∈ S85 ∧ ("a" : Str) ∈ S85 ∧ ("any" : Str) ∈ S85 ∧ ("call" : Str) ∈ S85 ∧ ("answer" : Str) ∈ S85 ∧ ("A" : Str) ∈ S85 ∧ ("abcdefghi" : Str) ∈ S85 := by decide +kernel
theorem asg_seq {te : TE} {u : TS} {D : Ends} {σ : L2.St} {H : Hp} {i : Nat} (h : te σ H fun x H' => u D (σ.set i (some x)) H') : tSeq (tAsg te (gName i)) u D σ H := h
theorem asg_end {te : TE} {D : Ends} {σ : L2.St} {H : Hp} {i : Nat} (h : te σ H fun x H' => D.nx (σ.set i (some x)) H') : tAsg te (gName i) D σ H := h
section
variable {P : Program} {w : World} {K : PySem.W.Frag} {mg : Str → Option Value} {base : Heap}
theorem ok_any {f fO : Addr} {fd dO : FuncData} (B : Bt mg) (D : Df K mg "_law_any" s__law_any f fd ["_law_box_here", "_law_thing"]) (D__law_of : Df K mg "_law_of" s__law_of fO dO ["_law_box_here", "_law_some"]) (G__law_of : FnOk P w K mg base CX0 2 fO dO ["_law_box_here", "_law_some"] spOfB) :
    FnOk P w K mg base CX0 3 f fd ["_law_box_here", "_law_thing"] spAny := by
  refine D.F.ok sc__law_any (fun vs H Q E h => ?_) (fun cdv A outer s H vs Q E hr h => ?_)
  · obtain ⟨b, x, d, w, n, p, q, m, rfl, _⟩ := h
    rfl
  · obtain ⟨b, x, d, w, n, p, q, m, rfl, hb, Bx, hm, hx, hd, w50, k⟩ := h
    have S := sc__law_any
    refine ⟨_, (pss_cons (ps_set (i := 2) S.nd rfl (.inl rfl) (pe_lst (pa_cons pe_non (pa_cons pe_bl (pa_cons pe_int (pa_cons (pe_un un_neg pe_int) (pa_cons pe_int (pa_cons pe_int (pa_cons (pe_un un_neg pe_int) (pa_cons pe_str (pa_cons pe_str (pa_cons pe_str (pa_cons pe_str (pa_cons pe_str (pa_cons pe_str (pa_cons pe_str (pa_cons (pe_tup pa_nil) (pa_cons (pe_lst pa_nil) (pa_cons pe_dnewK pa_nil)))))))))))))))))))
      (pss_cons (ps_set (i := 2) S.nd rfl (.inl rfl) (pe_op op_cat (pv 2) (pe_lst (pa_cons (pe_tup (pa_cons pe_str (pa_cons pe_str pa_nil))) (pa_cons (pe_tup (pa_cons pe_str pa_nil)) pa_nil)))))
      (pss_cons (ps_if (pt_val (pe_callB call_isi (by rfl) B.m_isinstance PyProof.Rows.boot_isinstance (pa_cons (pv 1) (pa_cons (pe_tyN bt_tuple (by rfl) B.m_tuple) pa_nil))))
        (pss_one (ps_set (i := 2) S.nd rfl (.inl rfl) (pe_op op_cat (pv 2) (pe_op op_rep (pe_lst (pa_cons (pe_slice sl_tupA (pv 1) (po_some pe_int) po_none) (pa_cons (pe_revT (pv 1)) (pa_cons (pe_op op_catA (pv 1) (pe_slice sl_tupA (pv 1) po_none (po_some pe_int))) (pa_cons (pe_callTy call_list_of (by rfl) B.m_list PyProof.Rows.boot_list (pa_cons (pv 1) pa_nil)) (pa_cons (pe_tup (pa_cons (pv 1) pa_nil)) (pa_cons (pe_slice sl_tupA (pv 1) po_none (po_some (pe_un un_neg pe_int))) pa_nil))))))) pe_int))))
        pss_nil)
      (pss_cons (ps_if (PW.pt (pw_and (pt_val (pe_callB call_isi (by rfl) B.m_isinstance PyProof.Rows.boot_isinstance (pa_cons (pv 1) (pa_cons (pe_tyN bt_int (by rfl) B.m_int) pa_nil)))) (pw_and1 (pt_not (pt_val (pe_callB call_isi (by rfl) B.m_isinstance PyProof.Rows.boot_isinstance (pa_cons (pv 1) (pa_cons (pe_tyN bt_bool (by rfl) B.m_bool) pa_nil))))))))
        (pss_one (ps_set (i := 2) S.nd rfl (.inl rfl) (pe_op op_cat (pv 2) (pe_op op_rep (pe_lst (pa_cons (pe_op op_add (pv 1) pe_int) (pa_cons (pe_op op_sub (pv 1) pe_int) (pa_cons (pe_callTy call_str_int (by rfl) B.m_str (by decide +kernel) (pa_cons (pv 1) pa_nil)) (pa_cons (pe_cmpR op_eq (pv 1) pe_int (nomark _)) pa_nil))))) pe_int))))
        pss_nil)
      (pss_one (ps_ret (pe_call G__law_of (hr.mono (by decide)) (by rfl) D__law_of.g D__law_of.F.kp D__law_of.b .nil pass0 (pa_cons (pv 0) (pa_cons (pv 2) pa_nil))))))))), ?_⟩
    -- the end
    have hkd := hx.full.kit
    have w20 : 20 ≤ 2 * w := by omega
    have n1 : 1 ≤ n + 1 := by omega
    have g17 : ∀ σ, GT b (2 * w) (n + 1) 17 (tCons (tC .non) (tCons (tC (.bl true)) (tCons (tC (.int 0)) (tCons (tUn (rU fun i => .int (-i)) (tC (.int 1))) (tCons (tC (.int 3)) (tCons (tC (.int 4)) (tCons (tUn (rU fun i => .int (-i)) (tC (.int 3))) (tCons (tC (.str "")) (tCons (tC (.str "a")) (tCons (tC (.str "any")) (tCons (tC (.str "call")) (tCons (tC (.str "answer")) (tCons (tC (.str "A")) (tCons (tC (.str "abcdefghi")) (tCons (tTup tNil) (tCons (tLst tNil) (tCons tDNewK tNil))))))))))))))))) σ H := fun σ =>
      gt_cons gv_non (gt_cons gv_bl (gt_cons (gv_int (by decide) w20) (gt_cons (gv_neg (by decide) w20) (gt_cons (gv_int (by decide) w20) (gt_cons (gv_int (by decide) w20) (gt_cons (gv_neg (by decide) w20) (gt_cons (gv_str in85.1 w20) (gt_cons (gv_str in85.2.1 w20) (gt_cons (gv_str in85.2.2.1 w20) (gt_cons (gv_str in85.2.2.2.1 w20) (gt_cons (gv_str in85.2.2.2.2.1 w20) (gt_cons (gv_str in85.2.2.2.2.2.1 w20) (gt_cons (gv_str in85.2.2.2.2.2.2 w20) (gt_cons (gv_tup0 hb n1) (gt_cons (gv_lst0 hb n1) (gt_cons (gv_dic0 hb n1) gt_nil))))))))))))))))
    refine asg_seq (lst_go (g17 _) (by decide) fun l1 xs1 H1 s1 _ hl1 g1 len1 => ?_)
    have hb1 := s1 _ _ hb
    refine asg_seq (cat_go (j := 2) rfl hl1 (by omega) g1 (fun R r => lst_go (b := b) (w := 2 * w) (n := n + 1) (gt_cons (gv_tup2 hb1 in85.1 in85.2.1 (by omega) n1) (gt_cons (gv_tup1 hb1 in85.2.1 (by omega) n1) gt_nil)) (by decide) fun p ys H' s _ hp g len => r p ys H' s hp g (by omega)) fun l2 xs2 H2 s2 nl2 hl2 g2 le2 lt2 => ?_)


    have s02 := s1.trans s2
    have hb2 := s02 _ _ hb
    clear s1 s2 g1 hl1
    obtain ⟨T, kd, kt⟩ := hkd
    have kd2 := kd.mono s02
    refine if_seq (a := isT d) (I := fun σ' H' => ∃ l xs, σ' = [some (.ref b), some x, some (.ref l)] ∧ l ≠ b ∧ Same H H' ∧ H' l = some (.lst xs) ∧ GoodA b H' (2 * w) (n + 1) xs ∧ 0 < xs.length ∧ xs.length ≤ 300) (ans_val (val_isi (val_var rfl) kd2 kt)) (fun c D' k' => ?_) (fun _ => ⟨l2, xs2, rfl, (ne_of_none hb1 nl2).symm, s02, hl2, g2, by omega, by omega⟩) ?_
    · cases hx with
      | tup hxa ha =>
        rename_i a xs ds
        have hx2 := hide_same s02 _ _ hxa
        have ha2 := DqA.mono (hide_same s02) _ ha
        have o1 : ∀ (σ : L2.St) (H1 : Hp) (Q : Option Int → Hp → Prop), Q (some 1) H1 → tPart (tC (.int 1)) σ H1 Q := fun _ _ _ q => ⟨1, rfl, q⟩
        have o2 : ∀ (σ : L2.St) (H1 : Hp) (Q : Option Int → Hp → Prop), Q none H1 → tNoPart σ H1 Q := fun _ _ _ q => q
        have o3 : ∀ (σ : L2.St) (H1 : Hp) (Q : Option Int → Hp → Prop), Q (some (-1)) H1 → tPart (tUn (rU fun i => .int (-i)) (tC (.int 1))) σ H1 Q := fun _ _ _ q => ⟨1, rfl, -1, rfl, q⟩
        refine asg_end (cat_go (j := 2) rfl hl2 (by omega) g2 (fun R r => rep_go (b := b) (w := 2 * w) (n := n + 1)
          (gt_cons (gv_slice rfl hb2 hx2 ha2 hd (o1 _) (o2 _)) (gt_cons (gv_rev rfl hb2 hx2 ha2 hd) (gt_cons (gv_cat1 rfl hb2 hx2 ha2 hd) (gt_cons (gv_list rfl hb2 hx2 ha2 hd) (gt_cons (gv_in1 rfl hb2 hx2 ha2 hd (by omega)) (gt_cons (gv_slice rfl hb2 hx2 ha2 hd (o2 _) (o3 _)) gt_nil)))))) (by decide) fun p ys H' s _ hp g len => r p ys H' s hp g (by omega)) fun l3 xs3 H3 s3 nl3 hl3 g3 le3 lt3 => ?_)
        exact k' _ _ ⟨l3, xs3, rfl, (ne_of_none hb2 nl3).symm, s02.trans s3, hl3, g3, by omega, by omega⟩
      | _ => cases c
    rintro σ3 H3 ⟨l3, xs3, rfl, lb3, s03, hl3, g3, lo3, hi3⟩
    have hb3 := s03 _ _ hb
    have kd3 := kd.mono s03
    clear g2 hl2 s02 hb2 kd2
    refine if_seq (a := isIB x && !isB x) (I := fun σ' H' => ∃ l xs, σ' = [some (.ref b), some x, some (.ref l)] ∧ l ≠ b ∧ Same H H' ∧ H' l = some (.lst xs) ∧ GoodA b H' (2 * w) (n + 1) xs ∧ 0 < xs.length ∧ xs.length ≤ 500) (ans_and3 (ans_val (val_isi (val_var rfl) kd3 kd3.int_)) fun _ => ans_not (ans_val (val_isi (val_var rfl) kd3 kd3.bool_))) (fun c D' k' => ?_) (fun _ => ⟨l3, xs3, rfl, lb3, s03, hl3, g3, lo3, by omega⟩) ?_
    · cases hx with
      | int i =>
        have ri : -3 ≤ i ∧ i ≤ 4 := of_decide_eq_true hd.i
        refine asg_end (cat_go (j := 2) rfl hl3 (by omega) g3 (fun R r => rep_go (b := b) (w := 2 * w) (n := n + 1)
          (gt_cons (gv_add rfl ri w20) (gt_cons (gv_sub rfl ri w20) (gt_cons (gv_stri rfl ri w20) (gt_cons (gv_eq1 rfl) gt_nil)))) (by decide) fun p ys H' s _ hp g len => r p ys H' s hp g (by omega)) fun l4 xs4 H4 s4 nl4 hl4 g4 le4 lt4 => ?_)
        exact k' _ _ ⟨l4, xs4, rfl, (ne_of_none hb3 nl4).symm, s03.trans s4, hl4, g4, by omega, by omega⟩
      | _ => cases c
    rintro σ4 H4 ⟨l4, xs4, rfl, lb, s04, hl4, g4, lo4, hi4⟩
    have hb4 := s04 _ _ hb
    dsimp only [tRet, tCall, tCons, tNil]
    refine (val_var rfl) _ ((val_var rfl) _ ⟨b, l4, xs4, p, q, m, rfl, hb4, Bx, hm, hl4, lb, lo4, by omega, fun y p' m' hy B2 le => ?_⟩)
    exact k _ y p' m' ((SameBut.of_same s04).trans (SameBut.upd _ _ _)) upd_same B2 le ((g4 y hy).but (SameBut.upd _ _ _))
end
end K5
namespace K5
open PySem PySem.Spec PyProof.Rows L2
mutual
theorem in_lay : ∀ d : PyData, inB d = true → d.canLay0 = true
  | .none, _ => rfl
  | .bool _, _ => rfl
  | .int _, _ => rfl
  | .str z, h => (S85_ok z (of_decide_eq_true h)).2
  | .list _, h => by cases h
  | .tuple xs, h => in_layA xs (in_tup h).2
  | .dict _, h => by cases h
theorem in_layA : ∀ ds : List PyData, inBA ds = true → PyData.canLayAll0 ds = true
  | [], _ => rfl
  | d :: ds, h => by
    have h : (inB d && inBA ds) = true := h
    rw [Bool.and_eq_true] at h
    show (PyData.canLay0 d && PyData.canLayAll0 ds) = true
    rw [in_lay d h.1, in_layA ds h.2]
    rfl
end
theorem InD.shaped {d : PyData} {w n : Nat} (h : InD d w n) (hn : n ≤ 64) : SeqAt.shaped d = true := by
  show (d.canLay0 && decide (d.depth ≤ 64)) = true
  rw [in_lay d h.i, decide_eq_true (Nat.le_trans h.n hn)]
  rfl
theorem cut_to {xs : List V} {k : Nat} (h : k ≤ xs.length) : cutV xs none (some (k : Int)) = xs.take k := by
  unfold cutV
  rw [HT.sIx_none, HT.sIx_nat, Nat.min_eq_left h]
  rfl
theorem cut_from {xs : List V} {k : Nat} (h : k ≤ xs.length) : cutV xs (some (k : Int)) none = xs.drop k := by
  unfold cutV
  rw [HT.sIx_none, HT.sIx_nat, Nat.min_eq_left h, List.take_of_length_le]
  rw [List.length_drop]
  exact Nat.le_refl _
section
variable {K : PySem.W.Frag} {H : Hp} {a b : Addr} {xs ys : List V} {lo hi : Option Int} {Q : VK}
theorem catA_any (ha : H a = some (.tup xs)) (hb : H b = some (.tup ys)) (sm : xs.length + ys.length ≤ 1000) (q : ∀ p H', Same H H' → H' p = some (.tup (xs ++ ys)) → Q (.ref p) H') : rCatA K (.ref a) (.ref b) H Q := by
  refine ⟨a, b, xs, ys, rfl, rfl, SqT.of ha, SqT.of hb, small_sz sm, fun e => ?_, fun _ e => ?_, fun _ _ p np => ?_⟩
  · refine q b H (Same.refl _) ?_
    rw [e]
    exact hb
  · refine q a H (Same.refl _) ?_
    rw [e, List.append_nil]
    exact ha
  · exact q p _ (same_upd np) upd_same
theorem slA_any (ha : H a = some (.tup xs)) (q : ∀ p H', Same H H' → H' p = some (.tup (cutV xs lo hi)) → Q (.ref p) H') : rSlA K (.ref a) lo hi H Q := by
  refine ⟨a, xs, rfl, SqT.of ha, fun e => ?_, fun _ p np => ?_⟩
  · refine q a H (Same.refl _) ?_
    unfold cutV
    rw [e.1, e.2, Nat.sub_zero, List.drop_zero, List.take_length]
    exact ha
  · exact q p _ (same_upd np) upd_same
theorem hide_t {u : List V} (hb : H b = some (.lst u)) (ha : H a = some (.tup xs)) : hide b H a = some (.tup xs) := by
  rw [hide_at fun e => ?_]
  · exact ha
  · rw [e, hb] at ha
    injection ha with ha
    cases ha
end
abbrev s__law_bent : Stmt := topS 44
theorem sc__law_bent : FnScope ["_law_box_here", "_law_thing", "_law_deep", "_law_at"] ["_law_box_here", "_law_thing", "_law_deep"] (defScope s__law_bent) := ⟨rfl, rfl, rfl, by decide +kernel, rfl, by decide +kernel, by decide +kernel⟩
def spBent (e : Nat) : Sp := fun vs H Q _ => ∃ (b : Addr) (x : V) (d : PyData) (w n : Nat) (p q m : Int), vs = [.ref b, x, .int (e : Nat)] ∧ H b = some (.lst (bx p q m)) ∧ Box p q m ∧ m + 2 * e + 2 < 1000000 ∧ Dq (hide b H) x d ∧ InD d w n ∧ 50 ≤ w ∧ n ≤ 40 ∧
  ∀ (H' : Hp) (y : V) (p' m' : Int), SameBut b H H' → H' b = some (.lst (bx p' q m')) → Box p' q m' → m' ≤ m + 2 * e + 2 → Good b H' ((e + 2) * w) (n + 1 + e) y → Q y H'
def spRec : Nat → Sp
  | 0 => fun _ _ _ _ => False
  | e + 1 => spBent e
theorem Good.le {b : Addr} {H : Hp} {w n w' n' : Nat} {x : V} (h : Good b H w n x) (hw : w ≤ w') (hn : n ≤ n') : Good b H w' n' x := by
  obtain ⟨d, h1, h2⟩ := h
  exact ⟨d, h1, h2.s, h2.l, Nat.le_trans h2.w hw, Nat.le_trans h2.n hn, h2.c⟩
theorem mul_le' (e w : Nat) : 2 * w ≤ (e + 2) * w := Nat.mul_le_mul_right w (by omega)
section
variable {P : Program} {w : World} {K : PySem.W.Frag} {mg : Str → Option Value} {base : Heap}
theorem ok_bent {f fT fA : Addr} {fd dT dA : FuncData} {e kb : Nat} (kb3 : 3 ≤ kb) (B : Bt mg) (D : Df K mg "_law_bent" s__law_bent f fd ["_law_box_here", "_law_thing", "_law_deep"]) (D__law_take : Df K mg "_law_take" sTake fT dT ["_law_box_here", "_law_many"])
    (D__law_any : Df K mg "_law_any" s__law_any fA dA ["_law_box_here", "_law_thing"]) (G__law_any : FnOk P w K mg base CX0 3 fA dA ["_law_box_here", "_law_thing"] spAny)
    (G__law_bent : FnOk P w K mg base CX0 kb f fd ["_law_box_here", "_law_thing", "_law_deep"] (spRec e)) :
    FnOk P w K mg base CX0 (kb + 1) f fd ["_law_box_here", "_law_thing", "_law_deep"] (spBent e) := by
  have G__law_take : FnOk P w K mg base CX0 1 fT dT ["_law_box_here", "_law_many"] spTake := ok_take (CX := CX0) D__law_take.F B.m_int
  have D__law_bent := D
  refine D.F.ok sc__law_bent (fun vs H Q E h => ?_) (fun cdv A outer s H vs Q E hr h => ?_)
  · obtain ⟨b, x, d, w, n, p, q, m, rfl, _⟩ := h
    rfl
  · obtain ⟨b, x, d, w, n, p, q, m, rfl, hb, Bx, hm, hx, hd, w50, n40, k⟩ := h
    have S := sc__law_bent
    have hu := hr.units
    refine ⟨_, (pss_cons (ps_if (PW.pt (pw_or (pt_cmpR op_eq (pv 2) pe_int (nomark _)) (pw_or (pt_not (pt_val (pe_callB call_isi (by rfl) B.m_isinstance PyProof.Rows.boot_isinstance (pa_cons (pv 1) (pa_cons (pe_tyN bt_tuple (by rfl) B.m_tuple) pa_nil))))) (pw_or (pt_cmpR (op_eqD (by exact hu)) (pv 1) (pe_tup pa_nil) (nomark _)) (pw_or1 (pt_cmpR op_eq (pe_call G__law_take (hr.mono (by omega)) (by rfl) D__law_take.g D__law_take.F.kp D__law_take.b .nil pass0 (pa_cons (pv 0) (pa_cons pe_int pa_nil))) pe_int (nomark _)))))))
        (pss_one (ps_ret (pe_call G__law_any (hr.mono (by omega)) (by rfl) D__law_any.g D__law_any.F.kp D__law_any.b .nil pass0 (pa_cons (pv 0) (pa_cons (pv 1) pa_nil)))))
        pss_nil)
      (pss_cons (ps_set (i := 3) S.nd rfl (.inl rfl) (pe_call G__law_take (hr.mono (by omega)) (by rfl) D__law_take.g D__law_take.F.kp D__law_take.b .nil pass0 (pa_cons (pv 0) (pa_cons (pe_callB call_len_seq (by rfl) B.m_len PySem.boot_len (pa_cons (pv 1) pa_nil)) pa_nil))))
      (pss_one (ps_ret (pe_op op_catA (pe_op op_catA (pe_slice sl_tupA (pv 1) po_none (po_some (pv 3))) (pe_tup (pa_cons (pe_call G__law_bent (hr.mono (by omega)) (by rfl) D__law_bent.g D__law_bent.F.kp D__law_bent.b .nil pass0 (pa_cons (pv 0) (pa_cons (pe_ix ix_tup (pv 1) (pv 3) (fun _ _ => rfl)) (pa_cons (pe_op op_sub (pv 2) pe_int) pa_nil)))) pa_nil))) (pe_slice sl_tupA (pv 1) (po_some (pe_op op_add (pv 3) pe_int)) po_none)))))), ?_⟩
    have any : ∀ (σ3 : Option V) (H1 : Hp) (p1 m1 : Int), SameBut b H H1 → H1 b = some (.lst (bx p1 q m1)) → Box p1 q m1 → m1 ≤ m + 1 →
        tRet (tCall spAny [] E0 (tCons (tVar 0) (tCons (tVar 1) tNil))) { nx := fun _ G' => Q .non G', rt := Q } [some (.ref b), some x, some (.int (e : Nat)), σ3] H1 := fun σ3 H1 p1 m1 s1 hb1 B1 le1 => by
      dsimp only [tRet, tCall, tCons, tNil]
      refine (val_var rfl) _ ((val_var rfl) _ ?_)
      refine ⟨b, x, d, w, n, p1, q, m1, rfl, hb1, B1, by omega, hx.but s1, hd, w50, fun H' y p' m' s' hb' B' le' g => ?_⟩
      exact k H' y p' m' (s1.trans s') hb' B' (by omega) (g.le (mul_le' e w) (by omega))
    have r0 : SameBut b H H := fun _ _ _ h => h
    try dsimp only [tSeq, tIfS, tOr]
    refine (ans_eq2 (val_var rfl) val_c rfl) _ ?_
    refine ite2 (fun _ => iteT (any _ H p m r0 hb Bx (by omega))) fun e0 => ?_
    obtain ⟨e, rfl⟩ : ∃ c, e = c + 1 := by
      cases e with
      | zero => exact absurd (decide_eq_true rfl) e0
      | succ c => exact ⟨c, rfl⟩
    clear e0
    obtain ⟨T, kd, kt⟩ := hx.full.kit
    refine (ans_not (ans_val (val_isi (val_var rfl) kd kt))) _ ?_
    refine ite2 (fun _ => iteT (any _ H p m r0 hb Bx (by omega))) fun c => ?_
    cases hx with
    | tup hxa ha =>
      rename_i a xs ds
      clear kd kt c
      have hxt := hide_tup hxa
      try dsimp only [tTest, tOp, tTup, tNil]
      refine (val_var rfl) _ ⟨Nat.zero_le _, fun u nu => ?_⟩
      have s1 := same_upd (o := .tup []) nu
      have hu1 : (upd H u (.tup [])) u = some (.tup []) := upd_same
      generalize (upd H u (.tup [])) = H1 at s1 hu1 ⊢
      have hb1 := s1 _ _ hb
      have hx1 := hide_same s1 _ _ hxa
      have ha1 := DqA.mono (hide_same s1) _ ha
      have i1 := in_okA ds (in_tup hd.i).2
      refine ⟨.tuple ds, .tuple [], .tup (SqT.of (hide_tup hx1)) (DqA.dp ds i1.2.2 (DqA.mono (hide_sub b H1) _ ha1)), .tup (SqT.of hu1) .nil, hd.shaped (by omega), by decide, ?_⟩
      refine ⟨_, rfl, ?_⟩
      refine ite2 (fun _ => iteT (any _ H1 p m (SameBut.of_same s1) hb1 Bx (by omega))) fun ne => ?_
      have ne : ds ≠ [] := fun z => by
        rw [z] at ne
        exact ne (by decide)
      have l0 : 0 < ds.length := List.length_pos_iff.mpr ne
      have l6 := (in_tup hd.i).1
      refine take_box rfl val_c hb1 Bx (by decide) (by decide) (by omega) fun d2 p2 m2 _ _ B2 le2 => ?_
      have sb2 : SameBut b H (upd H1 b (.lst (bx p2 q m2))) := (SameBut.of_same s1).trans (SameBut.upd _ _ _)
      have hb2 : (upd H1 b (.lst (bx p2 q m2))) b = some (.lst (bx p2 q m2)) := upd_same
      generalize (upd H1 b (.lst (bx p2 q m2))) = H2 at sb2 hb2 ⊢
      refine val_c _ ⟨rfl, _, rfl, ?_⟩
      refine ite2 (fun _ => any _ H2 p2 m2 sb2 hb2 B2 (by omega)) fun _ => ?_
      clear s1 hu1 hb1 hx1 ha1 any
      have ha2 := DqA.mono (hide_but sb2) _ ha
      have hx2 := hide_but sb2 _ _ hxa
      try dsimp only [tNext, tSeq, tAsg]
      have len := ha.len
      refine take_box rfl (val_lenT (val_var rfl) (SqT.of (hide_tup hx2))) hb2 B2 (by omega) (by omega) (by omega) fun at' p3 m3 a0 a1 B3 le3 => ?_
      obtain ⟨at', rfl⟩ : ∃ c : Nat, at' = (c : Int) := ⟨at'.toNat, by omega⟩
      have al : at' < ds.length := by omega
      have sb3 : SameBut b H (upd H2 b (.lst (bx p3 q m3))) := sb2.trans (SameBut.upd _ _ _)
      have hb3 : (upd H2 b (.lst (bx p3 q m3))) b = some (.lst (bx p3 q m3)) := upd_same
      generalize (upd H2 b (.lst (bx p3 q m3))) = H3 at sb3 hb3 ⊢
      clear hb2 sb2 ha2 hx2
      have ha3 := DqA.mono (hide_but sb3) _ ha
      have hx3 := hide_tup (hide_but sb3 _ _ hxa)
      try dsimp only [gName, tRet, tOp, tSl]
      refine (val_var rfl) _ ?_
      try dsimp only [tNoPart, tPart]
      refine (val_var rfl) _ ⟨_, rfl, ?_⟩
      refine slA_any hx3 fun c1 H4 s4 hc1 => ?_
      rw [cut_to (by omega)] at hc1
      have hb4 := s4 _ _ hb3
      have hx4 := s4 _ _ hx3
      try dsimp only [tTup, tCall, tCons, tNil, tOp]
      obtain ⟨v, ev, qv⟩ := ha3.at_ at' (List.getElem?_eq_getElem al)
      refine (val_var rfl) _ ((val_var rfl) _ ((val_var rfl) _ ⟨a, xs, (at' : Int), v, rfl, rfl, SqT.of hx4, atI_nat ev, ?_⟩))
      refine (val_var rfl) _ (val_c _ ⟨_, _, rfl, rfl, ?_⟩)
      refine ⟨b, v, ds[at'], w, n, p3, q, m3, by show [V.ref b, v, V.int (((e + 1 : Nat) : Int) - 1)] = _; rw [show (((e + 1 : Nat) : Int) - 1) = (e : Nat) by omega], hb4, B3, by omega, Dq.mono (hide_same s4) _ qv, ?_, w50, n40, fun H5 y p5 m5 sb5 hb5 B5 le5 gy => ?_⟩
      · exact (InD.at_ (hd.le (Nat.le_refl _) (Nat.le_succ n)) (List.getElem?_eq_getElem al))
      have sb35 : SameBut b H3 H5 := (SameBut.of_same s4).trans sb5
      have tn : ∀ {c : Addr} {zs : List V}, H4 c = some (.tup zs) → H5 c = some (.tup zs) := fun hc => sb5 _ _ (fun e => by
        rw [e, hb4] at hc
        injection hc with hc
        cases hc) hc
      have hc5 := tn hc1
      have hx5 := tn hx4
      refine ⟨by show 1 ≤ sizeLine; decide, fun c2 nc2 => ?_⟩
      have s6 := same_upd (o := .tup [y]) nc2
      have hc2 : (upd H5 c2 (.tup [y])) c2 = some (.tup [y]) := upd_same
      generalize (upd H5 c2 (.tup [y])) = H6 at s6 hc2 ⊢
      refine catA_any (s6 _ _ hc5) hc2 (by rw [List.length_take]; show _ + 1 ≤ 1000; omega) fun c3 H7 s7 hc3 => ?_
      have s57 := s6.trans s7
      have hx7 := s57 _ _ hx5
      refine (val_var rfl) _ ?_
      try dsimp only [tNoPart, tPart]
      refine (val_var rfl) _ (val_c _ ⟨_, _, rfl, rfl, _, rfl, ?_⟩)
      refine slA_any hx7 fun c4 H8 s8 hc4 => ?_
      rw [show ((at' : Nat) : Int) + 1 = ((at' + 1 : Nat) : Int) by omega, cut_from (by omega)] at hc4
      refine catA_any (s8 _ _ hc3) hc4 (by rw [List.length_append, List.length_take, List.length_drop]; show _ + 1 + _ ≤ 1000; omega) fun c5 H9 s9 hc5' => ?_
      have s59 := s57.trans (s8.trans s9)
      have sb9 : SameBut b H3 H9 := sb35.trans (SameBut.of_same s59)
      have hb9 := s59 _ _ hb5
      have g9 := gy.same s59
      obtain ⟨dy, qy, ry⟩ := g9
      have ha9 := DqA.mono (hide_but sb9) _ ha3
      refine k H9 (.ref c5) p5 m5 (sb3.trans sb9) hb9 B5 (by omega) ⟨.tuple (ds.take at' ++ (dy :: ds.drop (at' + 1))), .tup (hide_t hb9 hc5') ?_, ?_⟩
      · rw [List.append_assoc]
        exact (ha9.take at').app (.cons qy (ha9.drop (at' + 1)))
      · have e3 : (e + 1 + 2) * w = w + (e + 2) * w := by
          rw [show e + 1 + 2 = 1 + (e + 2) by omega, Nat.add_mul, Nat.one_mul]
        rw [e3]
        refine Res.place (d0 := ds[at']) (n := n + 1 + e) ?_ ry
        rw [← List.drop_eq_getElem_cons al, List.take_append_drop]
        exact hd.le (Nat.le_refl _) (by omega)
    | _ => exact absurd rfl c
theorem ok_bents {f fT fA : Addr} {fd dT dA : FuncData} (B : Bt mg) (D : Df K mg "_law_bent" s__law_bent f fd ["_law_box_here", "_law_thing", "_law_deep"]) (D__law_take : Df K mg "_law_take" sTake fT dT ["_law_box_here", "_law_many"])
    (D__law_any : Df K mg "_law_any" s__law_any fA dA ["_law_box_here", "_law_thing"]) (G__law_any : FnOk P w K mg base CX0 3 fA dA ["_law_box_here", "_law_thing"] spAny) :
    FnOk P w K mg base CX0 8 f fd ["_law_box_here", "_law_thing", "_law_deep"] (spBent 4) := by
  have G0 : FnOk P w K mg base CX0 3 f fd ["_law_box_here", "_law_thing", "_law_deep"] (spRec 0) := D.F.ok sc__law_bent (fun vs H Q E h => h.elim) (fun cdv A outer s H vs Q E hr h => h.elim)
  have G1 := ok_bent (e := 0) (by decide) B D D__law_take D__law_any G__law_any G0
  have G2 := ok_bent (e := 1) (by decide) B D D__law_take D__law_any G__law_any G1
  have G3 := ok_bent (e := 2) (by decide) B D D__law_take D__law_any G__law_any G2
  have G4 := ok_bent (e := 3) (by decide) B D D__law_take D__law_any G__law_any G3
  exact ok_bent (e := 4) (by decide) B D D__law_take D__law_any G__law_any G4
end
end K5
namespace K5
open PySem PySem.Spec PyProof.Rows L2
/-! ### lists of texts that are built -/
def LsAt (H : Hp) (p : Addr) (ws : List Str) : Prop := H p = some (.lst (ws.map V.str))
/-- the list of texts ws is made, in whatever heap holds what H holds -/
def LV (te : TE) (σ : L2.St) (H : Hp) (ws : List Str) : Prop := ∀ (H1 : Hp) (Q : VK), Same H H1 → (∀ (H' : Hp) (p : Addr), Same H1 H' → LsAt H' p ws → Q (.ref p) H') → te σ H1 Q
/-- the text z, likewise -/
def SV (te : TE) (σ : L2.St) (H : Hp) (z : Str) : Prop := ∀ (H1 : Hp), Same H H1 → Val te σ H1 (.str z)
section
variable {K : PySem.W.Frag} {σ : L2.St} {H : Hp} {ta tb : TE} {ws us : List Str} {z y : Str} {p : Addr} {j : Nat}
theorem SV.c : SV (tC (.str z)) σ H z := fun H1 _ => val_c
theorem SV.v (h : σ[j]? = some (some (.str z))) : SV (tVar j) σ H z := fun H1 _ => val_var h
def rAddS : R2 := fun x y H Q => ∃ i j, x = .str i ∧ y = .str j ∧ i.length + j.length ≤ sizeLine ∧ Q (.str (i ++ j)) H
theorem SV.add (ha : SV ta σ H z) (hb : SV tb σ H y) (hz : z.length + y.length ≤ 10000000) : SV (tOp rAddS ta tb) σ H (z ++ y) := fun H1 s => val_op (ha H1 s) (hb H1 s) fun Q q => ⟨z, y, rfl, rfl, big_size hz, q⟩
theorem LV.v (h : σ[j]? = some (some (.ref p))) (hp : LsAt H p ws) : LV (tVar j) σ H ws := fun H1 Q s q => (val_var h) _ (q H1 p (Same.refl _) (s _ _ hp))
theorem LV.cat (ha : LV ta σ H ws) (hb : LV tb σ H us) (hz : ws.length + us.length ≤ 1000) : LV (tOp rCat ta tb) σ H (ws ++ us) := fun H1 Q s q => ha H1 _ s fun H2 p1 s2 h1 => hb H2 _ (s.trans s2) fun H3 p2 s3 h2 => by
  refine ⟨p1, p2, ws.map V.str, us.map V.str, rfl, rfl, s3 _ _ h1, h2, by rw [List.length_map, List.length_map]; exact Nat.le_trans hz (by decide), fun p np => q _ p ((s2.trans s3).trans (same_upd np)) ?_⟩
  unfold LsAt
  rw [upd_same, List.map_append]
theorem LV.rep {k : Nat} (ha : LV ta σ H ws) (hk : k ≤ 100) (hz : ws.length ≤ 100) : LV (tOp rRep ta (tC (.int k))) σ H (List.replicate k ws).flatten := fun H1 Q s q => ha H1 _ s fun H2 p1 s2 h1 => by
  refine ⟨p1, k, ws.map V.str, rfl, rfl, h1, by omega, by omega, ?_, fun p np => q _ p (s2.trans (same_upd np)) ?_⟩
  · rw [List.length_map, Int.toNat_natCast]
    exact Nat.le_trans (Nat.mul_le_mul hz hk) (by decide)
  · unfold LsAt
    rw [upd_same, List.map_flatten, List.map_replicate, Int.toNat_natCast]
def OV (t : TO) (σ : L2.St) (o : Option Int) : Prop := ∀ (H : Hp) (Q : Option Int → Hp → Prop), Q o H → t σ H Q
theorem OV.no : OV tNoPart σ none := fun _ _ q => q
theorem OV.yes {te : TE} {i : Int} (h : ∀ H : Hp, Val te σ H (.int i)) : OV (tPart te) σ (some i) := fun H Q q => (h H) _ ⟨i, rfl, q⟩
def cutL {α : Type} (xs : List α) (lo hi : Option Int) : List α := (xs.drop (HT.sIx xs.length 0 lo)).take (HT.sIx xs.length xs.length hi - HT.sIx xs.length 0 lo)
theorem cutV_map (lo hi : Option Int) : cutV (ws.map V.str) lo hi = (cutL ws lo hi).map V.str := by
  unfold cutV cutL
  rw [List.length_map, List.map_take, List.map_drop]
theorem LV.cut {lo hi : Option Int} {tl th : TO} (ha : LV ta σ H ws) (hl : OV tl σ lo) (hh : OV th σ hi) : LV (tSl (rSlL K) ta tl th) σ H (cutL ws lo hi) := fun H1 Q s q => ha H1 _ s fun H2 p1 s2 h1 => hl _ _ (hh _ _ ⟨p1, _, rfl, SqL.of h1, fun p np => q _ p (s2.trans (same_upd np)) (by
  unfold LsAt
  rw [upd_same, cutV_map])⟩)
theorem LV.nil : LV (tLst tNil) σ H [] := fun H1 Q _ q => ⟨Nat.zero_le _, fun p np => q _ p (same_upd np) upd_same⟩
theorem LV.one (ha : SV ta σ H z) : LV (tLst (tCons ta tNil)) σ H [z] := fun H1 Q s q => (ha H1 s) _ ⟨by show 1 ≤ sizeLine; decide, fun p np => q _ p (same_upd np) upd_same⟩
theorem LV.two (ha : SV ta σ H z) (hb : SV tb σ H y) : LV (tLst (tCons ta (tCons tb tNil))) σ H [z, y] := fun H1 Q s q => (ha H1 s) _ ((hb H1 s) _ ⟨by show 2 ≤ sizeLine; decide, fun p np => q _ p (same_upd np) upd_same⟩)
end
theorem app_len' (x y : Str) : (x ++ y).length = x.length + y.length := len_app x y
theorem app_assoc3 (x y z : Str) : x ++ y ++ z = x ++ (y ++ z) := by
  refine str_eq ?_
  rw [cps_append, cps_append, cps_append, cps_append, List.append_assoc]
theorem join2 (c x z : Str) (r : List Str) : Str.join c (x :: z :: r) = x ++ (c ++ Str.join c (z :: r)) := by
  show x ++ c ++ Str.join c (z :: r) = _
  rw [app_assoc3]
theorem space' : (" " : Str) = ⟨#[32]⟩ := by decide +kernel
theorem split_ne (x : Str) (c : Nat) : Txt.split x ⟨#[c]⟩ ≠ [] := by
  unfold Txt.split
  split
  · exact fun e => nomatch e
  · split
    · exact fun e => nomatch e
    · rw [StrLaws.partsBetween_eq]
      obtain ⟨p, r, h⟩ := StrLaws.partsFrom_ne x (⟨#[c]⟩ : Str).length 0 (Builtin.Str.occurrences x ⟨#[c]⟩ 0 x.length (x.length + 1))
      rw [h]
      exact fun e => nomatch e
/-! ### how much text stands in rows -/
def Wt (xs : List Str) : Nat := (xs.map fun z => z.length + 1).sum
theorem Wt_cons (z : Str) (r : List Str) : Wt (z :: r) = z.length + 1 + Wt r := by
  unfold Wt
  rw [List.map_cons, List.sum_cons]
theorem Wt_nil : Wt [] = 0 := rfl
theorem Wt_app : ∀ a b : List Str, Wt (a ++ b) = Wt a + Wt b
  | [], b => (Nat.zero_add _).symm
  | z :: a, b => by rw [List.cons_append, Wt_cons, Wt_cons, Wt_app a b]; omega
theorem Wt_join {c : Str} (hc : c.length = 1) : ∀ {ps : List Str}, ps ≠ [] → (Str.join c ps).length + 1 = Wt ps
  | [], h => absurd rfl h
  | [x], _ => by
    rw [Wt_cons, Wt_nil]
    rfl
  | x :: y :: r, _ => by
    have ih := Wt_join hc (ps := y :: r) (fun z => nomatch z)
    rw [join2, app_len', app_len', hc, Wt_cons]
    omega
theorem Wt_join_le {c : Str} (hc : c.length = 1) (ps : List Str) : (Str.join c ps).length ≤ Wt ps := by
  cases ps with
  | nil => exact Nat.le_refl _
  | cons x r =>
    have := Wt_join hc (ps := x :: r) (fun z => nomatch z)
    omega
theorem nl1 : ("\n" : Str).length = 1 := by decide +kernel
theorem sp1 : (" " : Str).length = 1 := by decide +kernel
theorem nlC : ("\n" : Str) = ⟨#[10]⟩ := by decide +kernel
theorem Wt_rows (z : Str) : Wt (rowsOf z) = z.length + 1 := by
  have ne : rowsOf z ≠ [] := by
    unfold rowsOf
    rw [nlC]
    exact split_ne _ _
  have := Wt_join nl1 ne
  unfold rowsOf at this ⊢
  rw [StrLaws.join_split] at this
  exact this.symm
theorem Wt_blank (z : Str) : Wt (Txt.split z " ") = z.length + 1 := by
  have ne : Txt.split z " " ≠ [] := by
    rw [space']
    exact split_ne _ _
  have := Wt_join sp1 ne
  rw [StrLaws.join_split] at this
  exact this.symm
theorem Wt_cut (k : Nat) (xs : List Str) : Wt (xs.take k) + Wt (xs.drop k) = Wt xs := by
  rw [← Wt_app, List.take_append_drop]
theorem Wt_mem {y : Str} : ∀ {xs : List Str}, y ∈ xs → y.length + 1 ≤ Wt xs
  | x :: r, h => by
    rw [Wt_cons]
    rcases List.mem_cons.mp h with rfl | h
    · omega
    · have := Wt_mem h
      omega
theorem Wt_len : ∀ xs : List Str, xs.length ≤ Wt xs
  | [] => Nat.le_refl _
  | x :: r => by
    have := Wt_len r
    rw [Wt_cons, List.length_cons]
    omega
theorem sum_Wt : ∀ xs : List Str, (xs.map (·.length)).sum + xs.length = Wt xs
  | [] => rfl
  | x :: r => by
    have := sum_Wt r
    rw [Wt_cons, List.map_cons, List.sum_cons, List.length_cons]
    omega
theorem Wt_rep (xs : List Str) : ∀ k : Nat, Wt (List.replicate k xs).flatten = k * Wt xs
  | 0 => by
    rw [Nat.zero_mul]
    rfl
  | k + 1 => by
    rw [List.replicate_succ, List.flatten_cons, Wt_app, Wt_rep xs k, Nat.succ_mul]
    omega
def OkA (xs : List Str) : Prop := ∀ z ∈ xs, PyData.strOk z = true
theorem ok_add {x y : Str} (hx : PyData.strOk x = true) (hy : PyData.strOk y = true) : PyData.strOk (x ++ y) = true := by
  unfold PyData.strOk at hx hy ⊢
  rw [Array.all_eq_true'] at hx hy ⊢
  intro c hc
  have h1 : c ∈ (x ++ y).cps.toList := Array.mem_toList_iff.mpr hc
  rw [cps_append] at h1
  rcases List.mem_append.mp h1 with h | h
  · exact hx c (Array.mem_toList_iff.mp h)
  · exact hy c (Array.mem_toList_iff.mp h)
theorem ok_join {c : Str} (hc : PyData.strOk c = true) : ∀ {ps : List Str}, OkA ps → PyData.strOk (Str.join c ps) = true
  | [], _ => by
    show PyData.strOk "" = true
    decide +kernel
  | [x], h => h x (List.mem_cons_self ..)
  | x :: y :: r, h => by
    rw [join2]
    exact ok_add (h x (List.mem_cons_self ..)) (ok_add hc (ok_join hc (ps := y :: r) fun z hz => h z (List.mem_cons_of_mem _ hz)))
theorem OkA.app {a b : List Str} (ha : OkA a) (hb : OkA b) : OkA (a ++ b) := fun z hz => by
  rcases List.mem_append.mp hz with h | h
  · exact ha z h
  · exact hb z h
theorem OkA.take {a : List Str} (k : Nat) (ha : OkA a) : OkA (a.take k) := fun z hz => ha z (List.mem_of_mem_take hz)
theorem OkA.drop {a : List Str} (k : Nat) (ha : OkA a) : OkA (a.drop k) := fun z hz => ha z (List.mem_of_mem_drop hz)
theorem OkA.rep {a : List Str} (k : Nat) (ha : OkA a) : OkA (List.replicate k a).flatten := fun z hz => by
  obtain ⟨l, hl, hz⟩ := List.mem_flatten.mp hz
  rw [(List.mem_replicate.mp hl).2] at hz
  exact ha z hz
theorem OkA.split {z y : Str} (h : PyData.strOk z = true) : OkA (Txt.split z y) := fun p hp => split_ok hp h
theorem strip_ok {z y : Str} (h : PyData.strOk z = true) : PyData.strOk (Txt.lstripChars z y) = true := by
  obtain ⟨i, hi, e⟩ := PyProof.Rows.stripBy_left y.cps.contains z
  unfold Txt.lstripChars
  rw [e]
  unfold PyData.strOk at h ⊢
  rw [Array.all_eq_true'] at h ⊢
  intro c hc
  refine h c ?_
  have h1 : c ∈ (z.cps.extract i z.length) := hc
  rw [Array.mem_extract_iff_getElem] at h1
  obtain ⟨k, hk, e⟩ := h1
  rw [← e]
  exact Array.getElem_mem _
/-! ### lists of texts, of any size -/
section
variable {K : PySem.W.Frag} {σ : L2.St} {H : Hp} {ta tb : TE} {ws us : List Str} {z y : Str} {p : Addr} {j : Nat}
theorem LV.catB (ha : LV ta σ H ws) (hb : LV tb σ H us) (hz : ws.length + us.length ≤ 10000000) : LV (tOp rCat ta tb) σ H (ws ++ us) := fun H1 Q s q => ha H1 _ s fun H2 p1 s2 h1 => hb H2 _ (s.trans s2) fun H3 p2 s3 h2 => by
  refine ⟨p1, p2, ws.map V.str, us.map V.str, rfl, rfl, s3 _ _ h1, h2, by rw [List.length_map, List.length_map]; exact big_size hz, fun p np => q _ p ((s2.trans s3).trans (same_upd np)) ?_⟩
  unfold LsAt
  rw [upd_same, List.map_append]
theorem LV.repB {k : Nat} (ha : LV ta σ H ws) (hk : k ≤ 100) (hz : ws.length * k ≤ 10000000) (hb : ∀ H : Hp, Val tb σ H (.int k)) : LV (tOp rRep ta tb) σ H (List.replicate k ws).flatten := fun H1 Q s q => ha H1 _ s fun H2 p1 s2 h1 => (hb H2) _ (by
  refine ⟨p1, k, ws.map V.str, rfl, rfl, h1, by omega, by omega, ?_, fun p np => q _ p (s2.trans (same_upd np)) ?_⟩
  · rw [List.length_map, Int.toNat_natCast]
    exact big_size hz
  · unfold LsAt
    rw [upd_same, List.map_flatten, List.map_replicate, Int.toNat_natCast])
/-- written texts -/
def AL (t : TA) (σ : L2.St) (ws : List Str) : Prop := ∀ (H : Hp) (Q : List V → Hp → Prop), Q (ws.map V.str) H → t σ H Q
theorem AL.nil : AL tNil σ [] := fun _ _ q => q
theorem AL.c {t : TA} (h : AL t σ ws) : AL (tCons (tC (.str z)) t) σ (z :: ws) := fun H Q q => val_c _ (h H _ q)
theorem LV.lst {t : TA} (h : AL t σ ws) (few : ws.length ≤ 100) : LV (tLst t) σ H ws := fun H1 Q _ q => h H1 _ ⟨by rw [List.length_map]; exact Nat.le_trans few (by decide), fun p np => q _ p (same_upd np) upd_same⟩
theorem cutL_to {α : Type} (xs : List α) (k : Nat) : cutL xs none (some (k : Int)) = xs.take k := by
  unfold cutL
  rw [HT.sIx_none, HT.sIx_nat, List.drop_zero, Nat.sub_zero]
  exact List.take_eq_take_min.symm
theorem cutL_from {α : Type} (xs : List α) (k : Nat) : cutL xs (some (k : Int)) none = xs.drop k := by
  unfold cutL
  rw [HT.sIx_none, HT.sIx_nat]
  by_cases h : k ≤ xs.length
  · rw [Nat.min_eq_left h, List.take_of_length_le (by rw [List.length_drop]; exact Nat.le_refl _)]
  · rw [Nat.min_eq_right (by omega), Nat.sub_self, List.take_zero, List.drop_eq_nil_of_le (by omega)]
theorem cutL_mid {α : Type} (xs : List α) (a b : Nat) (ha : a ≤ xs.length) : cutL xs (some (a : Int)) (some (b : Int)) = (xs.drop a).take (b - a) := by
  unfold cutL
  rw [HT.sIx_nat, HT.sIx_nat, Nat.min_eq_left ha]
  by_cases h : b ≤ xs.length
  · rw [Nat.min_eq_left h]
  · rw [Nat.min_eq_right (by omega), List.take_of_length_le (by rw [List.length_drop]; exact Nat.le_refl _), List.take_of_length_le (by rw [List.length_drop]; omega)]
theorem LV.to {k : Nat} (ha : LV ta σ H ws) (hb : ∀ H : Hp, Val tb σ H (.int k)) : LV (tSl (rSlL K) ta tNoPart (tPart tb)) σ H (ws.take k) := by
  rw [← cutL_to]
  exact LV.cut ha OV.no (OV.yes hb)
theorem LV.from {k : Nat} (ha : LV ta σ H ws) (hb : ∀ H : Hp, Val tb σ H (.int k)) : LV (tSl (rSlL K) ta (tPart tb) tNoPart) σ H (ws.drop k) := by
  rw [← cutL_from]
  exact LV.cut ha (OV.yes hb) OV.no
theorem LV.mid {a b : Nat} {tc : TE} (ha : LV ta σ H ws) (h1 : ∀ H : Hp, Val tb σ H (.int a)) (h2 : ∀ H : Hp, Val tc σ H (.int b)) (hl : a ≤ ws.length) : LV (tSl (rSlL K) ta (tPart tb) (tPart tc)) σ H ((ws.drop a).take (b - a)) := by
  rw [← cutL_mid ws a b hl]
  exact LV.cut ha (OV.yes h1) (OV.yes h2)
/-- c.join(a list that is made) -/
theorem join_run {c : Str} {Q : VK} (hl : LV ta σ H ws) (hc : c.length = 1) (few : Wt ws ≤ 10000000) (q : ∀ H', Same H H' → Q (.str (Str.join c ws)) H') : tBM K "str" (fun x xs H Q => ∃ a p, ∃ ys : List Str, x = .str a ∧ xs = [.ref p] ∧ (SqL K H p (ys.map V.str) ∨ SqT K H p (ys.map V.str)) ∧ (ys.map (·.length)).sum + ys.length * a.length ≤ 16777216 ∧ Q (.str (Txt.join a ys)) H) (tC (.str c)) (tCons ta tNil) σ H Q := by
  refine bm_run (x := .str c) val_c rfl ?_
  try dsimp only [tCons, tNil]
  refine hl H _ (Same.refl _) fun H1 p s1 hp => ⟨c, p, ws, rfl, rfl, .inl (SqL.of hp), ?_, ?_⟩
  · have := sum_Wt ws
    rw [hc, Nat.mul_one]
    omega
  · rw [jn_txt]
    exact q _ s1
end
theorem seq_lv {te : TE} {u : TS} {D : Ends} {σ : L2.St} {H : Hp} {ws : List Str} {i : Nat} (h : LV te σ H ws) (k : ∀ H' p, Same H H' → LsAt H' p ws → u D (σ.set i (some (.ref p))) H') : tSeq (tAsg te (gName i)) u D σ H :=
  h H _ (Same.refl _) fun H' p s hp => k H' p s hp
theorem Wt_drop (k : Nat) (xs : List Str) : Wt (xs.drop (k + 1)) ≤ Wt (xs.drop k) := by
  have := Wt_cut 1 (xs.drop k)
  rw [List.drop_drop] at this
  omega
theorem ls_ne {H : Hp} {a b : Addr} {ws : List Str} {p q n : Int} (hb : H b = some (.lst (bx p q n))) (h : LsAt H a ws) : a ≠ b := fun e => by
  unfold LsAt at h
  rw [e, hb] at h
  injection h with h
  injection h with h
  cases ws with
  | nil => cases h
  | cons z r => cases h
theorem Wt_set {y : Str} : ∀ {xs : List Str} {k : Nat} (h : k < xs.length), Wt (xs.set k y) + (xs[k].length + 1) = Wt xs + (y.length + 1)
  | x :: r, 0, _ => by
    show Wt (y :: r) + (x.length + 1) = _
    rw [Wt_cons, Wt_cons]
    omega
  | x :: r, k + 1, h => by
    have ih := Wt_set (y := y) (xs := r) (k := k) (Nat.lt_of_succ_lt_succ h)
    show Wt (x :: r.set k y) + ((r[k]'(Nat.lt_of_succ_lt_succ h)).length + 1) = _
    rw [Wt_cons, Wt_cons]
    omega
theorem OkA.set {y : Str} {xs : List Str} {k : Nat} (h : OkA xs) (hy : PyData.strOk y = true) : OkA (xs.set k y) := fun z hz => by
  rcases List.mem_or_eq_of_mem_set hz with q | q
  · exact h z q
  · rw [q]
    exact hy
theorem ixN_nat {n k : Nat} (h : k < n) : ixN n (k : Int) = some k := by
  unfold ixN
  rw [if_pos (by omega), if_pos (by omega), Int.toNat_natCast]
theorem val_cutH {σ : L2.St} {H : Hp} {ta tb : TE} {z : Str} {n : Int} (ha : Val ta σ H (.str z)) (hb : Val tb σ H (.int n)) (hz : z.length ≤ sizeLine) : Val (tSl rSlS ta tNoPart (tPart tb)) σ H (.str (cutS z none (some n))) := fun Q q =>
  ha _ (hb _ ⟨n, rfl, z, rfl, hz, q⟩)
end K5
namespace K5
open PySem PySem.Spec PyProof.Rows L2
/-! ### a page that is bent -/
/-- texts that are written or known -/
def AH (t : TA) (σ : L2.St) (H : Hp) (ws : List Str) : Prop := ∀ (H1 : Hp) (Q : List V → Hp → Prop), Same H H1 → Q (ws.map V.str) H1 → t σ H1 Q
section
variable {K : PySem.W.Frag} {σ : L2.St} {H : Hp} {ta te : TE} {t : TA} {ws : List Str} {z : Str} {b : Addr} {p q n : Int} {i : Nat} {Q : VK}
theorem AH.nil : AH tNil σ H [] := fun _ _ _ q => q
theorem AH.c (h : AH t σ H ws) : AH (tCons (tC (.str z)) t) σ H (z :: ws) := fun H1 Q s q => val_c _ (h H1 _ s q)
theorem AH.v (hv : SV ta σ H z) (h : AH t σ H ws) : AH (tCons ta t) σ H (z :: ws) := fun H1 Q s q => hv H1 s _ (h H1 _ s q)
theorem LV.lstH (h : AH t σ H ws) (few : ws.length ≤ 100) : LV (tLst t) σ H ws := fun H1 Q s q => h H1 _ s ⟨by rw [List.length_map]; exact Nat.le_trans few (by decide), fun p np => q _ p (same_upd np) upd_same⟩
theorem of_run (hv : σ[i]? = some (some (.ref b))) (hl : LV te σ H ws) (hb : H b = some (.lst (bx p q n))) (Bx : Box p q n) (hn : n < 1000000) (l0 : 0 < ws.length) (l1 : ws.length ≤ 1000)
    (k : ∀ (H' : Hp) (z : Str) (p' n' : Int), SameBut b H H' → H' b = some (.lst (bx p' q n')) → Box p' q n' → n' ≤ n + 1 → z ∈ ws → Q (.str z) H') : tCall spOfB [] E0 (tCons (tVar i) (tCons te tNil)) σ H Q := by
  dsimp only [tCall, tCons, tNil]
  refine (val_var hv) _ (hl H _ (Same.refl _) fun H1 l s1 h1 => ?_)
  have hb1 := s1 _ _ hb
  refine ⟨b, l, ws.map V.str, p, q, n, rfl, hb1, Bx, hn, h1, ls_ne hb1 h1, by rw [List.length_map]; exact l0, by rw [List.length_map]; exact l1, fun x p' n' hx B2 le => ?_⟩
  obtain ⟨z, hz, rfl⟩ := List.mem_map.mp hx
  exact k _ z p' n' ((SameBut.of_same s1).trans (SameBut.upd _ _ _)) upd_same B2 le hz
end
def signs9 : List Str := [" ", "\n", "-", "a", "A", "0", "", "  ", "4"]
def words12 : List Str := ["call", "answer", "-", "lost", "busy", "any", "0", "4", "00", "till", "", "a a"]
theorem signs_ok : ∀ z ∈ signs9, z.length ≤ 2 ∧ PyData.strOk z = true := by decide +kernel
theorem words12_ok : ∀ z ∈ words12, z.length ≤ 6 ∧ PyData.strOk z = true := by decide +kernel
theorem ex_ok : ∀ z ∈ (["", " ", "exchange", "call - a b 0"] : List Str), z.length ≤ 12 ∧ PyData.strOk z = true := by decide +kernel
abbrev s__law_bent_page : Stmt := topS 45
theorem sc__law_bent_page : FnScope ["_law_box_here", "_law_page", "_law_way", "_law_spot", "_law_sign", "_law_lines", "_law_at", "_law_words", "_law_place"] ["_law_box_here", "_law_page"] (defScope s__law_bent_page) := ⟨rfl, rfl, rfl, by decide +kernel, rfl, by decide +kernel, by decide +kernel⟩
def spBentPage : Sp := fun vs H Q _ => ∃ (b : Addr) (z : Str) (p q n : Int), vs = [.ref b, .str z] ∧ H b = some (.lst (bx p q n)) ∧ Box p q n ∧ n + 20 < 1000000 ∧ z.length ≤ 5000 ∧ PyData.strOk z = true ∧
  ∀ (H' : Hp) (y : Str) (p' n' : Int), SameBut b H H' → H' b = some (.lst (bx p' q n')) → Box p' q n' → n' ≤ n + 6 → y.length ≤ 2 * z.length + 100 → PyData.strOk y = true → Q (.str y) H'
section
variable {P : Program} {w : World} {K : PySem.W.Frag} {mg : Str → Option Value} {base : Heap}
theorem ok_bent_page {f fT fO : Addr} {fd dT dO : FuncData} (B : Bt mg) (D : Df K mg "_law_bent_page" s__law_bent_page f fd ["_law_box_here", "_law_page"]) (D__law_take : Df K mg "_law_take" sTake fT dT ["_law_box_here", "_law_many"])
    (D__law_of : Df K mg "_law_of" s__law_of fO dO ["_law_box_here", "_law_some"]) (G__law_of : FnOk P w K mg base CX0 2 fO dO ["_law_box_here", "_law_some"] spOfB) :
    FnOk P w K mg base CX0 3 f fd ["_law_box_here", "_law_page"] spBentPage := by
  have G__law_take : FnOk P w K mg base CX0 1 fT dT ["_law_box_here", "_law_many"] spTake := ok_take (CX := CX0) D__law_take.F B.m_int
  refine D.F.ok sc__law_bent_page (fun vs H Q E h => ?_) (fun cdv A outer s H vs Q E hr h => ?_)
  · obtain ⟨b, z, p, q, n, rfl, _⟩ := h
    rfl
  · obtain ⟨b, z, p, q, n, rfl, hb, Bx, hn, lz, oz, k⟩ := h
    have S := sc__law_bent_page
    refine ⟨_, (pss_cons (ps_par (i := 2) (j := 3) (by rfl) S.nd rfl rfl (by decide) rfl rfl (pa_cons (pe_call G__law_take (hr.mono (by decide)) (by rfl) D__law_take.g D__law_take.F.kp D__law_take.b .nil pass0 (pa_cons (pv 0) (pa_cons pe_int pa_nil))) (pa_cons (pe_call G__law_take (hr.mono (by decide)) (by rfl) D__law_take.g D__law_take.F.kp D__law_take.b .nil pass0 (pa_cons (pv 0) (pa_cons (pe_op op_add (pe_callB call_len_str (by rfl) B.m_len PySem.boot_len (pa_cons (pv 1) pa_nil)) pe_int) pa_nil))) pa_nil)) (by rfl))
      (pss_cons (ps_if (pt_cmpR op_eq (pv 2) pe_int (nomark _))
        (pss_cons (ps_set (i := 4) S.nd rfl (.inl rfl) (pe_call G__law_of (hr.mono (by decide)) (by rfl) D__law_of.g D__law_of.F.kp D__law_of.b .nil pass0 (pa_cons (pv 0) (pa_cons (pe_lst (pa_cons pe_str (pa_cons pe_str (pa_cons pe_str (pa_cons pe_str (pa_cons pe_str (pa_cons pe_str (pa_cons pe_str (pa_cons pe_str (pa_cons pe_str pa_nil)))))))))) pa_nil))))
        (pss_one (ps_ret (pe_op op_add_str (pe_op op_add_str (pe_slice sl_str (pv 1) po_none (po_some (pv 3))) (pv 4)) (pe_slice sl_str (pv 1) (po_some (pe_op op_add (pv 3) (pe_call G__law_take (hr.mono (by decide)) (by rfl) D__law_take.g D__law_take.F.kp D__law_take.b .nil pass0 (pa_cons (pv 0) (pa_cons pe_int pa_nil))))) po_none)))))
        pss_nil)
      (pss_cons (ps_set (i := 5) S.nd rfl (.inl rfl) (pe_bm PySem.F.plainAttrs_str PySem.F.slot_str_split PySem.F.type_str_split mt_split (pv 1) (pa_cons pe_str pa_nil)))
      (pss_cons (ps_set (i := 6) S.nd rfl (.inl rfl) (pe_call G__law_take (hr.mono (by decide)) (by rfl) D__law_take.g D__law_take.F.kp D__law_take.b .nil pass0 (pa_cons (pv 0) (pa_cons (pe_callB call_len_seq (by rfl) B.m_len PySem.boot_len (pa_cons (pv 5) pa_nil)) pa_nil))))
      (pss_cons (ps_if (pt_cmpR op_eq (pv 2) pe_int (nomark _))
        (pss_cons (ps_set (i := 7) S.nd rfl (.inl rfl) (pe_bm PySem.F.plainAttrs_str PySem.F.slot_str_split PySem.F.type_str_split mt_split (pe_ix ix_list (pv 5) (pv 6) (fun _ _ => rfl)) (pa_cons pe_str pa_nil)))
        (pss_cons (ps_set (i := 8) S.nd rfl (.inl rfl) (pe_call G__law_take (hr.mono (by decide)) (by rfl) D__law_take.g D__law_take.F.kp D__law_take.b .nil pass0 (pa_cons (pv 0) (pa_cons (pe_callB call_len_seq (by rfl) B.m_len PySem.boot_len (pa_cons (pv 7) pa_nil)) pa_nil))))
        (pss_cons (ps_asg (pe_call G__law_of (hr.mono (by decide)) (by rfl) D__law_of.g D__law_of.F.kp D__law_of.b .nil pass0 (pa_cons (pv 0) (pa_cons (pe_lst (pa_cons pe_str (pa_cons pe_str (pa_cons pe_str (pa_cons pe_str (pa_cons pe_str (pa_cons pe_str (pa_cons pe_str (pa_cons pe_str (pa_cons pe_str (pa_cons pe_str (pa_cons pe_str (pa_cons pe_str pa_nil))))))))))))) pa_nil))) (pg_sub (pv 7) (pv 8) set_list))
        (pss_one (ps_asg (pe_bm PySem.F.plainAttrs_str PySem.F.slot_str_join PySem.F.type_str_join mt_join pe_str (pa_cons (pv 7) pa_nil)) (pg_sub (pv 5) (pv 6) set_list))))))
        (pss_one (ps_set (i := 5) S.nd rfl (.inl rfl) (pe_op op_cat (pe_op op_cat (pe_slice sl_list (pv 5) po_none (po_some (pv 6))) (pe_lst (pa_cons (pe_call G__law_of (hr.mono (by decide)) (by rfl) D__law_of.g D__law_of.F.kp D__law_of.b .nil pass0 (pa_cons (pv 0) (pa_cons (pe_lst (pa_cons pe_str (pa_cons pe_str (pa_cons pe_str (pa_cons (pe_ix ix_list (pv 5) (pv 6) (fun _ _ => rfl)) (pa_cons pe_str pa_nil)))))) pa_nil))) pa_nil))) (pe_slice sl_list (pv 5) (po_some (pe_op op_add (pv 6) pe_int)) po_none)))))
      (pss_one (ps_ret (pe_bm PySem.F.plainAttrs_str PySem.F.slot_str_join PySem.F.type_str_join mt_join pe_str (pa_cons (pv 5) pa_nil))))))))), ?_⟩
    have sbU : ∀ {H' : Hp} {lp : Addr} {o : HO}, H lp = none → SameBut b H H' → SameBut b H (upd H' lp o) := fun nl sb a u na e => by
      rw [upd_ne (ne_of_none e nl)]
      exact sb a u na e
    -- the end
    have fin : ∀ (lp : Addr) (zs : List Str) (H' : Hp) (σ : L2.St) (p' n' : Int), σ[5]? = some (some (.ref lp)) → LsAt H' lp zs → SameBut b H H' → H' b = some (.lst (bx p' q n')) → Box p' q n' → n' ≤ n + 6 → Wt zs ≤ 2 * z.length + 100 → OkA zs →
        tRet (tBM K "str" (fun x xs H Q => ∃ a p, ∃ ys : List Str, x = .str a ∧ xs = [.ref p] ∧ (SqL K H p (ys.map V.str) ∨ SqT K H p (ys.map V.str)) ∧ (ys.map (·.length)).sum + ys.length * a.length ≤ 16777216 ∧ Q (.str (Txt.join a ys)) H) (tC (.str "\n")) (tCons (tVar 5) tNil)) { nx := fun _ H' => Q .non H', rt := Q } σ H' := by
      intro lp zs H' σ p' n' h2 hl sb hb' Bx' hn' wz oz'
      have W := Wt_join_le nl1 zs
      show tBM K "str" _ _ _ σ H' Q
      refine join_run (LV.v h2 hl) nl1 (by omega) fun H5 s5 => ?_
      exact k _ _ p' n' (fun a o na e => s5 _ _ (sb a o na e)) (s5 _ _ hb') Bx' hn' (by omega) (ok_join (by decide +kernel) oz')
    try dsimp only [tSeq, tPar, tCons, tNil]
    refine take_box rfl val_c hb Bx (by decide) (by decide) (by omega) fun way p1 n1 w0 w3 B1 le1 => ?_
    have sb1 : SameBut b H (upd H b (.lst (bx p1 q n1))) := SameBut.upd _ _ _
    have hb1 : (upd H b (.lst (bx p1 q n1))) b = some (.lst (bx p1 q n1)) := upd_same
    generalize (upd H b (.lst (bx p1 q n1))) = H1 at sb1 hb1 ⊢
    refine take_box rfl (val_i0 (i := (z.length : Int)) (j := 1) (val_lenS (val_var rfl) (big_size (by omega))) val_c) hb1 B1 (by omega) (by omega) (by omega) fun spot p2 n2 s0 s9 B2 le2 => ?_
    have sb2 : SameBut b H (upd H1 b (.lst (bx p2 q n2))) := sb1.trans (SameBut.upd _ _ _)
    have hb2 : (upd H1 b (.lst (bx p2 q n2))) b = some (.lst (bx p2 q n2)) := upd_same
    generalize (upd H1 b (.lst (bx p2 q n2))) = H2 at sb2 hb2 ⊢
    clear sb1 hb1
    refine ⟨_, _, rfl, ?_⟩
    try dsimp only [tSeq, tIfS]
    refine (ans_eq2 (x := .int way) (v := .int 0) (val_var rfl) val_c rfl) _ ?_
    refine ite2 (fun _ => ?_) fun _ => ?_
    · -- a sign put in
      try dsimp only [tSeq, tAsg]
      refine of_run (ws := signs9) rfl (LV.lst ?_ (by decide)) hb2 B2 (by omega) (by decide) (by decide) fun H3 y p3 n3 sb3 hb3 B3 le3 my => ?_
      · repeat (first | exact AL.nil | refine AL.c ?_)
      obtain ⟨ly, oy⟩ := signs_ok y my
      try dsimp only [gName, tRet, tOp]
      refine (val_cutH (z := z) (val_var rfl) (val_var rfl) (big_size (by omega))) _ ?_
      have l1 : (cutS z none (some spot)).length ≤ z.length := cutS_le
      have o1 : PyData.strOk (cutS z none (some spot)) = true := cut_ok oz
      generalize cutS z none (some spot) = a1 at l1 o1 ⊢
      refine (val_var rfl) _ ⟨a1, y, rfl, rfl, big_size (by omega), ?_⟩
      try dsimp only [tSl]
      refine (val_var rfl) _ ?_
      show tPart _ _ _ _
      try dsimp only [tPart]
      refine (val_var rfl) _ ?_
      refine take_box rfl val_c hb3 B3 (by decide) (by decide) (by omega) fun d p4 n4 d0 d2 B4 le4 => ?_
      refine ⟨spot, d, rfl, rfl, _, rfl, ?_⟩
      show tNoPart _ _ _
      refine ⟨z, rfl, big_size (by omega), ?_⟩
      have l2 : (cutS z (some (spot + d)) none).length ≤ z.length := cutS_le
      have o2 : PyData.strOk (cutS z (some (spot + d)) none) = true := cut_ok oz
      generalize cutS z (some (spot + d)) none = a2 at l2 o2 ⊢
      have la := app_len' a1 y
      refine ⟨a1 ++ y, a2, rfl, rfl, big_size (by omega), ?_⟩
      exact k _ _ p4 n4 (sb2.trans (sb3.trans (SameBut.upd _ _ _))) upd_same B4 (by omega) (by rw [app_len']; omega) (ok_add (ok_add o1 oy) o2)
    try dsimp only [tNext, tSeq, tAsg]
    refine bm_run (x := .str z) (val_var rfl) rfl ?_
    try dsimp only [tCons, tNil]
    refine val_c _ ?_
    refine ⟨z, "\n", rfl, rfl, by decide +kernel, big_size (by omega), fun lp nlp2 => ?_⟩
    have nlp : H lp = none := by
      by_cases e : lp = b
      · rw [e, hb2] at nlp2
        cases nlp2
      · cases c : H lp with
        | none => rfl
        | some o =>
          have := sb2 _ _ e c
          rw [nlp2] at this
          cases this
    have hl1 : LsAt (upd H2 lp (.lst ((Txt.split z "\n").map V.str))) lp (rowsOf z) := upd_same
    have s3 := same_upd (o := .lst ((Txt.split z "\n").map V.str)) nlp2
    generalize (upd H2 lp (.lst ((Txt.split z "\n").map V.str))) = H3 at hl1 s3 ⊢
    have hb3 := s3 _ _ hb2
    have sb3 := sb2.trans (SameBut.of_same s3)
    have lb : lp ≠ b := ls_ne hb3 hl1
    have wW := Wt_rows z
    have wO : OkA (rowsOf z) := OkA.split oz
    have wne : 0 < (rowsOf z).length := by
      unfold rowsOf
      rw [nlC]
      exact List.length_pos_iff.mpr (split_ne _ _)
    clear s3 hb2 sb2 nlp2
    generalize rowsOf z = zs at *
    have wl := Wt_len zs
    try dsimp only [gName, tSeq, tAsg]
    refine take_box rfl (val_lenL (K := K) (val_var rfl) (SqL.of hl1)) hb3 B2 (by rw [List.length_map]; omega) (by rw [List.length_map]; omega) (by omega) fun at' p4 n4 a0 a8 B4 le4 => ?_
    rw [List.length_map] at a8
    have hl4 : LsAt (upd H3 b (.lst (bx p4 q n4))) lp zs := by
      unfold LsAt
      rw [upd_ne lb]
      exact hl1
    have hb4 : (upd H3 b (.lst (bx p4 q n4))) b = some (.lst (bx p4 q n4)) := upd_same
    have sb4 : SameBut b H (upd H3 b (.lst (bx p4 q n4))) := sb3.trans (SameBut.upd _ _ _)
    generalize (upd H3 b (.lst (bx p4 q n4))) = H4 at hl4 hb4 sb4 ⊢
    clear hl1 hb3 sb3
    obtain ⟨at', rfl⟩ : ∃ k : Nat, at' = (k : Int) := ⟨at'.toNat, by omega⟩
    have al : at' < zs.length := by omega
    have hat : zs[at']? = some zs[at'] := List.getElem?_eq_getElem al
    have oat : PyData.strOk zs[at'] = true := wO _ (List.getElem_mem al)
    have lat := Wt_mem (List.getElem_mem al)
    try dsimp only [gName, tSeq, tIfS]
    refine (ans_eq2 (x := .int way) (v := .int 1) (val_var rfl) val_c rfl) _ ?_
    refine ite2 (fun _ => ?_) fun _ => ?_
    · -- a word otherwise
      try dsimp only [tSeq, tAsg]
      refine bm_run (x := .str zs[at']) (val_ixL (K := K) (val_var rfl) (val_var rfl) (SqL.of hl4) (atI_nat (j := at') (by rw [List.getElem?_map, hat]; rfl))) rfl ?_
      try dsimp only [tCons, tNil]
      refine val_c _ ?_
      refine ⟨zs[at'], " ", rfl, rfl, by decide +kernel, big_size (by omega), fun wp nwp4 => ?_⟩
      have nwp : H wp = none := by
        by_cases e : wp = b
        · rw [e, hb4] at nwp4
          cases nwp4
        · cases c : H wp with
          | none => rfl
          | some o =>
            have := sb4 _ _ e c
            rw [nwp4] at this
            cases this
      have wlp : lp ≠ wp := ne_of_none hl4 nwp4
      have hw5 : LsAt (upd H4 wp (.lst ((Txt.split zs[at'] " ").map V.str))) wp (Txt.split zs[at'] " ") := upd_same
      have s5 := same_upd (o := .lst ((Txt.split zs[at'] " ").map V.str)) nwp4
      generalize (upd H4 wp (.lst ((Txt.split zs[at'] " ").map V.str))) = H5 at hw5 s5 ⊢
      have hb5 := s5 _ _ hb4
      have hl5 := s5 _ _ hl4
      have sb5 := sb4.trans (SameBut.of_same s5)
      have wb : wp ≠ b := ls_ne hb5 hw5
      have uW := Wt_blank zs[at']
      have uO := OkA.split (y := " ") oat
      have une : 0 < (Txt.split zs[at'] " ").length := by
        rw [space']
        exact List.length_pos_iff.mpr (split_ne _ _)
      generalize Txt.split zs[at'] " " = us at *
      have ul := Wt_len us
      clear s5 hb4 hl4 sb4 nwp4
      try dsimp only [gName, tSeq, tAsg]
      refine take_box rfl (val_lenL (K := K) (val_var rfl) (SqL.of hw5)) hb5 B4 (by rw [List.length_map]; omega) (by rw [List.length_map]; omega) (by omega) fun pl p6 n6 b0 b8 B6 le6 => ?_
      rw [List.length_map] at b8
      have hl6 : LsAt (upd H5 b (.lst (bx p6 q n6))) lp zs := by
        unfold LsAt
        rw [upd_ne lb]
        exact hl5
      have hw6 : LsAt (upd H5 b (.lst (bx p6 q n6))) wp us := by
        unfold LsAt
        rw [upd_ne wb]
        exact hw5
      have hb6 : (upd H5 b (.lst (bx p6 q n6))) b = some (.lst (bx p6 q n6)) := upd_same
      have sb6 : SameBut b H (upd H5 b (.lst (bx p6 q n6))) := sb5.trans (SameBut.upd _ _ _)
      generalize (upd H5 b (.lst (bx p6 q n6))) = H6 at hl6 hw6 hb6 sb6 ⊢
      clear hl5 hw5 hb5 sb5
      obtain ⟨pl, rfl⟩ : ∃ k : Nat, pl = (k : Int) := ⟨pl.toNat, by omega⟩
      have bl : pl < us.length := by omega
      try dsimp only [gName, tSeq, tAsg]
      refine of_run (ws := words12) rfl (LV.lst ?_ (by decide)) hb6 B6 (by omega) (by decide) (by decide) fun H7 y p7 n7 sb7 hb7 B7 le7 my => ?_
      · repeat (first | exact AL.nil | refine AL.c ?_)
      obtain ⟨ly, oy⟩ := words12_ok y my
      have hl7 := sb7 _ _ lb hl6
      have hw7 := sb7 _ _ wb hw6
      have sb7' := sb6.trans sb7
      try dsimp only [gSub]
      refine (val_var rfl) _ ((val_var rfl) _ ?_)
      refine ⟨wp, us.map V.str, pl, pl, rfl, rfl, hw7, by rw [List.length_map]; exact ixN_nat bl, ?_⟩
      have hw8 : LsAt (upd H7 wp (.lst ((us.map V.str).set pl (.str y)))) wp (us.set pl y) := by
        unfold LsAt
        rw [upd_same, List.map_set]
      have hl8 : LsAt (upd H7 wp (.lst ((us.map V.str).set pl (.str y)))) lp zs := by
        unfold LsAt
        rw [upd_ne wlp]
        exact hl7
      have hb8 : (upd H7 wp (.lst ((us.map V.str).set pl (.str y)))) b = some (.lst (bx p7 q n7)) := by
        rw [upd_ne wb.symm]
        exact hb7
      have sb8 : SameBut b H (upd H7 wp (.lst ((us.map V.str).set pl (.str y)))) := sbU nwp sb7'
      generalize (upd H7 wp (.lst ((us.map V.str).set pl (.str y)))) = H8 at hw8 hl8 hb8 sb8 ⊢
      have W1 := Wt_set (y := y) bl
      have W2 := Wt_join_le sp1 (us.set pl y)
      have O2 := ok_join (c := " ") (by decide +kernel) (uO.set (k := pl) oy)
      try dsimp only [tAsg]
      refine join_run (LV.v rfl hw8) sp1 (by omega) fun H9 s9 => ?_
      have hl9 := s9 _ _ hl8
      have hb9 := s9 _ _ hb8
      have sb9 := sb8.trans (SameBut.of_same s9)
      generalize Str.join " " (us.set pl y) = r at *
      try dsimp only [gSub]
      refine (val_var rfl) _ ((val_var rfl) _ ?_)
      refine ⟨lp, zs.map V.str, at', at', rfl, rfl, hl9, by rw [List.length_map]; exact ixN_nat al, ?_⟩
      have hlA : LsAt (upd H9 lp (.lst ((zs.map V.str).set at' (.str r)))) lp (zs.set at' r) := by
        unfold LsAt
        rw [upd_same, List.map_set]
      have W3 := Wt_set (y := r) al
      exact fin lp _ _ _ p7 n7 rfl hlA (sbU nlp sb9) (by rw [upd_ne lb.symm]; exact hb9) B7 (by omega) (by omega) (wO.set O2)
    · -- a line otherwise
      try dsimp only [tAsg, tOp]
      have hv : LV (tVar 5) [some (.ref b), some (.str z), some (.int way), some (.int spot), none, some (.ref lp), some (.int at'), none, none] H4 zs := LV.v rfl hl4
      refine (LV.to (k := at') hv fun _ => val_var rfl) H4 _ (Same.refl _) fun H5 c1 s5 h5 => ?_
      have hb5 := s5 _ _ hb4
      have hl5 := s5 _ _ hl4
      have sb5 := sb4.trans (SameBut.of_same s5)
      try dsimp only [tLst, tCons, tNil]
      refine of_run (ws := ["", " ", "exchange", zs[at'], "call - a b 0"]) rfl (LV.lstH (AH.c (AH.c (AH.c (AH.v (fun H1 s => ?_) (AH.c AH.nil))))) (by show 5 ≤ 100; decide)) hb5 B4 (by omega) (by show 0 < 5; decide) (by show 5 ≤ 1000; decide) fun H6 y p6 n6 sb6 hb6 B6 le6 my => ?_
      · exact val_ixL (K := K) (val_var rfl) (val_var rfl) (SqL.of (s _ _ hl5)) (atI_nat (j := at') (by rw [List.getElem?_map, hat]; rfl))
      have c1b : c1 ≠ b := ls_ne hb5 h5
      have hc6 := sb6 _ _ c1b h5
      have hl6 := sb6 _ _ lb hl5
      have sb6' := sb5.trans sb6
      have qy : y.length ≤ zs[at'].length + 12 ∧ PyData.strOk y = true := by
        simp only [List.mem_cons, List.not_mem_nil, or_false] at my
        rcases my with rfl | rfl | rfl | rfl | rfl
        · have := ex_ok "" (by decide +kernel); exact ⟨by omega, this.2⟩
        · have := ex_ok " " (by decide +kernel); exact ⟨by omega, this.2⟩
        · have := ex_ok "exchange" (by decide +kernel); exact ⟨by omega, this.2⟩
        · exact ⟨by omega, oat⟩
        · have := ex_ok "call - a b 0" (by decide +kernel); exact ⟨by omega, this.2⟩
      refine ⟨by show 1 ≤ sizeLine; decide, fun c2 nc2 => ?_⟩
      have h2 : LsAt (upd H6 c2 (.lst [.str y])) c2 [y] := upd_same
      have s7 := same_upd (o := .lst [.str y]) nc2
      generalize (upd H6 c2 (.lst [.str y])) = H7 at h2 s7 ⊢
      have hc7 := s7 _ _ hc6
      have lt : (zs.take at').length ≤ zs.length := by rw [List.length_take]; omega
      have ld : (zs.drop (at' + 1)).length ≤ zs.length := by rw [List.length_drop]; omega
      refine ⟨c1, c2, _, _, rfl, rfl, hc7, h2, by rw [List.length_map, List.length_map]; exact big_size (by show _ + 1 ≤ _; omega), fun c3 nc3 => ?_⟩
      have h3 : LsAt (upd H7 c3 (.lst ((zs.take at').map V.str ++ ([y] : List Str).map V.str))) c3 (zs.take at' ++ [y]) := by
        unfold LsAt
        rw [upd_same, List.map_append]
      have s8 := same_upd (o := .lst ((zs.take at').map V.str ++ ([y] : List Str).map V.str)) nc3
      generalize (upd H7 c3 (.lst ((zs.take at').map V.str ++ ([y] : List Str).map V.str))) = H8 at h3 s8 ⊢
      have s68 := s7.trans s8
      have hl8 := s68 _ _ hl6
      refine (LV.from (k := at' + 1) (LV.v rfl hl8) fun _ => val_i0 (i := (at' : Int)) (j := 1) (val_var rfl) val_c) H8 _ (Same.refl _) fun H9 c4 s9 h4 => ?_
      refine ⟨c3, c4, _, _, rfl, rfl, s9 _ _ h3, h4, by rw [List.length_map, List.length_map, List.length_append]; exact big_size (by show _ + 1 + _ ≤ _; omega), fun c5 nc5 => ?_⟩
      have h5' : LsAt (upd H9 c5 (.lst ((zs.take at' ++ [y]).map V.str ++ (zs.drop (at' + 1)).map V.str))) c5 ((zs.take at' ++ [y]) ++ zs.drop (at' + 1)) := by
        unfold LsAt
        rw [upd_same, ← List.map_append]
      have s69 := s68.trans (s9.trans (same_upd (o := .lst ((zs.take at' ++ [y]).map V.str ++ (zs.drop (at' + 1)).map V.str)) nc5))
      have c1 := Wt_cut at' zs
      have c2 := Wt_drop at' zs
      refine fin c5 _ _ _ p6 n6 rfl h5' (sb6'.trans (SameBut.of_same s69)) (s69 _ _ hb6) B6 (by omega) ?_ (((wO.take at').app fun t ht => by rw [List.mem_singleton.mp ht]; exact qy.2).app (wO.drop (at' + 1)))
      rw [Wt_app, Wt_app, Wt_cons, Wt_nil]
      have := qy.1
      omega
end
end K5
namespace K5
open PySem PySem.Spec PyProof.Rows L2
/-! ### a text is split as it was joined -/
theorem cut_at {c : Nat} : ∀ {x y a b : List Nat}, c ∉ x → c ∉ y → x ++ c :: a = y ++ c :: b → x = y ∧ a = b
  | [], [], a, b, _, _, h => by
    injection h with _ h
    exact ⟨rfl, h⟩
  | [], z :: y, a, b, _, h2, h => by
    injection h with h _
    exact absurd (by rw [h]; exact List.mem_cons_self ..) h2
  | z :: x, [], a, b, h1, _, h => by
    injection h with h _
    exact absurd (by rw [← h]; exact List.mem_cons_self ..) h1
  | z :: x, w :: y, a, b, h1, h2, h => by
    injection h with e h
    obtain ⟨q1, q2⟩ := cut_at (x := x) (y := y) (fun q => h1 (List.mem_cons_of_mem _ q)) (fun q => h2 (List.mem_cons_of_mem _ q)) h
    exact ⟨by rw [e, q1], q2⟩
theorem str_list {x y : Str} (h : x.cps.toList = y.cps.toList) : x = y := by
  cases x
  cases y
  congr
  exact Array.toList_inj.mp h
theorem join_list (c : Nat) (x z : Str) (r : List Str) : (Str.join ⟨#[c]⟩ (x :: z :: r)).cps.toList = x.cps.toList ++ c :: (Str.join ⟨#[c]⟩ (z :: r)).cps.toList := by
  show (x ++ (⟨#[c]⟩ : Str) ++ Str.join ⟨#[c]⟩ (z :: r)).cps.toList = _
  rw [cps_append, cps_append, List.append_assoc]
  rfl
theorem join_inj {c : Nat} : ∀ {ps qs : List Str}, ps ≠ [] → qs ≠ [] → (∀ p ∈ ps, c ∉ p.cps.toList) → (∀ q ∈ qs, c ∉ q.cps.toList) → (Str.join ⟨#[c]⟩ ps).cps.toList = (Str.join ⟨#[c]⟩ qs).cps.toList → ps = qs
  | [], _, h, _, _, _, _ => absurd rfl h
  | _, [], _, h, _, _, _ => absurd rfl h
  | [x], [y], _, _, _, _, h => by rw [str_list (x := x) (y := y) h]
  | [x], y :: w :: r, _, _, h1, h2, h => by
    rw [join_list] at h
    have hx : c ∈ x.cps.toList := by
      rw [show x.cps.toList = _ from h]
      exact List.mem_append_right _ (List.mem_cons_self ..)
    exact absurd hx (h1 x (List.mem_cons_self ..))
  | x :: w :: r, [y], _, _, h1, h2, h => by
    rw [join_list] at h
    have hy : c ∈ y.cps.toList := by
      rw [show y.cps.toList = _ from h.symm]
      exact List.mem_append_right _ (List.mem_cons_self ..)
    exact absurd hy (h2 y (List.mem_cons_self ..))
  | x :: z :: r, y :: w :: t, _, _, h1, h2, h => by
    rw [join_list, join_list] at h
    obtain ⟨e1, e2⟩ := cut_at (h1 x (List.mem_cons_self ..)) (h2 y (List.mem_cons_self ..)) h
    rw [str_list e1, join_inj (ps := z :: r) (qs := w :: t) (fun q => nomatch q) (fun q => nomatch q) (fun p hp => h1 p (List.mem_cons_of_mem _ hp)) (fun p hp => h2 p (List.mem_cons_of_mem _ hp)) e2]
theorem split_join {c : Nat} {ps : List Str} (ne : ps ≠ []) (free : ∀ p ∈ ps, c ∉ p.cps.toList) : Txt.split (Str.join ⟨#[c]⟩ ps) ⟨#[c]⟩ = ps :=
  join_inj (split_ne _ _) ne (StrLaws.split_free _ c) free (by rw [StrLaws.join_split])
theorem rows_join {ps : List Str} (ne : ps ≠ []) (free : ∀ p ∈ ps, 10 ∉ p.cps.toList) : rowsOf (Str.join "\n" ps) = ps := by
  have e : ("\n" : Str) = ⟨#[10]⟩ := by decide +kernel
  unfold rowsOf
  rw [e]
  exact split_join ne free
/-! ### a run that is written is read -/
def W85 : List Str := "-" :: "busy" :: S85
theorem W85_ok : ∀ z ∈ W85, 32 ∉ z.cps.toList ∧ 10 ∉ z.cps.toList ∧ PyData.strOk z = true := by decide +kernel
theorem W85_s {z : Str} (h : z ∈ S85) : z ∈ W85 := List.mem_cons_of_mem _ (List.mem_cons_of_mem _ h)
theorem num_in : ∀ i : Fin 4, (toString ((i.val : Nat) : Int) : Str) ∈ S85 ∧ numG (toString ((i.val : Nat) : Int)) = some ((i.val : Nat) : Int) := by decide +kernel
theorem num_in' {n : Int} (h0 : 0 ≤ n) (h4 : n < 4) : (toString n : Str) ∈ S85 ∧ numG (toString n) = some n := by
  have := num_in ⟨n.toNat, by omega⟩
  rw [show ((n.toNat : Nat) : Int) = n by omega] at this
  exact this
theorem ans_in : ∀ i : Fin 6, ansWord ((i.val : Int) - 2) ∈ W85 ∧ ansOf (ansWord ((i.val : Int) - 2)) = some ((i.val : Int) - 2) := by decide +kernel
theorem ans_in' {n : Int} (h0 : -2 ≤ n) (h4 : n < 4) : ansWord n ∈ W85 ∧ ansOf (ansWord n) = some n := by
  have := ans_in ⟨(n + 2).toNat, by omega⟩
  rw [show (((n + 2).toNat : Nat) : Int) - 2 = n by omega] at this
  exact this
theorem dash_in {a : Str} (h : a ∈ S85) : dash a ∈ W85 := by
  unfold dash
  split
  · exact List.mem_cons_self ..
  · exact W85_s h
theorem dash_ne (a : Str) : dash a ≠ "" := by
  unfold dash
  split
  · decide +kernel
  · assumption
theorem undash_dash {a : Str} (h : a = "" ∨ isName a = true) : undash (dash a) = a := by
  unfold undash dash
  by_cases e : a = ""
  · rw [if_pos e, if_pos rfl, e]
  · rw [if_neg e, if_neg fun c => ?_]
    rcases h with h | h
    · exact e h
    · rw [c] at h
      exact absurd h (by decide +kernel)
theorem small_wire {a b : Str} {r : List PyData} (s : smallD (.tuple (.tuple [.str a, .str b] :: r)) = true) : a ∈ S85 ∧ b ∈ S85 ∧ smallA r = true := by
  have s : ((decide (a ∈ S85) && (decide (b ∈ S85) && true)) && smallA r) = true := s
  simp only [Bool.and_eq_true, Bool.and_true, decide_eq_true_eq] at s
  exact ⟨s.1.1, s.1.2, s.2⟩
theorem small_str {a : Str} {r : List PyData} (s : smallA (.str a :: r) = true) : a ∈ S85 ∧ smallA r = true := by
  have s : (decide (a ∈ S85) && smallA r) = true := s
  rw [Bool.and_eq_true] at s
  exact ⟨of_decide_eq_true s.1, s.2⟩
theorem call_in : ("call" : Str) ∈ S85 ∧ ("answer" : Str) ∈ S85 := by decide +kernel
theorem words_in {d : PyData} (e : Ev d) (s : smallD d = true) : ∀ z ∈ wordsOf d, z ∈ W85 := by
  cases e with
  | call ha hb hr n0 n4 =>
    obtain ⟨s1, s2, s3⟩ := small_wire s
    obtain ⟨s4, s5⟩ := small_str s3
    obtain ⟨s6, _⟩ := small_str s5
    intro z hz
    have hz : z ∈ [_, _, _, _, _] := hz
    simp only [List.mem_cons, List.not_mem_nil, or_false] at hz
    rcases hz with rfl | rfl | rfl | rfl | rfl
    · exact W85_s call_in.1
    · exact dash_in s1
    · exact W85_s s2
    · exact W85_s s6
    · exact W85_s (num_in' n0 n4).1
  | ans ha hb i0 i4 =>
    obtain ⟨s1, s2, s3⟩ := small_wire s
    intro z hz
    have hz : z ∈ [_, _, _, _] := hz
    simp only [List.mem_cons, List.not_mem_nil, or_false] at hz
    rcases hz with rfl | rfl | rfl | rfl
    · exact W85_s call_in.2
    · exact dash_in s1
    · exact W85_s s2
    · exact (ans_in' i0 i4).1
theorem line_ok {d : PyData} (e : Ev d) (s : smallD d = true) : PyData.strOk (lineD d) = true := ok_join (by decide +kernel) fun z hz => (W85_ok z (words_in e s z hz)).2.2
theorem join_free {c : Nat} {y : Str} (hy : c ∉ y.cps.toList) : ∀ {ps : List Str}, (∀ p ∈ ps, c ∉ p.cps.toList) → c ∉ (Str.join y ps).cps.toList
  | [], _ => by
    show c ∉ ("" : Str).cps.toList
    rw [show ("" : Str).cps.toList = [] by decide +kernel]
    exact fun h => nomatch h
  | [x], h => h x (List.mem_cons_self ..)
  | x :: z :: r, h => by
    rw [join2, cps_append, cps_append]
    intro m
    rcases List.mem_append.mp m with m | m
    · exact h x (List.mem_cons_self ..) m
    · rcases List.mem_append.mp m with m | m
      · exact hy m
      · exact join_free hy (ps := z :: r) (fun p hp => h p (List.mem_cons_of_mem _ hp)) m
theorem line_free {d : PyData} (e : Ev d) (s : smallD d = true) : 10 ∉ (lineD d).cps.toList := join_free (by decide +kernel) fun z hz => (W85_ok z (words_in e s z hz)).2.1
theorem fnd_words {d : PyData} (e : Ev d) : fndOf (wordsOf d) = d ∧ ((wordsOf d).length = 4 ∨ (wordsOf d).length = 5) ∧ (wordsOf d).getD 1 "" ≠ "" := by
  cases e with
  | call ha hb hr n0 n4 =>
    rename_i a b r n
    refine ⟨?_, .inr rfl, dash_ne a⟩
    show PyData.tuple [.tuple [.str (undash (dash a)), .str b], .str "call", .str r, intO (numG (toString n))] = _
    rw [undash_dash ha, (num_in' n0 n4).2]
    rfl
  | ans ha hb i0 i4 =>
    rename_i a b i
    refine ⟨?_, .inl rfl, dash_ne a⟩
    show PyData.tuple [.tuple [.str (undash (dash a)), .str b], .str "answer", intO (ansOf (ansWord i))] = _
    rw [undash_dash ha, (ans_in' i0 i4).2]
    rfl
theorem line_read {d : PyData} (e : Ev d) (s : smallD d = true) : evOf (rowWords (lineD d) 0) = some d := by
  obtain ⟨f1, f2, f3⟩ := fnd_words e
  have ne : wordsOf d ≠ [] := fun c => by
    rw [c] at f2
    rcases f2 with f2 | f2 <;> cases f2
  have sp : Txt.split (lineD d) " " = wordsOf d := by
    unfold lineD
    rw [space']
    exact split_join ne fun z hz => (W85_ok z (words_in e s z hz)).1
  rw [row0, sp, ← law_ev f2 f3, f1, if_pos (ev_b e)]
theorem evs_lines : ∀ {ds : List PyData} (n : Nat), (∀ d ∈ ds, Ev d ∧ smallD d = true) → evs (ds.map lineD) n = .ok ds
  | [], _, _ => rfl
  | d :: ds, n, h => by
    have h1 := h d (List.mem_cons_self ..)
    have ih := evs_lines (ds := ds) (n + 1) fun e he => h e (List.mem_cons_of_mem _ he)
    show (match evOf (rowWords (lineD d) 0) with
      | none => Except.error n
      | some d => match evs (ds.map lineD) (n + 1) with
        | .ok l => .ok (d :: l)
        | .error e => .error e) = _
    rw [line_read h1.1 h1.2, ih]
theorem join_ne {c z : Str} {r : List Str} (hz : z ≠ "") : Str.join c (z :: r) ≠ "" := fun e => by
  have l : (Str.join c (z :: r)).length = 0 := by rw [e]; decide +kernel
  have h := join_len (y := c) (ps := z :: r) (p := z) (List.mem_cons_self ..)
  exact hz (len_zero (by omega))
theorem line_ne {d : PyData} (e : Ev d) : lineD d ≠ "" := by
  cases e with
  | call _ _ _ _ _ => exact join_ne (by decide +kernel)
  | ans _ _ _ _ => exact join_ne (by decide +kernel)
theorem page_read {ds : List PyData} (h : ∀ d ∈ ds, Ev d ∧ smallD d = true) : readR (pageD (.tuple ds)) = .ok ds := by
  cases ds with
  | nil => rfl
  | cons d ds =>
    have h1 := h d (List.mem_cons_self ..)
    have ne : pageD (.tuple (d :: ds)) ≠ "" := join_ne (line_ne h1.1)
    unfold readR
    rw [if_neg ne]
    have e : rowsOf (pageD (.tuple (d :: ds))) = (d :: ds).map lineD := rows_join (fun c => nomatch c) fun p hp => by
      obtain ⟨c, hc, rfl⟩ := List.mem_map.mp hp
      exact line_free (h c hc).1 (h c hc).2
    rw [e]
    exact evs_lines 0 h
theorem page_len {ds : List PyData} (h : ∀ d ∈ ds, Ev d) : (pageD (.tuple ds)).length ≤ 51 * ds.length := by
  have h1 := Wt_join_le nl1 (ds.map lineD)
  have h2 : ∀ {es : List PyData}, (∀ d ∈ es, Ev d) → Wt (es.map lineD) ≤ 51 * es.length := fun {es} => by
    induction es with
    | nil => exact fun _ => Nat.le_refl _
    | cons d es ih =>
      intro he
      have q1 := line_len (he d (List.mem_cons_self ..))
      have q2 := ih fun e m => he e (List.mem_cons_of_mem _ m)
      rw [List.map_cons, Wt_cons, List.length_cons]
      omega
  exact Nat.le_trans h1 (h2 h)
theorem page_ok {ds : List PyData} (h : ∀ d ∈ ds, Ev d ∧ smallD d = true) : PyData.strOk (pageD (.tuple ds)) = true := ok_join (by decide +kernel) fun z hz => by
  obtain ⟨d, hd, rfl⟩ := List.mem_map.mp hz
  exact line_ok (h d hd).1 (h d hd).2
/-! ### a drawn run is drawn from -/
theorem in_int {n : Int} (h : -3 ≤ n ∧ n ≤ 4) : inB (.int n) = true := decide_eq_true h
theorem ev_in {d : PyData} (e : Ev d) (s : smallD d = true) : InD d 150 2 := by
  have lz : ∀ {z : Str}, z ∈ S85 → z.cps.size ≤ 20 := fun h => (S85_ok _ h).1
  cases e with
  | call ha hb hr n0 n4 =>
    rename_i a b r n
    obtain ⟨s1, s2, s3⟩ := small_wire s
    obtain ⟨s4, s5⟩ := small_str s3
    obtain ⟨s6, _⟩ := small_str s5
    refine ⟨?_, ?_, ?_⟩
    · show (decide (4 ≤ 6) && ((decide (2 ≤ 6) && (decide (a ∈ S85) && (decide (b ∈ S85) && true))) && (decide (("call" : Str) ∈ S85) && (decide (r ∈ S85) && (decide (-3 ≤ n ∧ n ≤ 4) && true))))) = true
      rw [decide_eq_true s1, decide_eq_true s2, decide_eq_true s4, decide_eq_true s6, decide_eq_true (show -3 ≤ n ∧ n ≤ 4 by omega)]
      rfl
    · have h1 := lz s1
      have h2 := lz s2
      have h3 := lz s4
      have h4 := lz s6
      have h5 := int_w85' (i := n) (by omega)
      show (a.cps.size + 1 + (b.cps.size + 1 + 0)) + 1 + (("call" : Str).cps.size + 1 + (r.cps.size + 1 + (PyData.weight (.int n) + 1 + 0))) ≤ 150
      omega
    · show max (max 0 (max 0 0) + 1) (max 0 (max 0 (max 0 0))) + 1 ≤ 2
      decide
  | ans ha hb i0 i4 =>
    rename_i a b n
    obtain ⟨s1, s2, s3⟩ := small_wire s
    obtain ⟨s4, s5⟩ := small_str s3
    refine ⟨?_, ?_, ?_⟩
    · show (decide (3 ≤ 6) && ((decide (2 ≤ 6) && (decide (a ∈ S85) && (decide (b ∈ S85) && true))) && (decide (("answer" : Str) ∈ S85) && (decide (-3 ≤ n ∧ n ≤ 4) && true)))) = true
      rw [decide_eq_true s1, decide_eq_true s2, decide_eq_true s4, decide_eq_true (show -3 ≤ n ∧ n ≤ 4 by omega)]
      rfl
    · have h1 := lz s1
      have h2 := lz s2
      have h3 := lz s4
      have h5 := int_w85' (i := n) (by omega)
      show (a.cps.size + 1 + (b.cps.size + 1 + 0)) + 1 + (("answer" : Str).cps.size + 1 + (PyData.weight (.int n) + 1 + 0)) ≤ 150
      omega
    · show max (max 0 (max 0 0) + 1) (max 0 (max 0 0)) + 1 ≤ 2
      decide
theorem run_in {ds : List PyData} (h : ∀ d ∈ ds, Ev d ∧ smallD d = true) (l6 : ds.length ≤ 6) : InD (.tuple ds) 1000 3 := by
  have h1 : ∀ {es : List PyData}, (∀ d ∈ es, Ev d ∧ smallD d = true) → inBA es = true ∧ PyData.weightAll es ≤ 151 * es.length ∧ PyData.depthAll es ≤ 2 := fun {es} => by
    induction es with
    | nil => exact fun _ => ⟨rfl, Nat.le_refl _, Nat.zero_le _⟩
    | cons d es ih =>
      intro he
      obtain ⟨q1, q2, q3⟩ := ih fun e m => he e (List.mem_cons_of_mem _ m)
      have q := ev_in (he d (List.mem_cons_self ..)).1 (he d (List.mem_cons_self ..)).2
      have qw := q.w
      have qn := q.n
      refine ⟨?_, ?_, ?_⟩
      · show (inB d && inBA es) = true
        rw [q.i, q1]
        rfl
      · show PyData.weight d + 1 + PyData.weightAll es ≤ 151 * (es.length + 1)
        omega
      · show max (PyData.depth d) (PyData.depthAll es) ≤ 2
        omega
  obtain ⟨q1, q2, q3⟩ := h1 h
  refine ⟨?_, ?_, ?_⟩
  · show (decide (ds.length ≤ 6) && inBA ds) = true
    rw [decide_eq_true l6, q1]
    rfl
  · show PyData.weightAll ds ≤ 1000
    omega
  · show PyData.depthAll ds + 1 ≤ 3
    omega
end K5
namespace K5
open PySem PySem.Spec PyProof.Rows L2
/-! ### a value that is handed to the package -/
structure Th (d : PyData) : Prop where
  ok : okD d = true
  w : d.weight ≤ 20000
  p : d.depth ≤ 40
  l : d.hasDict = true → listIn d = false
  f : fewD d = true
  s : isT d = true → smallD d = true
theorem Th.sz {d : PyData} (h : Th d) : SzD d := ⟨h.ok, Nat.le_trans h.w (by decide), Nat.le_trans h.p (by decide), h.l⟩
theorem Res.th {d : PyData} {w n : Nat} (h : Res d w n) (hw : w ≤ 20000) (hn : n ≤ 40) : Th d := ⟨ok_small d h.s, Nat.le_trans h.w hw, Nat.le_trans h.n hn, h.l, (by
  have := h.c
  cases d with
  | tuple ds => exact decide_eq_true (Nat.le_trans this (by decide))
  | _ => rfl), fun _ => h.s⟩
theorem str_th {z : Str} (hl : z.length ≤ 14000) (ho : PyData.strOk z = true) : Th (.str z) := ⟨by
  show (decide (z.length ≤ 14000) && PyData.strOk z) = true
  rw [decide_eq_true hl, ho]
  rfl, Nat.le_trans (show z.cps.size ≤ 14000 from hl) (by decide), Nat.zero_le _, (fun e => nomatch e), rfl, (fun e => nomatch e)⟩
theorem okA_two {z : Str} {d : PyData} (hz : okD (.str z) = true) (h : okD d = true) : okD (.tuple [.str z, d]) = true := by
  show (okD (.str z) && (okD d && true)) = true
  rw [hz, h]
  rfl
theorem two_sz {z : Str} {d : PyData} (hz : z.length ≤ 100 ∧ okD (.str z) = true) (h : SzD d) (hw : d.weight ≤ 900000) (hp : d.depth ≤ 45) : SzD (.tuple [.str z, d]) := ⟨okA_two hz.2 h.ok, (by
  have : z.cps.size ≤ 100 := hz.1
  show z.cps.size + 1 + (d.weight + 1 + 0) ≤ 1000000
  omega), (by
  show max 0 (max d.depth 0) + 1 ≤ 50
  omega), fun e => by
  have e : (false || (d.hasDict || false)) = true := e
  rw [Bool.false_or, Bool.or_false] at e
  show (false || (listIn d || false)) = false
  rw [h.l e]
  rfl⟩
theorem word_ok : (("run" : Str).length ≤ 100 ∧ okD (.str "run") = true) ∧ (("value" : Str).length ≤ 100 ∧ okD (.str "value") = true) ∧ (("line" : Str).length ≤ 100 ∧ okD (.str "line") = true) := by decide +kernel
theorem run_all {ds : List PyData} (h : runB (.tuple ds) = true) (s : smallD (.tuple ds) = true) : ∀ d ∈ ds, Ev d ∧ smallD d = true := fun d hd => by
  have ha : ∀ d ∈ ds, eventB d = true := List.all_eq_true.mp h
  obtain ⟨i, hi⟩ := List.getElem?_of_mem hd
  exact ⟨ev_inv (ha d hd), smallA_at i s hi⟩
theorem run_tup {d : PyData} (h : runB d = true) : ∃ ds, d = .tuple ds := by
  cases d <;> first | exact ⟨_, rfl⟩ | cases h
/-- what show_run is to tell -/
def outS (d : PyData) : Out := if runB d = true then .ok (.str (pageD d)) else .val d
theorem page_th {d : PyData} (h : Th d) (r : runB d = true) : Th (.str (pageD d)) ∧ (pageD d).length ≤ 5200 := by
  obtain ⟨ds, rfl⟩ := run_tup r
  have ev := run_all r (h.s rfl)
  have fw : ds.length ≤ 100 := of_decide_eq_true h.f
  have l := page_len fun d hd => (ev d hd).1
  exact ⟨str_th (by omega) (page_ok ev), by omega⟩
theorem outS_sz {d : PyData} (h : Th d) : SzD (outD (outS d)) := by
  unfold outS
  by_cases r : runB d = true
  · rw [if_pos r]
    have q := (page_th h r).1
    exact two_sz word_ok.1 q.sz (Nat.le_trans q.w (by decide)) (Nat.le_trans q.p (by decide))
  · rw [if_neg r]
    exact two_sz word_ok.2.1 h.sz (Nat.le_trans h.w (by decide)) (Nat.le_trans h.p (by decide))
/-- what read_run is to tell of a text -/
def outR (z : Str) : Out := match readR z with
  | .ok ds => .ok (.tuple ds)
  | .error e => .txt (e : Nat)
theorem outR_due (z : Str) : outD (outR z) = dueD (readR z) := by
  unfold outR
  cases readR z <;> rfl
theorem name_sz {z : Str} (h : isName z = true) (o : PyData.strOk z = true) : okD (.str z) = true ∧ z.cps.size ≤ 8 := by
  have l := (name_len h).2
  refine ⟨?_, l⟩
  show (decide (z.length ≤ 14000) && PyData.strOk z) = true
  rw [decide_eq_true (Nat.le_trans l (by decide)), o]
  rfl
theorem word2_ok : okD (.str "call") = true ∧ okD (.str "answer") = true ∧ okD (.str "") = true ∧ ("call" : Str).cps.size ≤ 10 ∧ ("answer" : Str).cps.size ≤ 10 := by decide +kernel
theorem ev_sz {ws : List Str} {d : PyData} (o : ∀ z ∈ ws, PyData.strOk z = true) (h : evOf ws = some d) : okD d = true ∧ d.weight ≤ 63 := by
  have us : ∀ {a b : Str} {q : Str × Str}, wireOf [a, b] = some q → PyData.strOk a = true → PyData.strOk b = true → (okD (.str q.1) = true ∧ q.1.cps.size ≤ 8) ∧ (okD (.str q.2) = true ∧ q.2.cps.size ≤ 8) := fun {a b q} e ha hb => by
    rw [wire2] at e
    split at e
    · rename_i nb
      split at e
      · cases e
        exact ⟨⟨word2_ok.2.2.1, by show ("" : Str).cps.size ≤ 8; decide +kernel⟩, name_sz nb hb⟩
      · split at e
        · rename_i na
          cases e
          exact ⟨name_sz na ha, name_sz nb hb⟩
        · cases e
    · cases e
  have iok : ∀ {i : Int}, -20 ≤ i ∧ i ≤ 20 → okD (.int i) = true := fun h => decide_eq_true h
  unfold evOf at h
  split at h
  · rename_i k a b d' n
    split at h
    · cases h
    · rename_i q hq
      split at h
      · split at h
        · rename_i c
          cases h
          obtain ⟨⟨o1, l1⟩, o2, l2⟩ := us hq (o a (by simp)) (o b (by simp))
          have dn : isName d' = true := by
            have := c.1
            unfold isDoor at this
            rw [Bool.and_eq_true] at this
            exact this.1
          obtain ⟨o3, l3⟩ := name_sz dn (o d' (by simp))
          have n4 := num_lt n
          have n0 := c.2
          have l4 := int_w85' (i := numOf n 4) (by omega)
          constructor
          · show ((okD (.str q.1) && (okD (.str q.2) && true)) && (okD (.str "call") && (okD (.str d') && (okD (.int (numOf n 4)) && true)))) = true
            rw [o1, o2, o3, word2_ok.1, iok (by omega)]
            rfl
          · have := word2_ok.2.2.2.1
            show (q.1.cps.size + 1 + (q.2.cps.size + 1 + 0)) + 1 + (("call" : Str).cps.size + 1 + (d'.cps.size + 1 + (PyData.weight (.int (numOf n 4)) + 1 + 0))) ≤ 63
            omega
        · cases h
      · cases h
  · rename_i k a b x
    split at h
    · cases h
    · rename_i q hq
      split at h
      · split at h
        · cases h
        · rename_i i hi
          cases h
          obtain ⟨⟨o1, l1⟩, o2, l2⟩ := us hq (o a (by simp)) (o b (by simp))
          have n4 := ansOf_in hi
          have l4 := int_w85' (i := i) (by omega)
          constructor
          · show ((okD (.str q.1) && (okD (.str q.2) && true)) && (okD (.str "answer") && (okD (.int i) && true))) = true
            rw [o1, o2, word2_ok.2.1, iok (by omega)]
            rfl
          · have := word2_ok.2.2.2.2
            show (q.1.cps.size + 1 + (q.2.cps.size + 1 + 0)) + 1 + (("answer" : Str).cps.size + 1 + (PyData.weight (.int i) + 1 + 0)) ≤ 63
            omega
      · cases h
  · cases h
theorem row_okW {z : Str} (zo : PyData.strOk z = true) : ∀ y ∈ rowWords z 0, PyData.strOk y = true := fun y hy => by
  rw [row0] at hy
  unfold cleanWords at hy
  split at hy
  · cases hy
  · exact split_ok hy zo
theorem read_sz {z : Str} (zl : z.length ≤ 14000) (zo : PyData.strOk z = true) {ds : List PyData} (h : readR z = .ok ds) : SzD (.tuple ds) ∧ (PyData.tuple ds).weight ≤ 900000 ∧ (PyData.tuple ds).depth ≤ 45 := by
  have all : ∀ {es : List PyData}, (∀ d ∈ es, (okD d = true ∧ d.weight ≤ 63) ∧ EvD d) → okA es = true ∧ PyData.weightAll es ≤ 64 * es.length ∧ PyData.hasDictAll es = false ∧ PyData.depthAll es ≤ 2 := fun {es} => by
    induction es with
    | nil => exact fun _ => ⟨rfl, Nat.le_refl _, rfl, Nat.zero_le _⟩
    | cons d es ih =>
      intro he
      obtain ⟨q1, q2, q3, q4⟩ := ih fun e m => he e (List.mem_cons_of_mem _ m)
      obtain ⟨⟨p1, p2⟩, p3⟩ := he d (List.mem_cons_self ..)
      refine ⟨?_, ?_, ?_, ?_⟩
      · show (okD d && okA es) = true
        rw [p1, q1]
        rfl
      · show PyData.weight d + 1 + PyData.weightAll es ≤ 64 * (es.length + 1)
        omega
      · show (PyData.hasDict d || PyData.hasDictAll es) = false
        rw [p3.h, q3]
        rfl
      · have := p3.p
        show max (PyData.depth d) (PyData.depthAll es) ≤ 2
        omega
  have hd : (∀ d ∈ ds, (okD d = true ∧ d.weight ≤ 63) ∧ EvD d) ∧ ds.length ≤ 14001 := by
    unfold readR at h
    split at h
    · cases h
      exact ⟨fun d hd => (nomatch hd), Nat.zero_le _⟩
    · rcases evs_spec (rowsOf z) 0 with ⟨j, _, _, e⟩ | ⟨es, e1, e2⟩
      · rw [e] at h
        cases h
      · rw [e2] at h
        cases h
        constructor
        · intro d hd
          have m : some d ∈ (rowsOf z).map fun r => evOf (rowWords r 0) := by
            rw [e1]
            exact List.mem_map.mpr ⟨d, hd, rfl⟩
          obtain ⟨r, hr, e⟩ := List.mem_map.mp m
          have ro : PyData.strOk r = true := split_ok hr zo
          exact ⟨ev_sz (row_okW ro) e, ev_flat ro e⟩
        · have l1 := congrArg List.length e1
          rw [List.length_map, List.length_map] at l1
          have l2 := Wt_rows z
          have l3 := Wt_len (rowsOf z)
          omega
  obtain ⟨q1, q2, q3, q4⟩ := all hd.1
  have hl := hd.2
  have hw : PyData.weightAll ds ≤ 900000 := by omega
  refine ⟨⟨q1, ?_, ?_, fun e => ?_⟩, hw, ?_⟩
  · exact Nat.le_trans hw (by decide)
  · show PyData.depthAll ds + 1 ≤ 50
    omega
  · have e : PyData.hasDictAll ds = true := e
    rw [q3] at e
    cases e
  · show PyData.depthAll ds + 1 ≤ 45
    omega
theorem line_int {i : Int} (h : -1 ≤ i ∧ i ≤ 20000) : (PyData.int i).showable = true ∧ (PyData.int i).leavesShort 13 = true ∧ (PyData.int i).weight ≤ 64 := by
  have l : i.natAbs.log2 < 20 := by
    by_cases h0 : i.natAbs = 0
    · rw [h0]; decide
    · exact (Nat.log2_lt h0).mpr (show i.natAbs < 2 ^ 20 by omega)
  refine ⟨decide_eq_true (Nat.lt_trans l (by decide)), ?_, ?_⟩
  · simp only [PyData.leavesShort, decide_eq_true_eq]
    pv_int_short
  · show (if i == 0 then 0 else i.natAbs.log2 + 1) ≤ 64
    split <;> omega
theorem txt_sz {i : Int} (h : -1 ≤ i ∧ i ≤ 20000) : ShOk (.tuple [.str "line", .int i]) where
  s := by
    show (PyData.showable (.str "line") && (PyData.showable (.int i) && true)) = true
    rw [(line_int h).1]
    rfl
  l := fun e => nomatch e
  z := PyData.shown_fits (B := 13) (by decide) (by decide) (by
    show (PyData.leavesShort 13 (.str "line") && (PyData.leavesShort 13 (.int i) && true)) = true
    rw [(line_int h).2.1, show PyData.leavesShort 13 (.str "line") = true by decide +kernel]
    rfl) (by
    have : ("line" : Str).cps.size ≤ 10 := by decide +kernel
    have := (line_int h).2.2
    show ("line" : Str).cps.size + 1 + (PyData.weight (.int i) + 1 + 0) ≤ _
    exact Nat.le_trans (show _ ≤ 1000 by omega) (by decide))
  d := by
    show max 0 (max 0 0) + 1 ≤ 50
    decide
theorem evs_err : ∀ {rs : List Str} {n e : Nat}, evs rs n = .error e → e ≤ n + rs.length
  | [], n, e, h => by cases h
  | r :: rs, n, e, h => by
    have h : (match evOf (rowWords r 0) with
      | none => Except.error n
      | some d => match evs rs (n + 1) with
        | .ok l => .ok (d :: l)
        | .error e => .error e) = .error e := h
    split at h
    · cases h
      omega
    · split at h
      · cases h
      · rename_i e2
        cases h
        have := evs_err e2
        rw [List.length_cons]
        omega
/-- what is told of a text can be shown -/
theorem outR_sh {z : Str} (zl : z.length ≤ 14000) (zo : PyData.strOk z = true) : ShOk (outD (outR z)) := by
  unfold outR
  cases c : readR z with
  | ok ds =>
    obtain ⟨q1, q2, q3⟩ := read_sz zl zo c
    exact (two_sz word_ok.1 q1 q2 q3).sh
  | error e =>
    refine txt_sz ?_
    have l2 := Wt_rows z
    have l3 := Wt_len (rowsOf z)
    unfold readR at c
    split at c
    · cases c
    · have := evs_err c
      omega
end K5
namespace K5
open PySem PySem.Spec PyProof.Rows L2
/-! ### data that is made -/
def DV (te : TE) (σ : L2.St) (H : Hp) (d : PyData) : Prop := ∀ H1, Same H H1 → ∀ Q : VK, (∀ x H', Same H1 H' → Dq H' x d → Q x H') → te σ H1 Q
section
variable {K : PySem.W.Frag} {σ : L2.St} {H H' : Hp} {ta tb te : TE} {d e : PyData} {x : V} {i : Nat} {CT CR fR : Addr} {sp : Sp} {o : Out} {z : Str} {Q : VK}
theorem DV.same (h : DV te σ H d) (s : Same H H') : DV te σ H' d := fun H1 s1 Q q => h H1 (s.trans s1) Q q
theorem dv_var (h : σ[i]? = some (some x)) (hx : Dq H x d) : DV (tVar i) σ H d := fun H1 s Q q => (val_var h) _ (q x H1 (Same.refl _) (Dq.mono s _ hx))
theorem dv_str : DV (tC (.str z)) σ H (.str z) := fun H1 s Q q => val_c _ (q _ H1 (Same.refl _) (.str z))
theorem dv_neg {j : Int} : DV (tUn (rU fun i => .int (-i)) (tC (.int j))) σ H (.int (-j)) := fun H1 s Q q => (val_neg val_c) _ (q _ H1 (Same.refl _) (.int _))
theorem dv_tup2 (ha : DV ta σ H d) (hb : DV tb σ H e) : DV (tTup (tCons ta (tCons tb tNil))) σ H (.tuple [d, e]) := fun H1 s Q q => by
  dsimp only [tTup, tCons, tNil]
  refine ha H1 s _ fun x H2 s2 hx => hb H2 (s.trans s2) _ fun y H3 s3 hy => ?_
  refine ⟨by show 2 ≤ sizeLine; decide, fun p np => ?_⟩
  have s4 := same_upd (o := .tup [x, y]) np
  exact q _ _ (s2.trans (s3.trans s4)) (.tup upd_same (.cons (Dq.mono (s3.trans s4) _ hx) (.cons (Dq.mono s4 _ hy) .nil)))
theorem ne_repr (sh : ShOk d) (ha : DV ta σ H d) (hb : DV tb σ H d) {R : Bool → Hp → Prop} (k : ∀ H', Same H H' → R false H') : tTest (tOp rNe (tCB rReprQ (tCons ta tNil)) (tCB rReprQ (tCons tb tNil))) σ H R := by
  dsimp only [tTest, tOp, tCB, tCons, tNil]
  refine ha H (Same.refl _) _ fun x H1 s1 hx => ⟨x, d, rfl, hx, sh, ?_⟩
  refine hb H1 s1 _ fun y H2 s2 hy => ⟨y, d, rfl, hy, sh, rfl, _, rfl, ?_⟩
  rw [decide_eq_true rfl]
  exact k H2 (s1.trans s2)
theorem eq_repr (sh : ShOk d) (ha : DV ta σ H d) (hb : DV tb σ H d) (k : ∀ H', Same H H' → Q (.bl true) H') : tOp rEq (tCB rReprQ (tCons ta tNil)) (tCB rReprQ (tCons tb tNil)) σ H Q := by
  dsimp only [tOp, tCB, tCons, tNil]
  refine ha H (Same.refl _) _ fun x H1 s1 hx => ⟨x, d, rfl, hx, sh, ?_⟩
  refine hb H1 s1 _ fun y H2 s2 hy => ⟨y, d, rfl, hy, sh, rfl, ?_⟩
  rw [decide_eq_true rfl]
  exact k H2 (s1.trans s2)
theorem ne_was {j : Nat} (sh : ShOk d) (ha : DV ta σ H d) (hj : σ[j]? = some (some (.str d.shown))) {R : Bool → Hp → Prop} (k : ∀ H', Same H H' → R false H') : tTest (tOp rNe (tCB rReprQ (tCons ta tNil)) (tVar j)) σ H R := by
  dsimp only [tTest, tOp, tCB, tCons, tNil]
  refine ha H (Same.refl _) _ fun x H1 s1 hx => ⟨x, d, rfl, hx, sh, ?_⟩
  refine (val_var hj) _ ⟨rfl, _, rfl, ?_⟩
  rw [decide_eq_true rfl]
  exact k H1 s1
/-! ### what the readers tell -/
theorem dv_told (hv : σ[i]? = some (some x)) (hr : ∀ H', Same H H' → Reads85 sp CT CR x H' o) : DV (tCall (spTold fR sp CT CR) [] E0 (tCons (tC (.ref fR)) (tCons (tVar i) tNil))) σ H (outD o) := fun H1 s Q q => by
  dsimp only [tCall, tCons, tNil]
  exact val_c _ ((val_var hv) _ ⟨x, o, rfl, fun H' s' => hr H' (s.trans s'), fun H' y s' hy => q y H' s' hy⟩)
theorem reads_show (hx : Dq H x d) (th : Th d) : ∀ H', Same H H' → Reads85 (spShowRun CR) CT CR x H' (outS d) := fun H' s => by
  have hx' := Dq.mono s _ hx
  unfold outS
  by_cases r : runB d = true
  · rw [if_pos r]
    exact fun Q E q => ⟨x, d, rfl, hx', th.s, th.f, fun _ H2 s2 => q H2 _ s2 (.str _), fun e => by rw [r] at e; cases e⟩
  · rw [if_neg r]
    exact ⟨hx', fun Q E he => ⟨x, d, rfl, hx', th.s, th.f, fun e => absurd e r, fun _ => he⟩⟩
theorem reads_read (zl : z.length ≤ 14000) (zo : PyData.strOk z = true) : ∀ H', Same H H' → Reads85 (spReadRun CT) CT CR (.str z) H' (outR z) := fun H' s => by
  unfold outR
  cases c : readR z with
  | ok ds =>
    exact fun Q E q => ⟨.str z, "str", rfl, .str z, (fun e => nomatch e), fun y e => by
      cases e
      refine ⟨zl, zo, ?_⟩
      rw [c]
      exact fun H2 t s2 h2 => q H2 _ s2 h2⟩
  | error n =>
    exact fun Q E he => ⟨.str z, "str", rfl, .str z, (fun e => nomatch e), fun y e => by
      cases e
      refine ⟨zl, zo, ?_⟩
      rw [c]
      exact he⟩
theorem reads_odd (hx : Dq H x d) (ns : isS x = false) : ∀ H', Same H H' → Reads85 (spReadRun CT) CT CR x H' (.txt (-1)) := fun H' s => by
  obtain ⟨T, kd⟩ := (Dq.mono s _ hx).kd
  exact fun Q E he => ⟨x, T, rfl, kd, fun _ => he, fun y e => by
    rw [e] at ns
    cases ns⟩
theorem dv_due (hv : σ[i]? = some (some (.str z))) (zl : z.length ≤ 14000) (zo : PyData.strOk z = true) : DV (tCall spReadDue [] E0 (tCons (tVar i) tNil)) σ H (outD (outR z)) := fun H1 s Q q => by
  dsimp only [tCall, tCons, tNil]
  refine (val_var hv) _ ⟨z, rfl, zl, zo, fun H' x s' hx => ?_⟩
  rw [← outR_due] at hx
  exact q x H' s' hx
theorem dv_showrun (hv : σ[i]? = some (some x)) (hx : Dq H x d) (th : Th d) (r : runB d = true) : DV (tCall (spShowRun CR) [] E0 (tCons (tVar i) tNil)) σ H (.str (pageD d)) := fun H1 s Q q => by
  dsimp only [tCall, tCons, tNil]
  exact (val_var hv) _ ⟨x, d, rfl, Dq.mono s _ hx, th.s, th.f, fun _ H2 s2 => q _ H2 s2 (.str _), fun e => by rw [r] at e; cases e⟩
theorem dv_readrun {ds : List PyData} (hv : σ[i]? = some (some (.str z))) (zl : z.length ≤ 14000) (zo : PyData.strOk z = true) (r : readR z = .ok ds) : DV (tCall (spReadRun CT) [] E0 (tCons (tVar i) tNil)) σ H (.tuple ds) := fun H1 s Q q => by
  dsimp only [tCall, tCons, tNil]
  refine (val_var hv) _ ⟨.str z, "str", rfl, .str z, (fun e => nomatch e), fun y e => ?_⟩
  cases e
  refine ⟨zl, zo, ?_⟩
  rw [r]
  exact fun H2 t s2 h2 => q _ H2 s2 h2
theorem val_lrun (hv : σ[i]? = some (some x)) (hx : Dq H x d) (th : Th d) {R : Bool → Hp → Prop} (k : ∀ H', Same H H' → R (runB d) H') : tB (tCall spLRun [] E0 (tCons (tVar i) tNil)) σ H R := by
  dsimp only [tB, tCall, tCons, tNil]
  exact (val_var hv) _ ⟨x, d, rfl, hx, th.sz, th.f, fun H' s => ⟨_, rfl, k H' s⟩⟩
end
/-! ### a page of a run -/
section
variable {K : PySem.W.Frag} {H : Hp} {te : TE} {v0 v1 v2 v3 v4 v5 v6 v7 v8 v9 : Option V} {p : Addr} {xs : List V} {ds : List PyData} {Q : VK}
theorem page_run (hv : Val te [v0, v1, v2, v3, v4, v5, v6, v7, v8, v9] H (.ref p)) (hp : H p = some (.tup xs)) (a : DqA H xs ds) (ev : ∀ d ∈ ds, Ev d) (few : ds.length ≤ 100) (k : ∀ H', Same H H' → Q (.str (pageD (.tuple ds))) H') :
    tBM K "str" (fun x xs H Q => ∃ a p, ∃ ys : List Str, x = .str a ∧ xs = [.ref p] ∧ (SqL K H p (ys.map V.str) ∨ SqT K H p (ys.map V.str)) ∧ (ys.map (·.length)).sum + ys.length * a.length ≤ 16777216 ∧ Q (.str (Txt.join a ys)) H) (tC (.str "\n"))
      (tCons (tLc (iTup K te) (gName 9) tYes (tCall spLine [] E0 (tCons (tVar 9) tNil)) [9]) tNil) [v0, v1, v2, v3, v4, v5, v6, v7, v8, v9] H Q := by
  refine bm_run (x := .str "\n") val_c rfl ?_
  try dsimp only [tCons, tNil]
  refine lc_valsT (p := p) (xs := xs) (zs := (ds.map lineD).map V.str) hv hp (by rw [List.length_map, List.length_map, a.len]) (by rw [List.length_map, List.length_map]; omega) (fun i x z H' hx hz s => ?_) fun H2 q2 s2 hq2 => ?_
  · obtain ⟨d, hd, dq⟩ := a.at2 i hx
    rw [List.getElem?_map, List.getElem?_map, hd] at hz
    have hz : V.str (lineD d) = z := Option.some.inj hz
    refine ⟨_, fun P hP => hP, rfl, fun R hR => ?_⟩
    rw [← hz] at hR
    try dsimp only [tCall, tCons, tNil]
    refine (val_var rfl) _ ?_
    exact ⟨x, d, rfl, Dq.mono s _ dq, ev d (List.mem_of_getElem? hd), hR⟩
  · refine ⟨"\n", q2, ds.map lineD, rfl, rfl, .inl (SqL.of hq2), ?_, ?_⟩
    · have h1 := sum_le (zs := ds.map lineD) (c := 50) fun z hz => by
        obtain ⟨d, hd, rfl⟩ := List.mem_map.mp hz
        exact line_len (ev d hd)
      rw [List.length_map] at h1 ⊢
      have h2 : ("\n" : Str).length = 1 := by decide +kernel
      rw [h2, Nat.mul_one]
      omega
    · rw [jn_txt]
      exact k H2 s2
end
/-! ### the drawn run -/
section
variable {K : PySem.W.Frag} {H : Hp} {b : Addr} {p q n : Int} {Q : VK}
theorem draw_run (hb : H b = some (.lst (bx p q n))) (Bx : Box p q n) (hn : n + 200 < 1000000)
    (k : ∀ (H' : Hp) (M : Addr) (xs : List V) (ds : List PyData) (p' n' : Int), SameBut b H H' → H' M = some (.lst xs) → DqA H' xs ds → (∀ d ∈ ds, Ev d ∧ smallD d = true) → listInA ds = false → ds.length ≤ 6 → H' b = some (.lst (bx p' q n')) → Box p' q n' → n' ≤ n + 60 → Q (.ref M) H') :
    tLc (iRng1 (tCons (tCall spTake [] E0 (tCons (tVar 0) (tCons (tC (.int 7)) tNil))) tNil)) (gName 3) tYes (tCall spEv [] E0 (tCons (tVar 0) tNil)) [3] [some (.ref b), none, none, none, none, none, none, none, none, none] H Q := by
  dsimp only [tLc, iRng1]
  dsimp only [tCons, tNil]
  refine take_box rfl val_c hb Bx (by decide) (by decide) (by omega) fun d p1 n1 d0 d1 B1 le1 => ?_
  have sb1 : SameBut b H (upd H b (.lst (bx p1 q n1))) := SameBut.upd _ _ _
  have hb1 : (upd H b (.lst (bx p1 q n1))) b = some (.lst (bx p1 q n1)) := upd_same
  generalize (upd H b (.lst (bx p1 q n1))) = H1 at sb1 hb1 ⊢
  refine ⟨d, rfl, by omega, by omega, fun M nM => ?_⟩
  have bM : b ≠ M := ne_of_none hb1 nM
  refine lc_range (lo := 0) (n := d.toNat) (fun t H2 => ∃ (xs : List V) (ds : List PyData) (p' n' : Int), SameBut b H1 H2 ∧ H2 M = some (.lst xs) ∧ DqA H2 xs ds ∧ (∀ d ∈ ds, Ev d ∧ smallD d = true) ∧ listInA ds = false ∧ ds.length = t ∧ H2 b = some (.lst (bx p' q n')) ∧ Box p' q n' ∧ n' ≤ n1 + 8 * t)
    ⟨[], [], p1, n1, SameBut.of_same (same_upd nM), upd_same, .nil, fun _ h => (nomatch h), rfl, rfl, same_upd nM _ _ hb1, B1, by omega⟩ (fun t H2 ht hI => ?_) fun H2 hI => ?_
  · obtain ⟨xs, ds, p', n', s2, hM, a, ev, nl, len, hb2, B2, le2⟩ := hI
    have al := a.len
    refine ⟨rfl, ?_⟩
    dsimp only [tYes]
    rw [if_pos rfl]
    dsimp only [tCall, tCons, tNil]
    refine (val_var rfl) _ ⟨b, p', q, n', rfl, hb2, B2, by omega, fun H3 x e p3 n3 s3 hb3 B3 le3 dq dr => ?_⟩
    have hM3 := s3 _ _ bM.symm hM
    have tk23 : TK H2 H3 := TK.but s3 hb2 (fun _ e => nomatch e) (fun e => nomatch e)
    have a3 := DqA.tk tk23 _ nl a
    have tk34 : TK H3 (upd H3 M (.lst (xs ++ [x]))) := TK.but (SameBut.upd M H3 _) hM3 (fun _ e => nomatch e) (fun e => nomatch e)
    have nl2 : listInA (ds ++ [e]) = false := by
      rw [listInA_app, nl]
      show (false || (listIn e || false)) = false
      rw [dr.l]
      rfl
    refine ⟨xs, hM3, by rw [al, len]; exact Nat.lt_of_le_of_lt (show t ≤ 7 by omega) (by decide), xs ++ [x], ds ++ [e], p3, n3, ?_, upd_same, DqA.tk tk34 _ nl2 (a3.app (.cons dq .nil)), ?_, nl2, by rw [List.length_append, len]; rfl, by rw [upd_ne bM]; exact hb3, B3, by omega⟩
    · intro u o nu hu
      have h3 := s3 _ _ nu (s2 _ _ nu hu)
      rw [upd_ne (ne_of_none hu nM)]
      exact h3
    · intro f hf
      rcases List.mem_append.mp hf with hf | hf
      · exact ev f hf
      · rw [List.mem_singleton.mp hf]
        exact ⟨dr.e, dr.s⟩
  · obtain ⟨xs, ds, p', n', s2, hM, a, ev, nl, len, hb2, B2, le2⟩ := hI
    exact k H2 M xs ds p' n' (sb1.trans s2) hM a ev nl (by omega) hb2 B2 (by omega)
end
/-! ### one of a written list -/
def PV (P : Hp → V → Prop) (te : TE) (σ : L2.St) (H : Hp) : Prop := ∀ H1, Same H H1 → ∀ Q : VK, (∀ x H', Same H1 H' → P H' x → Q x H') → te σ H1 Q
def PL (P : Hp → V → Prop) (k : Nat) (t : TA) (σ : L2.St) (H : Hp) : Prop := ∀ H1, Same H H1 → ∀ Q : List V → Hp → Prop, (∀ xs H', Same H1 H' → (∀ x ∈ xs, P H' x) → xs.length = k → Q xs H') → t σ H1 Q
section
variable {σ : L2.St} {H : Hp} {b : Addr} {k i : Nat} {te : TE} {t : TA} {x : V} {P : Hp → V → Prop} {p q n : Int} {Q : VK}
theorem pl_nil : PL P 0 tNil σ H := fun H1 _ Q q => q [] H1 (Same.refl _) (fun _ h => nomatch h) rfl
theorem pl_cons (mono : ∀ H H' x, Same H H' → P H x → P H' x) (h : PV P te σ H) (g : PL P k t σ H) : PL P (k + 1) (tCons te t) σ H := fun H1 s Q q =>
  h H1 s _ fun x H2 s2 gx => g H2 (s.trans s2) _ fun xs H3 s3 gs l => q (x :: xs) H3 (s2.trans s3) (fun y hy => by
    rcases List.mem_cons.mp hy with rfl | hy
    · exact mono _ _ _ s3 gx
    · exact gs y hy) (by rw [List.length_cons, l])
theorem of_runP (mono : ∀ H H' x, Same H H' → P H x → P H' x) (hv : σ[i]? = some (some (.ref b))) (g : PL P k t σ H) (hb : H b = some (.lst (bx p q n))) (Bx : Box p q n) (hn : n < 1000000) (k0 : 0 < k) (k1 : k ≤ 100)
    (q : ∀ (H1 : Hp) (y : V) (p' n' : Int), Same H H1 → P H1 y → Box p' q n' → n' ≤ n + 1 → Q y (upd H1 b (.lst (bx p' q n')))) : tCall spOfB [] E0 (tCons (tVar i) (tCons (tLst t) tNil)) σ H Q := by
  dsimp only [tCall, tLst, tCons, tNil]
  refine (val_var hv) _ (g H (Same.refl _) _ fun xs H1 s1 gs len => ⟨small_sz (by omega), fun l nl => ?_⟩)
  have s2 := same_upd (o := .lst xs) nl
  have hb2 := s2 _ _ (s1 _ _ hb)
  refine ⟨b, l, xs, p, _, n, rfl, hb2, Bx, hn, upd_same, (ne_of_none (s1 _ _ hb) nl).symm, by omega, by omega, fun y p' n' hy B2 le => ?_⟩
  exact q _ y p' n' (s1.trans s2) (mono _ _ _ s2 (gs y hy)) B2 le
theorem pv_val (h : ∀ H1, Same H H1 → Val te σ H1 x ∧ P H1 x) : PV P te σ H := fun H1 s Q q => (h H1 s).1 _ (q x H1 (Same.refl _) (h H1 s).2)
/-- a value to be handed over -/
def ThV (b : Addr) (H : Hp) (x : V) : Prop := ∃ d, Dq (hide b H) x d ∧ Th d
theorem ThV.but {H' : Hp} (h : ThV b H x) (s : SameBut b H H') : ThV b H' x := by
  obtain ⟨d, h1, h2⟩ := h
  exact ⟨d, h1.but s, h2⟩
theorem thv_mono : ∀ H H' x, Same H H' → ThV b H x → ThV b H' x := fun H H' x s h => h.but (SameBut.of_same s)
theorem Good.thv {w m : Nat} (h : Good b H w m x) (hw : w ≤ 20000) (hm : m ≤ 40) : ThV b H x := by
  obtain ⟨d, h1, h2⟩ := h
  exact ⟨d, h1, h2.th hw hm⟩
theorem pv_of {w m : Nat} (h : GV b w m te σ H) (hw : w ≤ 20000) (hm : m ≤ 40) : PV (ThV b) te σ H := fun H1 s Q q => h H1 s _ fun x H' s' g => q x H' s' (g.thv hw hm)
/-- a value that is no text -/
def Odd (b : Addr) (H : Hp) (x : V) : Prop := ∃ d, Dq (hide b H) x d ∧ isS x = false
theorem odd_mono : ∀ H H' x, Same H H' → Odd b H x → Odd b H' x := fun H H' x s h => by
  obtain ⟨d, h1, h2⟩ := h
  exact ⟨d, h1.but (SameBut.of_same s), h2⟩
theorem Odd.but {H' : Hp} (h : Odd b H x) (s : SameBut b H H') : Odd b H' x := by
  obtain ⟨d, h1, h2⟩ := h
  exact ⟨d, h1.but s, h2⟩
theorem gv_tupN {u : HO} {w m : Nat} (hb : H b = some u) (hn : 1 ≤ m) (hw : 1 ≤ w) : GV b w m (tTup (tCons (tC .non) tNil)) σ H := fun H1 s Q q => by
  dsimp only [tTup, tCons, tNil]
  refine val_c _ ?_
  exact ⟨by show 1 ≤ sizeLine; decide, fun p np => q _ _ (same_upd np) (good_tup (s _ _ hb) np (.cons .non .nil) ⟨rfl, fun _ => rfl, hw, hn, by decide⟩)⟩
theorem odd_lst1 {u : HO} {z : Str} {j : Nat} (hj : σ[j]? = some (some (.str z))) (hb : H b = some u) : PV (Odd b) (tLst (tCons (tVar j) tNil)) σ H := fun H1 s Q q => by
  dsimp only [tLst, tCons, tNil]
  refine (val_var hj) _ ?_
  exact ⟨by show 1 ≤ sizeLine; decide, fun p np => q _ _ (same_upd np) ⟨_, .lst (hide_new (s _ _ hb) np) (.cons (.str z) .nil), rfl⟩⟩
theorem odd_tup1 {u : HO} {z : Str} {j : Nat} (hj : σ[j]? = some (some (.str z))) (hb : H b = some u) : PV (Odd b) (tTup (tCons (tVar j) tNil)) σ H := fun H1 s Q q => by
  dsimp only [tTup, tCons, tNil]
  refine (val_var hj) _ ?_
  exact ⟨by show 1 ≤ sizeLine; decide, fun p np => q _ _ (same_upd np) ⟨_, .tup (hide_new (s _ _ hb) np) (.cons (.str z) .nil), rfl⟩⟩
theorem odd_tup0 {u : HO} (hb : H b = some u) : PV (Odd b) (tTup tNil) σ H := fun H1 s Q q => ⟨Nat.zero_le _, fun p np => q _ _ (same_upd np) ⟨_, .tup (hide_new (s _ _ hb) np) .nil, rfl⟩⟩
theorem odd_lst0 {u : HO} (hb : H b = some u) : PV (Odd b) (tLst tNil) σ H := fun H1 s Q q => ⟨Nat.zero_le _, fun p np => q _ _ (same_upd np) ⟨_, .lst (hide_new (s _ _ hb) np) .nil, rfl⟩⟩
theorem odd_dic0 {u : HO} (hb : H b = some u) : PV (Odd b) tDNewK σ H := fun H1 s Q q p np => q _ _ (same_upd np) ⟨_, .dic (hide_new (s _ _ hb) np), rfl⟩
end
end K5
namespace K5
open PySem PySem.Spec PyProof.Rows L2
def jnR (K : PySem.W.Frag) : V → List V → Hp → VK → Prop := fun x xs H Q => ∃ a p, ∃ ys : List Str, x = .str a ∧ xs = [.ref p] ∧ (SqL K H p (ys.map V.str) ∨ SqT K H p (ys.map V.str)) ∧ (ys.map (·.length)).sum + ys.length * a.length ≤ 16777216 ∧ Q (.str (Txt.join a ys)) H
def pgT (K : PySem.W.Frag) (i : Nat) : TE := tBM K "str" (jnR K) (tC (.str "\n")) (tCons (tLc (iTup K (tVar i)) (gName 9) tYes (tCall spLine [] E0 (tCons (tVar 9) tNil)) [9]) tNil)
def lsR (K : PySem.W.Frag) : List V → Hp → VK → Prop := fun xs H Q => ∃ p ys, xs = [.ref p] ∧ (SqL K H p ys ∨ SqT K H p ys) ∧ ∀ l, H l = none → Q (.ref l) (upd H l (.lst ys))
def tdT (fX : Addr) (sp : Sp) (CT CR : Addr) (i : Nat) : TE := tCall (spTold fX sp CT CR) [] E0 (tCons (tC (.ref fX)) (tCons (tVar i) tNil))
def rp (te : TE) : TE := tCB rReprQ (tCons te tNil)
def some9 (K : PySem.W.Frag) : TA := tCons (tC .non) (tCons (tC (.str "run")) (tCons (tLst tNil) (tCons (tC (.int 7)) (tCons tDNewK (tCons (tCB (lsR K) (tCons (tVar 1) tNil)) (tCons (tTup (tCons (tVar 1) tNil)) (tCons (tTup (tCons (tC .non) tNil)) (tCons (tVar 2) tNil))))))))
def rTurn (K : PySem.W.Frag) (fS fR CT CR : Addr) : TS :=
  tSeq (tAsg (tCall (spBent 4) [] E0 (tCons (tVar 0) (tCons (tVar 1) (tCons (tC (.int 4)) tNil)))) (gName 4))
  (tSeq (tIfS (tTest (tOp rEq (tVar 3) (tC (.int 0)))) (tAsg (tCall spOfB [] E0 (tCons (tVar 0) (tCons (tLst (some9 K)) tNil))) (gName 4)) tNext)
  (tSeq (tAsg (tTup (tCons (tC (.str "value")) (tCons (tVar 4) tNil))) (gName 5))
  (tSeq (tIfS (tB (tCall spLRun [] E0 (tCons (tVar 4) tNil))) (tAsg (tTup (tCons (tC (.str "run")) (tCons (pgT K 4) tNil))) (gName 5)) tNext)
  (tSeq (tAsg (rp (tVar 4)) (gName 6))
  (tSeq (tIfS (tOr (tTest (tOp rNe (rp (tdT fS (spShowRun CR) CT CR 4)) (rp (tVar 5)))) (tTest (tOp rNe (rp (tVar 4)) (tVar 6)))) (tRet (tC (.bl false))) tNext)
  (tSeq (tAsg (tCall spBentPage [] E0 (tCons (tVar 0) (tCons (tVar 2) tNil))) (gName 7))
  (tIfS (tTest (tOp rNe (rp (tdT fR (spReadRun CT) CT CR 7)) (rp (tCall spReadDue [] E0 (tCons (tVar 7) tNil))))) (tRet (tC (.bl false))) tNext)))))))
def rTail (fR CT CR : Addr) : TS :=
  tSeq (tAsg (tCall spOfB [] E0 (tCons (tVar 0) (tCons (tLst (tCons (tC .non) (tCons (tC (.int 0)) (tCons (tC (.bl true)) (tCons (tTup tNil) (tCons (tLst tNil) (tCons tDNewK (tCons (tVar 1) (tCons (tLst (tCons (tVar 2) tNil)) (tCons (tTup (tCons (tVar 2) tNil)) tNil)))))))))) tNil))) (gName 8))
  (tRet (tOp rEq (rp (tdT fR (spReadRun CT) CT CR 8)) (rp (tTup (tCons (tC (.str "line")) (tCons (tUn (rU fun i => .int (-i)) (tC (.int 1))) tNil))))))
theorem if_seqH {c : TT} {t u : TS} {D : Ends} {σ : L2.St} {H : Hp} {I : L2.St → Hp → Prop} {a : Bool} (hc : ∀ R : Bool → Hp → Prop, (∀ H', Same H H' → R a H') → c σ H R) (ht : a = true → ∀ H', Same H H' → ∀ D' : Ends, (∀ σ' H', I σ' H' → D'.nx σ' H') → t D' σ H') (hf : a = false → ∀ H', Same H H' → I σ H') (k : ∀ σ' H', I σ' H' → u D σ' H') : tSeq (tIfS c t tNext) u D σ H := by
  refine hc _ fun H' s => ?_
  cases a with
  | true => exact iteT (ht rfl H' s _ k)
  | false => exact iteF (k _ _ (hf rfl H' s))
theorem no_if {c : TT} {t u : TS} {D : Ends} {σ : L2.St} {H : Hp} (hc : ∀ R : Bool → Hp → Prop, (∀ H', Same H H' → R false H') → c σ H R) (k : ∀ H', Same H H' → u D σ H') : tSeq (tIfS c t tNext) u D σ H := hc _ fun H' s => iteF (k H' s)
theorem no_end {c : TT} {t : TS} {D : Ends} {σ : L2.St} {H : Hp} (hc : ∀ R : Bool → Hp → Prop, (∀ H', Same H H' → R false H') → c σ H R) (k : ∀ H', Same H H' → D.nx σ H') : tIfS c t tNext D σ H := hc _ fun H' s => iteF (k H' s)
theorem or_no {c e : TT} {σ : L2.St} {H : Hp} (hc : ∀ R : Bool → Hp → Prop, (∀ H', Same H H' → R false H') → c σ H R) (he : ∀ H', Same H H' → ∀ R : Bool → Hp → Prop, (∀ H2, Same H' H2 → R false H2) → e σ H' R) : ∀ R : Bool → Hp → Prop, (∀ H', Same H H' → R false H') → tOr c e σ H R := fun R k => hc _ fun H' s => iteF (he H' s R fun H2 s2 => k H2 (s.trans s2))
section
variable {K : PySem.W.Frag} {fS fR CT CR b r : Addr} {H : Hp} {p q n t : Int} {v3 v4 v5 v6 v7 v8 v9 : Option V} {xs : List V} {ds : List PyData} {D : Ends}
theorem dv_page {u0 u1 u2 u3 u4 u5 u6 u7 u8 u9 : Option V} {i : Nat} {y : V} {d : PyData} (hi : [u0, u1, u2, u3, u4, u5, u6, u7, u8, u9][i]? = some (some y)) (hy : Dq H y d) (th : Th d) (rn : runB d = true) : DV (pgT K i) [u0, u1, u2, u3, u4, u5, u6, u7, u8, u9] H (.str (pageD d)) := fun H1 s Q qq => by
  have ev := th.s
  obtain ⟨es, rfl⟩ := run_tup rn
  have ev := run_all rn (th.s rfl)
  have fw : es.length ≤ 100 := of_decide_eq_true th.f
  obtain ⟨a, ys, rfl, ha, da⟩ := dq_tup (Dq.mono s _ hy)
  exact page_run (K := K) (val_var hi) ha da (fun d hd => (ev d hd).1) fw fun H2 s2 => qq _ H2 s2 (.str _)
theorem turn_run (hb : H b = some (.lst (bx p q n))) (Bx : Box p q n) (hn : n + 100 < 1000000) (hx : hide b H r = some (.tup xs)) (ha : DqA (hide b H) xs ds) (ev : ∀ d ∈ ds, Ev d ∧ smallD d = true) (l6 : ds.length ≤ 6)
    (k : ∀ (H' : Hp) (p' n' : Int) (v4 v5 v6 v7 : Option V), SameBut b H H' → H' b = some (.lst (bx p' q n')) → Box p' q n' → n' ≤ n + 20 → D.nx [some (.ref b), some (.ref r), some (.str (pageD (.tuple ds))), some (.int t), v4, v5, v6, v7, v8, v9] H') :
    rTurn K fS fR CT CR D [some (.ref b), some (.ref r), some (.str (pageD (.tuple ds))), some (.int t), v4, v5, v6, v7, v8, v9] H := by
  have hd := run_in ev l6
  have pl := page_len fun d hd => (ev d hd).1
  have po := page_ok ev
  have pl5 : (pageD (.tuple ds)).length ≤ 5000 := by omega
  unfold rTurn
  refine asg_seq ?_
  dsimp only [tCall, tCons, tNil]
  refine (val_var rfl) _ ((val_var rfl) _ (val_c _ ?_))
  refine ⟨b, .ref r, .tuple ds, 1000, 3, p, q, n, rfl, hb, Bx, by omega, .tup hx ha, hd, by decide, by decide, fun H1 y p1 n1 sb1 hb1 B1 le1 gy => ?_⟩
  have ty : ThV b H1 y := gy.thv (by decide) (by decide)
  have hx1 := hide_but sb1 _ _ hx
  have ha1 := DqA.mono (hide_but sb1) _ ha
  refine if_seq (I := fun σ' H' => ∃ (y : V) (p' n' : Int), σ' = [some (.ref b), some (.ref r), some (.str (pageD (.tuple ds))), some (.int t), some y, v5, v6, v7, v8, v9] ∧ SameBut b H H' ∧ H' b = some (.lst (bx p' q n')) ∧ Box p' q n' ∧ n' ≤ n + 12 ∧ ThV b H' y) (a := decide (V.int t = V.int 0))
    (ans_eq2 (val_var rfl) val_c rfl) (fun _ D' k' => ?_) (fun _ => ⟨y, p1, n1, rfl, sb1, hb1, B1, by omega, ty⟩) ?_
  · unfold some9
    refine asg_end (of_runP thv_mono rfl (pl_cons thv_mono (pv_of (w := 2000) (m := 4) gv_non (by decide) (by decide)) (pl_cons thv_mono (pv_of (w := 2000) (m := 4) (gv_str (by decide +kernel) (by decide)) (by decide) (by decide)) (pl_cons thv_mono (pv_of (w := 2000) (m := 4) (gv_lst0 hb1 (by decide)) (by decide) (by decide)) (pl_cons thv_mono (pv_of (w := 2000) (m := 4) (gv_int (by decide) (by decide)) (by decide) (by decide)) (pl_cons thv_mono (pv_of (w := 2000) (m := 4) (gv_dic0 hb1 (by decide)) (by decide) (by decide))
      (pl_cons thv_mono (pv_of (gv_list (w := 1000) (n := 3) rfl hb1 hx1 ha1 hd) (by decide) (by decide)) (pl_cons thv_mono (pv_of (gv_in1 (w := 1000) (n := 3) rfl hb1 hx1 ha1 hd (by decide)) (by decide) (by decide)) (pl_cons thv_mono (pv_of (w := 2000) (m := 4) (gv_tupN hb1 (by decide) (by decide)) (by decide) (by decide)) (pl_cons thv_mono (pv_val fun H2 s2 => ⟨val_var rfl, _, .str _, str_th (by omega) po⟩) pl_nil)))))))))
      hb1 B1 (by omega) (by decide) (by decide) fun H2 y p2 n2 s2 ty2 B2 le2 => ?_)
    exact k' _ _ ⟨y, p2, n2, rfl, sb1.trans ((SameBut.of_same s2).trans (SameBut.upd _ _ _)), upd_same, B2, by omega, ty2.but (SameBut.upd _ _ _)⟩
  rintro σ2 H2 ⟨y, p2, n2, rfl, sb2, hb2, B2, le2, d, hy, th⟩
  clear hx1 ha1 sb1 hb1 ty gy
  have hyf := hy.full
  refine asg_seq (dv_tup2 dv_str (dv_var rfl hyf) H2 (Same.refl _) _ fun u H3 s3 hu => ?_)
  refine if_seqH (I := fun σ' H' => ∃ u : V, σ' = [some (.ref b), some (.ref r), some (.str (pageD (.tuple ds))), some (.int t), some y, some u, v6, v7, v8, v9] ∧ Same H2 H' ∧ Dq H' u (outD (outS d))) (a := runB d)
    (fun R kR => val_lrun rfl (Dq.mono s3 _ hyf) th kR) (fun c H4 s4 D' k' => ?_) (fun c H4 s4 => ⟨u, rfl, s3.trans s4, ?_⟩) ?_
  · refine asg_end (dv_tup2 dv_str (dv_page rfl (Dq.mono (s3.trans s4) _ hyf) th c) H4 (Same.refl _) _ fun u H5 s5 hu5 => ?_)
    refine k' _ _ ⟨u, rfl, (s3.trans s4).trans s5, ?_⟩
    have e : outS d = .ok (.str (pageD d)) := if_pos c
    rw [e]
    exact hu5
  · have e : outS d = .val d := if_neg (by rw [c]; exact Bool.false_ne_true)
    rw [e]
    exact Dq.mono s4 _ hu
  rintro σ5 H5 ⟨u, rfl, s5, hu5⟩
  have hy5 := Dq.mono s5 _ hyf
  refine asg_seq ((val_reprQ (val_var rfl) hy5 th.sz.sh) _ ?_)
  refine no_if (or_no (fun R kR => ne_repr (outS_sz th).sh (dv_told rfl (reads_show hy5 th)) (dv_var rfl hu5) kR) fun H6 s6 R kR => ne_was th.sz.sh (dv_var rfl (Dq.mono s6 _ hy5)) rfl kR) fun H7 s7 => ?_
  have s27 := s5.trans s7
  have hb7 := s27 _ _ hb2
  refine asg_seq ?_
  dsimp only [tCall, tCons, tNil]
  refine (val_var rfl) _ ((val_var rfl) _ ⟨b, _, p2, q, n2, rfl, hb7, B2, by omega, pl5, po, fun H8 z p8 n8 sb8 hb8 B8 le8 lz oz => ?_⟩)
  have lz4 : z.length ≤ 14000 := by omega
  refine no_end (fun R kR => ne_repr (outR_sh lz4 oz) (dv_told rfl (reads_read lz4 oz)) (dv_due rfl lz4 oz) kR) fun H9 s9 => ?_
  exact k H9 p8 n8 _ _ _ _ (sb2.trans ((SameBut.of_same s27).trans (sb8.trans (SameBut.of_same s9)))) (s9 _ _ hb8) B8 (by omega)
theorem tail_run (hb : H b = some (.lst (bx p q n))) (Bx : Box p q n) (hn : n + 100 < 1000000) (hx : hide b H r = some (.tup xs)) (ha : DqA (hide b H) xs ds)
    (k : ∀ (H' : Hp) (p' n' : Int), SameBut b H H' → H' b = some (.lst (bx p' q n')) → Box p' q n' → n' ≤ n + 1 → D.rt (.bl true) H') {z : Str} :
    rTail fR CT CR D [some (.ref b), some (.ref r), some (.str z), v3, v4, v5, v6, v7, v8, v9] H := by
  unfold rTail
  refine asg_seq (of_runP odd_mono rfl (pl_cons odd_mono (pv_val fun _ _ => ⟨val_c, _, .non, rfl⟩) (pl_cons odd_mono (pv_val fun _ _ => ⟨val_c, _, .int _, rfl⟩) (pl_cons odd_mono (pv_val fun _ _ => ⟨val_c, _, .bl _, rfl⟩) (pl_cons odd_mono (odd_tup0 hb) (pl_cons odd_mono (odd_lst0 hb) (pl_cons odd_mono (odd_dic0 hb)
    (pl_cons odd_mono (pv_val fun H1 s => ⟨val_var rfl, _, Dq.mono (hide_same s) _ (.tup hx ha), rfl⟩) (pl_cons odd_mono (odd_lst1 rfl hb) (pl_cons odd_mono (odd_tup1 rfl hb) pl_nil)))))))))
    hb Bx (by omega) (by decide) (by decide) fun H1 y p1 n1 s1 oy B1 le1 => ?_)
  obtain ⟨d, hy, ns⟩ := oy.but (SameBut.upd b H1 (.lst (bx p1 q n1)))
  refine eq_repr (d := .tuple [.str "line", .int (-1)]) (txt_sz (by decide)) (dv_told rfl (reads_odd hy.full ns)) (dv_tup2 dv_str dv_neg) fun H2 s2 => ?_
  exact k H2 p1 n1 (((SameBut.of_same s1).trans (SameBut.upd _ _ _)).trans (SameBut.of_same s2)) (s2 _ _ upd_same) B1 le1
end
end K5
namespace K5
open PySem PySem.Spec PyProof.Rows L2
abbrev s__law_right : Stmt := topS 46
theorem sc__law_right : FnScope ["_law_box_here", "_law_run", "_law_page", "_law_turn", "_law_thing", "_law_due", "_law_was", "_law_bent_here", "_law_odd", "_law_event_here"] ["_law_box_here"] (defScope s__law_right) := ⟨rfl, rfl, rfl, by decide +kernel, rfl, by decide +kernel, by decide +kernel⟩
def spRight : Sp := fun vs H Q _ => ∃ (b : Addr) (p q n : Int), vs = [.ref b] ∧ H b = some (.lst (bx p q n)) ∧ Box p q n ∧ n + 1000 < 1000000 ∧
  ∀ (H' : Hp) (p' n' : Int), SameBut b H H' → H' b = some (.lst (bx p' q n')) → Box p' q n' → n' ≤ n + 300 → Q (.bl true) H'
section
variable {P : Program} {w : World} {K : PySem.W.Frag} {mg : Str → Option Value} {base : Heap} {CT CR : Addr}
theorem ok_right {f fT fO fE fL fS fR fB fA fTd fP fD : Addr} {fd dT dO dE dL dS dR dB dA dTd dP dD : FuncData} (B : Bt mg) (D : Df K mg "_law_right" s__law_right f fd ["_law_box_here"])
    (D__law_take : Df K mg "_law_take" sTake fT dT ["_law_box_here", "_law_many"])
    (D__law_of : Df K mg "_law_of" s__law_of fO dO ["_law_box_here", "_law_some"]) (G__law_of : FnOk P w K mg base CX0 2 fO dO ["_law_box_here", "_law_some"] spOfB)
    (D__law_event : Df K mg "_law_event" s__law_event fE dE ["_law_box_here"]) (G__law_event : FnOk P w K mg base CX0 4 fE dE ["_law_box_here"] spEv)
    (D__law_line : Df K mg "_law_line" s__law_line fL dL ["_law_event_here"]) (G__law_line : FnOk P w K mg base CX0 1 fL dL ["_law_event_here"] spLine)
    (D_show_run : Df K mg "show_run" s_show_run fS dS ["run"]) (G_show_run : FnOk P w K mg base (L2.CX P w) 5 fS dS ["run"] (spShowRun CR))
    (D_read_run : Df K mg "read_run" s_read_run fR dR ["text"]) (G_read_run : FnOk P w K mg base (L2.CX P w) 7 fR dR ["text"] (spReadRun CT))
    (D__law_bent : Df K mg "_law_bent" s__law_bent fB dB ["_law_box_here", "_law_thing", "_law_deep"]) (G__law_bent : FnOk P w K mg base CX0 8 fB dB ["_law_box_here", "_law_thing", "_law_deep"] (spBent 4))
    (D__law_is_run : Df K mg "_law_is_run" s__law_is_run fA dA ["_law_thing"]) (G__law_is_run : FnG P w K mg base CX0 3 fA dA ["_law_thing"] spLRun)
    (D__law_told : Df K mg "_law_told" s__law_told fTd dTd ["_law_reader", "_law_thing"]) (G_toldS : FnOk P w K mg base (L2.CX P w) 9 fTd dTd ["_law_reader", "_law_thing"] (spTold fS (spShowRun CR) CT CR)) (G_toldR : FnOk P w K mg base (L2.CX P w) 9 fTd dTd ["_law_reader", "_law_thing"] (spTold fR (spReadRun CT) CT CR))
    (D__law_bent_page : Df K mg "_law_bent_page" s__law_bent_page fP dP ["_law_box_here", "_law_page"]) (G__law_bent_page : FnOk P w K mg base CX0 3 fP dP ["_law_box_here", "_law_page"] spBentPage)
    (D__law_read_due : Df K mg "_law_read_due" s__law_read_due fD dD ["_law_page"]) (G__law_read_due : FnG P w K mg base CX0 4 fD dD ["_law_page"] spReadDue) :
    FnG P w K mg base (L2.CX P w) 10 f fd ["_law_box_here"] spRight := by
  have G__law_take : FnOk P w K mg base CX0 1 fT dT ["_law_box_here", "_law_many"] spTake := ok_take (CX := CX0) D__law_take.F B.m_int
  refine okG D.F sc__law_right (fun vs H Q E h => ?_) (fun cdv A outer s H vs Q E gu hr h => ?_)
  · obtain ⟨b, p, q, n, rfl, _⟩ := h
    rfl
  · obtain ⟨b, p, q, n, rfl, hb, Bx, few, k⟩ := h
    have S := sc__law_right
    have hu := hr.units
    refine ⟨_, (pss_cons (ps_set (i := 1) S.nd rfl (.inl rfl) (pe_callTy call_tuple_of (by rfl) B.m_tuple PyProof.Rows.boot_tuple (pa_cons (pe_lc (own := [("_law_turn", 3)]) (g := gName 3) (tt := tYes) rfl S.nd (pi_range1 (by rfl) B.m_range (pa_cons (pe_call G__law_take (hr.mono (by decide)) (by rfl) D__law_take.g D__law_take.F.kp D__law_take.b .nil pass0 (pa_cons (pv 0) (pa_cons pe_int pa_nil))) pa_nil)) (blkOk_by (own := [("_law_turn", 3)]) (N := ["_law_box_here", "_law_run", "_law_page", "_law_turn", "_law_thing", "_law_due", "_law_was", "_law_bent_here", "_law_odd", "_law_event_here"]) (sc := defScope s__law_right) (by decide +kernel)) (fun _ _ _ _ _ => pg_name (i := 3) S.nd rfl (Or.inl rfl)) (fun _ _ _ _ _ => pts_nil) (fun _ _ _ _ _ => pe_call G__law_event (hr.mono (by decide)) (by rfl) D__law_event.g D__law_event.F.kp D__law_event.b .nil pass0 (pa_cons (pv 0) pa_nil))) pa_nil)))
      (pss_cons (ps_set (i := 2) S.nd rfl (.inl rfl) (pe_bm PySem.F.plainAttrs_str PySem.F.slot_str_join PySem.F.type_str_join mt_join pe_str (pa_cons (pe_lc (own := [("_law_event_here", 9)]) (g := gName 9) (tt := tYes) rfl S.nd (pi_tup (pv 1)) (blkOk_by (own := [("_law_event_here", 9)]) (N := ["_law_box_here", "_law_run", "_law_page", "_law_turn", "_law_thing", "_law_due", "_law_was", "_law_bent_here", "_law_odd", "_law_event_here"]) (sc := defScope s__law_right) (by decide +kernel)) (fun _ _ _ _ _ => pg_name (i := 9) S.nd rfl (Or.inl rfl)) (fun _ _ _ _ _ => pts_nil) (fun _ _ _ _ _ => pe_call G__law_line (hr.mono (by decide)) (by rfl) D__law_line.g D__law_line.F.kp D__law_line.b .nil pass0 (pa_cons (pv 9) pa_nil))) pa_nil)))
      (pss_cons (ps_if (PW.pt (pw_or (pt_cmpR op_ne (pe_callB (call_reprQ (by exact gu) (by exact hu)) (by rfl) B.m_repr PyProof.Rows.boot_repr (pa_cons (pe_call G_show_run (hr.mono (by decide)) (by rfl) D_show_run.g D_show_run.F.kp D_show_run.b .nil passL (pa_cons (pv 1) pa_nil)) pa_nil)) (pe_callB (call_reprQ (by exact gu) (by exact hu)) (by rfl) B.m_repr PyProof.Rows.boot_repr (pa_cons (pv 2) pa_nil)) (nomark _)) (pw_or1 (pt_cmpR op_ne (pe_callB (call_reprQ (by exact gu) (by exact hu)) (by rfl) B.m_repr PyProof.Rows.boot_repr (pa_cons (pe_call G_read_run (hr.mono (by decide)) (by rfl) D_read_run.g D_read_run.F.kp D_read_run.b .nil passL (pa_cons (pv 2) pa_nil)) pa_nil)) (pe_callB (call_reprQ (by exact gu) (by exact hu)) (by rfl) B.m_repr PyProof.Rows.boot_repr (pa_cons (pv 1) pa_nil)) (nomark _)))))
        (pss_one (ps_ret pe_bl))
        pss_nil)
      (pss_cons (ps_for (passes_of rfl) rfl (pi_range1 (by rfl) B.m_range (pa_cons pe_int pa_nil)) (pg_name (i := 3) S.nd rfl (.inl rfl))
        (pss_cons (ps_set (i := 4) S.nd rfl (.inl rfl) (pe_call G__law_bent (hr.mono (by decide)) (by rfl) D__law_bent.g D__law_bent.F.kp D__law_bent.b .nil pass0 (pa_cons (pv 0) (pa_cons (pv 1) (pa_cons pe_int pa_nil)))))
        (pss_cons (ps_if (pt_cmpR op_eq (pv 3) pe_int (nomark _))
          (pss_one (ps_set (i := 4) S.nd rfl (.inl rfl) (pe_call G__law_of (hr.mono (by decide)) (by rfl) D__law_of.g D__law_of.F.kp D__law_of.b .nil pass0 (pa_cons (pv 0) (pa_cons (pe_lst (pa_cons pe_non (pa_cons pe_str (pa_cons (pe_lst pa_nil) (pa_cons pe_int (pa_cons pe_dnewK (pa_cons (pe_callTy call_list_of (by rfl) B.m_list PyProof.Rows.boot_list (pa_cons (pv 1) pa_nil)) (pa_cons (pe_tup (pa_cons (pv 1) pa_nil)) (pa_cons (pe_tup (pa_cons pe_non pa_nil)) (pa_cons (pv 2) pa_nil)))))))))) pa_nil)))))
          pss_nil)
        (pss_cons (ps_set (i := 5) S.nd rfl (.inl rfl) (pe_tup (pa_cons pe_str (pa_cons (pv 4) pa_nil))))
        (pss_cons (ps_if (pt_val (pe_callG G__law_is_run gu (hr.mono (by decide)) (by rfl) D__law_is_run.g D__law_is_run.F.kp D__law_is_run.b pass0 (pa_cons (pv 4) pa_nil)))
          (pss_one (ps_set (i := 5) S.nd rfl (.inl rfl) (pe_tup (pa_cons pe_str (pa_cons (pe_bm PySem.F.plainAttrs_str PySem.F.slot_str_join PySem.F.type_str_join mt_join pe_str (pa_cons (pe_lc (own := [("_law_event_here", 9)]) (g := gName 9) (tt := tYes) rfl S.nd (pi_tup (pv 4)) (blkOk_by (own := [("_law_event_here", 9)]) (N := ["_law_box_here", "_law_run", "_law_page", "_law_turn", "_law_thing", "_law_due", "_law_was", "_law_bent_here", "_law_odd", "_law_event_here"]) (sc := defScope s__law_right) (by decide +kernel)) (fun _ _ _ _ _ => pg_name (i := 9) S.nd rfl (Or.inl rfl)) (fun _ _ _ _ _ => pts_nil) (fun _ _ _ _ _ => pe_call G__law_line (hr.mono (by decide)) (by rfl) D__law_line.g D__law_line.F.kp D__law_line.b .nil pass0 (pa_cons (pv 9) pa_nil))) pa_nil)) pa_nil)))))
          pss_nil)
        (pss_cons (ps_set (i := 6) S.nd rfl (.inl rfl) (pe_callB (call_reprQ (by exact gu) (by exact hu)) (by rfl) B.m_repr PyProof.Rows.boot_repr (pa_cons (pv 4) pa_nil)))
        (pss_cons (ps_if (PW.pt (pw_or (pt_cmpR op_ne (pe_callB (call_reprQ (by exact gu) (by exact hu)) (by rfl) B.m_repr PyProof.Rows.boot_repr (pa_cons (pe_call G_toldS (hr.mono (by decide)) (by rfl) D__law_told.g D__law_told.F.kp D__law_told.b .nil passL (pa_cons (pe_glob (v := .ref fS) (by rfl) D_show_run.g rfl) (pa_cons (pv 4) pa_nil))) pa_nil)) (pe_callB (call_reprQ (by exact gu) (by exact hu)) (by rfl) B.m_repr PyProof.Rows.boot_repr (pa_cons (pv 5) pa_nil)) (nomark _)) (pw_or1 (pt_cmpR op_ne (pe_callB (call_reprQ (by exact gu) (by exact hu)) (by rfl) B.m_repr PyProof.Rows.boot_repr (pa_cons (pv 4) pa_nil)) (pv 6) (nomark _)))))
          (pss_one (ps_ret pe_bl))
          pss_nil)
        (pss_cons (ps_set (i := 7) S.nd rfl (.inl rfl) (pe_call G__law_bent_page (hr.mono (by decide)) (by rfl) D__law_bent_page.g D__law_bent_page.F.kp D__law_bent_page.b .nil pass0 (pa_cons (pv 0) (pa_cons (pv 2) pa_nil))))
        (pss_one (ps_if (pt_cmpR op_ne (pe_callB (call_reprQ (by exact gu) (by exact hu)) (by rfl) B.m_repr PyProof.Rows.boot_repr (pa_cons (pe_call G_toldR (hr.mono (by decide)) (by rfl) D__law_told.g D__law_told.F.kp D__law_told.b .nil passL (pa_cons (pe_glob (v := .ref fR) (by rfl) D_read_run.g rfl) (pa_cons (pv 7) pa_nil))) pa_nil)) (pe_callB (call_reprQ (by exact gu) (by exact hu)) (by rfl) B.m_repr PyProof.Rows.boot_repr (pa_cons (pe_callG G__law_read_due gu (hr.mono (by decide)) (by rfl) D__law_read_due.g D__law_read_due.F.kp D__law_read_due.b pass0 (pa_cons (pv 7) pa_nil)) pa_nil)) (nomark _))
          (pss_one (ps_ret pe_bl))
          pss_nil))))))))))
      (pss_cons (ps_set (i := 8) S.nd rfl (.inl rfl) (pe_call G__law_of (hr.mono (by decide)) (by rfl) D__law_of.g D__law_of.F.kp D__law_of.b .nil pass0 (pa_cons (pv 0) (pa_cons (pe_lst (pa_cons pe_non (pa_cons pe_int (pa_cons pe_bl (pa_cons (pe_tup pa_nil) (pa_cons (pe_lst pa_nil) (pa_cons pe_dnewK (pa_cons (pv 1) (pa_cons (pe_lst (pa_cons (pv 2) pa_nil)) (pa_cons (pe_tup (pa_cons (pv 2) pa_nil)) pa_nil)))))))))) pa_nil))))
      (pss_one (ps_ret (pe_cmpR op_eq (pe_callB (call_reprQ (by exact gu) (by exact hu)) (by rfl) B.m_repr PyProof.Rows.boot_repr (pa_cons (pe_call G_toldR (hr.mono (by decide)) (by rfl) D__law_told.g D__law_told.F.kp D__law_told.b .nil passL (pa_cons (pe_glob (v := .ref fR) (by rfl) D_read_run.g rfl) (pa_cons (pv 8) pa_nil))) pa_nil)) (pe_callB (call_reprQ (by exact gu) (by exact hu)) (by rfl) B.m_repr PyProof.Rows.boot_repr (pa_cons (pe_tup (pa_cons pe_str (pa_cons (pe_un un_neg pe_int) pa_nil))) pa_nil)) (nomark _))))))))), ?_⟩
    refine asg_seq ?_
    dsimp only [tCB]
    dsimp only [tCons, tNil]
    refine draw_run hb Bx (by omega) fun H1 M xs ds p1 n1 sb1 hM a1 ev nl l6 hb1 B1 le1 => ?_
    refine ⟨M, xs, rfl, .inl ⟨SqL.of hM, fun r nr => ?_⟩⟩
    have s2 := same_upd (o := .tup xs) nr
    have hr2 : (upd H1 r (.tup xs)) r = some (.tup xs) := upd_same
    have a2 := DqA.mono s2 _ a1
    have hb2 := s2 _ _ hb1
    have sb2 := sb1.trans (SameBut.of_same s2)
    generalize (upd H1 r (.tup xs)) = H2 at s2 hr2 a2 hb2 sb2 ⊢
    have hx2 : hide b H2 r = some (.tup xs) := hide_t hb2 hr2
    have tkh : TK H2 (hide b H2) := ⟨fun x ys e => hide_t hb2 e, fun x e => by
      rw [hide_at fun c => ?_]
      · exact e
      · rw [c, hb2] at e
        injection e with e
        cases e⟩
    have ah2 : DqA (hide b H2) xs ds := DqA.tk tkh _ nl a2
    have hd := run_in ev l6
    have rn : runB (.tuple ds) = true := List.all_eq_true.mpr fun d hd => ev_b (ev d hd).1
    have th : Th (.tuple ds) := (hd.res (w' := 1000) (n' := 3) (Nat.le_refl _) (Nat.le_refl _)).th (by decide) (by decide)
    have pl := page_len fun d hd => (ev d hd).1
    have po := page_ok ev
    have pl4 : (pageD (.tuple ds)).length ≤ 14000 := by omega
    clear sb1 hM a1 hb1 s2
    refine asg_seq ?_
    refine page_run (K := K) (v0 := some (.ref b)) (v1 := some (.ref r)) (v2 := none) (v3 := none) (v4 := none) (v5 := none) (v6 := none) (v7 := none) (v8 := none) (v9 := none) (val_var rfl) hr2 a2 (fun d hd => (ev d hd).1) (by omega) fun H3 s3 => ?_
    have hx3 := hide_same s3 _ _ hx2
    have ah3 := DqA.mono (hide_same s3) _ ah2
    have hb3 := s3 _ _ hb2
    have sb3 := sb2.trans (SameBut.of_same s3)
    have hyR : Dq H3 (.ref r) (.tuple ds) := (Dq.tup hx3 ah3).full
    refine no_if (or_no (fun R kR => ne_repr (str_th pl4 po).sz.sh (dv_showrun rfl hyR th rn) (dv_var rfl (.str _)) kR) fun H4 s4 R kR => ne_repr th.sz.sh (dv_readrun rfl pl4 po (page_read ev)) (dv_var rfl (Dq.mono s4 _ hyR)) kR) fun H4 s4 => ?_
    have hx4 := hide_same s4 _ _ hx3
    have ah4 := DqA.mono (hide_same s4) _ ah3
    have hb4 := s4 _ _ hb3
    have sb4 := sb3.trans (SameBut.of_same s4)
    clear hx2 hx3 ah2 ah3 hb2 hb3 sb2 sb3 hr2 a2 hyR tkh
    dsimp only [tSeq, tFor, iRng1, tCons, tNil]
    refine val_c _ ⟨8, rfl, by decide, by decide, ?_⟩
    refine for_range (D := { nx := rTail fR CT CR { nx := fun _ G' => Q .non G', rt := Q }, rt := Q }) (g := gName 3) (tb := rTurn K fS fR CT CR) (lo := 0) (n := (8 : Int).toNat) (fun i σ' H' => ∃ (v3 v4 v5 v6 v7 : Option V) (p' n' : Int), σ' = [some (.ref b), some (.ref r), some (.str (pageD (.tuple ds))), v3, v4, v5, v6, v7, none, none] ∧
      SameBut b H4 H' ∧ H' b = some (.lst (bx p' q n')) ∧ Box p' q n' ∧ n' ≤ n1 + 20 * i) ⟨none, none, none, none, none, p1, n1, rfl, fun _ _ _ h => h, hb4, B1, by omega⟩ (fun i σ' H' hi h => ?_) fun σ' H' h => ?_
    · obtain ⟨v3, v4, v5, v6, v7, p3, n3, rfl, sb5, hb5, B5, le5⟩ := h
      have hi : i < 8 := hi
      refine turn_run hb5 B5 (by omega) (hide_but sb5 _ _ hx4) (DqA.mono (hide_but sb5) _ ah4) ev l6 fun H6 p6 n6 u4 u5 u6 u7 sb6 hb6 B6 le6 => ?_
      exact ⟨_, _, _, _, _, p6, n6, rfl, sb5.trans sb6, hb6, B6, by omega⟩
    · obtain ⟨v3, v4, v5, v6, v7, p3, n3, rfl, sb5, hb5, B5, le5⟩ := h
      have le5 : n3 ≤ n1 + 20 * ((8 : Nat) : Int) := le5
      refine tail_run hb5 B5 (by omega) (hide_but sb5 _ _ hx4) (DqA.mono (hide_but sb5) _ ah4) fun H6 p6 n6 sb6 hb6 B6 le6 => ?_
      exact k H6 p6 n6 (sb4.trans (sb5.trans sb6)) hb6 B6 (by omega)
end
end K5
namespace K5
open PySem PySem.Spec PyProof.Rows L2
theorem sq_keep {K : PySem.W.Frag} {H H' : Hp} {a : Addr} {xs : List V} (h : SqL K H a xs) (k : ∀ o, H a = some o → H' a = some o) : SqL K H' a xs := by
  rcases h with (h | ⟨o, h⟩) | h
  · exact .inl (.inl (k _ h))
  · exact .inl (.inr ⟨o, k _ h⟩)
  · exact .inr h
abbrev s_law : Stmt := topS 47
theorem sc_law : FnScope ["_law_script", "_law_k", "_law_box_here", "_law_turn"] ["_law_script"] (defScope s_law) := ⟨rfl, rfl, rfl, by decide +kernel, rfl, by decide +kernel, by decide +kernel⟩
def spLaw (K : PySem.W.Frag) : Sp := fun vs H Q _ => ∃ (a : Addr) (ns : List Int), vs = [.ref a] ∧ SqL K H a (ns.map V.int) ∧ ∀ H', Q (.bl true) H'
section
variable {P : Program} {w : World} {K : PySem.W.Frag} {mg : Str → Option Value} {base : Heap}
theorem ok_law {f fB fR : Addr} {fd dB dR : FuncData} (B : Bt mg) (m_all : mg "all" = none) (DB : Df K mg "_law_box" s__law_box fB dB ["_law_script", "_law_k"]) (GB : FnOk P w K mg base CX0 1 fB dB ["_law_script", "_law_k"] (spBox K))
    (DR : Df K mg "_law_right" s__law_right fR dR ["_law_box_here"]) (GR : FnG P w K mg base (L2.CX P w) 10 fR dR ["_law_box_here"] spRight) (F : Fun K "law" "law" s_law f fd) : FnG P w K mg base (L2.CX P w) 12 f fd ["_law_script"] (spLaw K) := by
  refine okG F sc_law (fun vs H Q E h => ?_) (fun cdv A outer s H vs Q E gu hr h => ?_)
  · obtain ⟨a, ns, rfl, _⟩ := h
    rfl
  · obtain ⟨a, ns, rfl, hS, k⟩ := h
    have S := sc_law
    refine ⟨_, (pss_cons (ps_for (passes_of rfl) rfl (pi_range1 (by rfl) B.m_range (pa_cons (pe_callB (call_max2 rfl) (by rfl) B.m_max (by decide +kernel) (pa_cons pe_int (pa_cons (pe_callB (call_min2 rfl) (by rfl) B.m_min (by decide +kernel) (pa_cons pe_int (pa_cons (pe_callB call_len_seq (by rfl) B.m_len PySem.boot_len (pa_cons (pv 0) pa_nil)) pa_nil))) pa_nil))) pa_nil)) (pg_name (i := 1) S.nd rfl (.inl rfl))
        (pss_cons (ps_set (i := 2) S.nd rfl (.inr rfl) (pe_call GB (hr.mono (by decide)) (by rfl) DB.g DB.F.kp DB.b .nil pass0 (pa_cons (pv 0) (pa_cons (pv 1) pa_nil))))
        (pss_one (ps_if (pt_not (pt_val (pe_callB (cr_all rfl) (by rfl) m_all (by decide +kernel) (pa_cons (pe_lc (own := [("_law_turn", 3)]) (g := gName 3) (tt := tYes) rfl S.nd (pi_range1 (by rfl) B.m_range (pa_cons pe_int pa_nil)) (blkOk_by (own := [("_law_turn", 3)]) (N := ["_law_script", "_law_k", "_law_box_here", "_law_turn"]) (sc := defScope s_law) (by decide +kernel)) (fun _ _ _ _ _ => pg_name (i := 3) S.nd rfl (Or.inl rfl)) (fun _ _ _ _ _ => pts_nil) (fun _ _ _ _ _ => pe_callG GR gu (hr.mono (by decide)) (by rfl) DR.g DR.F.kp DR.b passL (pa_cons (pv 2) pa_nil))) pa_nil))))
          (pss_one (ps_ret pe_bl))
          pss_nil))))
      (pss_one (ps_ret pe_bl))), ?_⟩
    dsimp only [tSeq, tFor, iRng1, tCB, tCons, tNil]
    refine val_c _ ?_
    refine val_c _ ?_
    refine (val_var rfl) _ ?_
    refine ⟨a, _, rfl, .inl hS, ?_⟩
    refine ⟨3, _, rfl, ?_⟩
    refine ⟨1, _, rfl, ?_⟩
    generalize hj : (if (if (((ns.map V.int).length : Nat) : Int) < 3 then (((ns.map V.int).length : Nat) : Int) else 3) > 1 then (if (((ns.map V.int).length : Nat) : Int) < 3 then (((ns.map V.int).length : Nat) : Int) else 3) else 1) = j
    have j1 : 1 ≤ j ∧ j ≤ 3 := by
      rw [← hj]
      split <;> split <;> omega
    refine ⟨j, rfl, by omega, by omega, ?_⟩
    refine for_range (D := { nx := tRet (tC (.bl true)) { nx := fun _ G2 => Q .non G2, rt := Q }, rt := Q }) (g := gName 1) (tb := tSeq (tAsg (tCall (spBox K) [] E0 (tCons (tVar 0) (tCons (tVar 1) tNil))) (gName 2)) (tIfS (tNot (tB (tCB (rAll K) (tCons (tLc (iRng1 (tCons (tC (.int 5)) tNil)) (gName 3) tYes (tCall spRight [] E0 (tCons (tVar 2) tNil)) [3]) tNil)))) (tRet (tC (.bl false))) tNext)) (lo := 0) (n := j.toNat) (fun i σ' H' => (∃ v1 v2 v3, σ' = [some (.ref a), v1, v2, v3]) ∧ (∀ o, H a = some o → H' a = some o)) ⟨⟨none, none, none, rfl⟩, fun o e => e⟩ (fun i σ' H' hi h => ?_) fun σ' H' h => ?_
    · obtain ⟨⟨v1, v2, v3, rfl⟩, kS⟩ := h
      try dsimp only [gName]
      try dsimp only [tSeq, tAsg]
      try dsimp only [tCall, tCons, tNil]
      refine (val_var rfl) _ ?_
      refine (val_var rfl) _ ?_
      refine ⟨a, ns, 0 + (i : Int), rfl, sq_keep hS kS, by omega, by omega, fun b p q nb Bx => ?_⟩
      have s1 := same_upd (o := .lst (bx p q 0)) nb
      have hb : (upd H' b (.lst (bx p q 0))) b = some (.lst (bx p q 0)) := upd_same
      have ab : ∀ o, H a = some o → a ≠ b := fun o e => ne_of_none (kS o e) nb
      generalize (upd H' b (.lst (bx p q 0))) = H1 at s1 hb
      have kS1 : ∀ o, H a = some o → H1 a = some o := fun o e => s1 _ _ (kS o e)
      try dsimp only [gName]
      try dsimp only [tIfS, tNot, tB, tCB, tCons, tNil, tLc, iRng1]
      refine val_c _ ⟨5, rfl, by decide, by decide, fun M nM => ?_⟩
      have bM : b ≠ M := ne_of_none hb nM
      refine lc_range (lo := 0) (n := (5 : Int).toNat) (fun t H2 => ∃ p' n' : Int, (∀ o, H a = some o → H2 a = some o) ∧ H2 b = some (.lst (bx p' q n')) ∧ Box p' q n' ∧ n' ≤ 300 * t ∧ H2 M = some (.lst ((List.replicate t true).map V.bl))) ⟨p, 0, fun o e => same_upd nM _ _ (kS1 o e), same_upd nM _ _ hb, Bx, by omega, upd_same⟩ (fun t H2 ht hI => ?_) fun H2 hI => ?_
      · obtain ⟨p', n', kA, hb2, B2, le2, hM⟩ := hI
        have ht4 : t < 5 := ht
        refine ⟨rfl, ?_⟩
        try dsimp only [tYes]
        rw [if_pos rfl]
        try dsimp only [tCall, tCons, tNil]
        refine (val_var rfl) _ ⟨b, p', q, n', rfl, hb2, B2, by omega, fun H3 p3 n3 kx hb3 B3 le3 => ?_⟩
        have hM3 := kx _ _ bM.symm hM
        have up : ∀ x o, x ≠ M → H3 x = some o → (upd H3 M (.lst ((List.replicate t true).map V.bl ++ [.bl true]))) x = some o := fun x o n e => by
          rw [upd_ne n]
          exact e
        refine ⟨_, hM3, by rw [List.length_map, List.length_replicate]; exact Nat.lt_of_le_of_lt (show t ≤ 5 by omega) (by decide), p3, n3, fun o e => up _ _ (ne_of_none (kS1 o e) nM) (kx _ _ (ab o e) (kA o e)), up _ _ bM hb3, B3, by omega, ?_⟩
        rw [upd_same, List.replicate_succ', List.map_append]
        rfl
      · obtain ⟨p', n', kA, hb2, B2, le2, hM⟩ := hI
        refine ⟨M, List.replicate 5 true, rfl, SqL.of hM, true, rfl, iteF ?_⟩
        exact ⟨⟨_, _, _, rfl⟩, kA⟩
    · exact k H'
end
end K5
namespace K5
open PySem PySem.Spec PyProof.Rows L2
/-! ### the law's call, where the caller shows nothing -/
/-- what is tracked at the call: empty tables, and the script unless the text has written it -/
def atCall (K : PySem.W.Frag) (ts : List Addr) (a : Addr) (ob : Obj) (ns : List Int) : Hp := fun b =>
  if b ∈ ts then some (.tbl #[]) else if b = a ∧ K.lookup a = none then some (.frz ob (.lst (ns.map V.int))) else none
section
variable {K : PySem.W.Frag} {ts : List Addr} {a b : Addr} {ob : Obj} {ns : List Int}
theorem atCall_tab (h : b ∈ ts) : atCall K ts a ob ns b = some (.tbl #[]) := if_pos h
theorem atCall_arg (h : a ∉ ts) (free : K.lookup a = none) : atCall K ts a ob ns a = some (.frz ob (.lst (ns.map V.int))) := (if_neg h).trans (if_pos ⟨rfl, free⟩)
theorem atCall_not (h : b ∉ ts) (n : ¬ (b = a ∧ K.lookup a = none)) : atCall K ts a ob ns b = none := (if_neg h).trans (if_neg n)
theorem atCall_cases (K : PySem.W.Frag) (ts : List Addr) (a b : Addr) (ob : Obj) (ns : List Int) : atCall K ts a ob ns b = none ∨ (b ∈ ts ∧ atCall K ts a ob ns b = some (.tbl #[])) ∨ (b ∉ ts ∧ b = a ∧ K.lookup a = none ∧ atCall K ts a ob ns b = some (.frz ob (.lst (ns.map V.int)))) := by
  by_cases h : b ∈ ts
  · exact .inr (.inl ⟨h, atCall_tab h⟩)
  · by_cases n : b = a ∧ K.lookup a = none
    · exact .inr (.inr ⟨h, n.1, n.2, (if_neg h).trans (if_pos n)⟩)
    · exact .inl (atCall_not h n)
end
theorem law_G {P : Program} {w : World} {K : PySem.W.Frag} {mg mb : Str → Option Value} {cx : CXT} {lv : Nat} {fa a : Addr} {cs : List (Addr × Addr)} {rec : FuncData} {x : Str} {pr : Sp} {st : Shared} {us : List Value} {ns : List Int}
    (inK : K.In st.heap) (gl : st.heap.Ns mainGlobals mg) (bl : st.heap.Ns builtinsNs mb) (std : ∀ y : Str, y ≠ "__name__" → mb y = bootBuiltins y) (nol : st.heap.NoLimit) (noGens : st.gens = #[])
    (tabs : ∀ p ∈ cs, st.heap.get? p.2 = some { cls := .none, data := .fields #[] }) (outK : ∀ p ∈ cs, K.lookup p.2 = none) (codes : ∀ p ∈ cs, PySem.W.CodeHd st.heap p.1 p.2)
    (bmod : ∃ (bm : Addr) (o : Obj), mg "__builtins__" = some (.ref bm) ∧ bm ≠ builtinsNs ∧ st.heap.get? bm = some o ∧ o.cls = .type "module" ∧ o.dict = some builtinsNs ∧ o.data = .plain)
    (arg : st.heap.get? a = some { cls := .type "list", data := .seq us.toArray }) (wholes : IntsAre us ns) (few : ns.length ≤ sizeLine) (room : Room lv callerA)
    (F : ∀ base : Heap, K.In base → base.Ns mainGlobals mg → (∀ p ∈ cs, GxR.TabB base mg p.1 p.2) → FnG P w K mg base cx lv fa rec [x] pr) (binds : ∀ (s : Shared) (u : Value), BindsTo s rec ⟨[u], []⟩ [(x, u)])
    (goes : ∀ H : Hp, (∀ p ∈ cs, H p.2 = some (.tbl #[])) → SqL K H a (ns.map V.int) → pr [.ref a] H (fun v _ => v = .bl true) fun _ _ _ => False)
    (quiet : ∀ H e s2, cx [] H st (fun _ _ _ => False) e s2 → False) :
    codeAny (model P w) callerA (.call (.ref fa) ⟨[.ref a], []⟩) (fun r s2 => r = .ok (.ret (.bool true)) ∧ OldK st.heap s2.heap ∧ s2.os = st.os ∧ AllBare s2.gens) st := by
  generalize hts : cs.map (·.2) = ts
  have inTs : ∀ p ∈ cs, p.2 ∈ ts := fun p hp => hts ▸ List.mem_map.mpr ⟨p, hp, rfl⟩
  have ofTs : ∀ b ∈ ts, ∃ p ∈ cs, p.2 = b := fun b hb => List.mem_map.mp (hts ▸ hb)
  have tabAt : ∀ b ∈ ts, st.heap.get? b = some { cls := .none, data := .fields #[] } := fun b hb => by
    obtain ⟨p, hp, rfl⟩ := ofTs b hb
    exact tabs p hp
  generalize hob : ({ cls := .type "list", data := .seq us.toArray } : Obj) = ob at arg
  have obD : ∃ m, ob.data = .seq us.toArray m := hob ▸ ⟨_, rfl⟩
  have argOut : a ∉ ts := fun z => by
    have q := tabAt a z
    rw [arg] at q
    obtain ⟨m, d⟩ := obD
    rw [Option.some.inj q] at d
    cases d
  have rel := vals_ints wholes
  have size : us.toArray.size ≤ sizeLine := by
    rw [List.size_toArray, wholes.length]
    exact few
  let H : Hp := atCall K ts a ob ns
  -- neither a table nor a list: it is not tracked
  have loose : ∀ {b : Addr} {o : Obj}, st.heap.get? b = some o → (∀ vs m, o.data ≠ .seq vs m) → o.data ≠ .fields #[] → H b = none := by
    intro b o e n1 n2
    rcases atCall_cases K ts a b ob ns with q | ⟨q, _⟩ | ⟨_, q, _, _⟩
    · exact q
    · rw [tabAt b q] at e
      cases e
      exact absurd rfl n2
    · rw [q, arg] at e
      cases e
      obtain ⟨m, d⟩ := obD
      exact absurd d (n1 _ _)
  have dictLoose : ∀ {b : Addr} {o : Obj} {es : Array DictEntry} {ep : Nat}, st.heap.get? b = some o → o.data = .dict es ep → H b = none := by
    intro b o es ep e d
    exact loose e (fun vs m z => by rw [d] at z; cases z) fun z => by rw [d] at z; cases z
  have names : ∀ {b : Addr} {m : Str → Option Value}, st.heap.Ns b m → (hidT st.heap H).Ns b m := by
    rintro b m ⟨o, es, ep, e, d, r⟩
    exact ⟨o, es, ep, hidT_get e (dictLoose e d), d, r⟩
  have inB : K.In (hidT st.heap H) := by
    intro b o e
    refine hidT_get (inK b o e) ?_
    rcases atCall_cases K ts a b ob ns with q | ⟨q, _⟩ | ⟨_, q, free, _⟩
    · exact q
    · obtain ⟨p, hp, rfl⟩ := ofTs b q
      rw [outK p hp] at e
      cases e
    · rw [q, free] at e
      cases e
  have notG : ∀ b ∈ ts, mainGlobals ≠ b := fun b hb z => by
    obtain ⟨o, es, ep, e, d, _⟩ := gl
    rw [z, tabAt b hb] at e
    cases e
    cases d
  have tb : ∀ p ∈ cs, GxR.TabB (hidT st.heap H) mg p.1 p.2 := by
    intro p hp
    constructor
    · obtain ⟨o, vs, r1, r2, r3, r4, r5, r6, r7, e, k1, k2, k3⟩ := codes p hp
      refine ⟨o, vs, r1, r2, r3, r4, r5, r6, r7, hidT_get e (loose e (fun us m z => ?_) fun z => ?_), k1, k2, k3⟩
      · rw [k2] at z
        cases z
      · rw [k2] at z
        cases z
        simp at k3
    · obtain ⟨bm, o, y1, y2, y3, y4, y5, y6⟩ := bmod
      refine ⟨bm, o, y1, y2, fun z => ?_, fun z => ?_, hidT_get y3 (loose y3 (fun us m z => ?_) fun z => ?_), y4, y5, y6⟩
      · obtain ⟨g, es, ep, e, d, _⟩ := gl
        rw [← z, y3] at e
        cases e
        rw [y6] at d
        cases d
      · rw [z, tabs p hp] at y3
        cases y3
        cases y6
      · rw [y6] at z
        cases z
      · rw [y6] at z
        cases z
    · exact notG _ (inTs p hp)
  have held : HOk P w H st.heap := by
    intro b u z
    rcases atCall_cases K ts a b ob ns with q | ⟨q, q2⟩ | ⟨_, q, _, q2⟩
    · rw [show H b = none from q] at z
      cases z
    · rw [show H b = _ from q2] at z
      cases z
      exact tabAt b q
    · rw [show H b = _ from q2] at z
      cases z
      rw [q]
      exact ⟨arg, by rw [List.length_map]; exact few, us, _, rel, arg.trans (congrArg some hob.symm)⟩
  have script : SqL K H a (ns.map V.int) := by
    cases lk : K.lookup a with
    | none => exact .inl (.inr ⟨ob, atCall_arg argOut lk⟩)
    | some o =>
      have e := inK a o lk
      rw [arg] at e
      cases e
      obtain ⟨m, d⟩ := obD
      refine .inr ⟨ob, us.toArray, m, lk, ?_, ?_, d, size, by simpa using rel⟩ <;> rw [← hob]
  have nolB : (hidT st.heap H).NoLimit := by
    obtain ⟨mc, z1, z2⟩ := nol
    exact ⟨mc, names z1, z2⟩
  have e0 : Env0 P w K mg (hidT st.heap H) callerA [] st H :=
    { frames := rfl, mod := ⟨inB, names gl, ⟨mb, names bl, std⟩, nolB⟩, bs := fun b o e => of_hidT e, bsz := Nat.le_of_eq (hidT_size _ _), funs := trivial, frf := fun b hb => (nomatch hb), hok := held, bare := .of_eq noGens }
  have runs := (F _ inB (names gl) tb).does callerA [] st H ⟨[.ref a], []⟩ [.ref a] [.ref a] (fun v _ => v = .bl true) (fun _ _ _ => False) rfl room e0 (binds st (.ref a)) (.cons rfl .nil) (goes H (fun p hp => atCall_tab (inTs p hp)) script)
  refine codeAny_mono runs ?_
  intro r s2 h
  match r, h with
  | .error e, h => exact (quiet H e s2 h).elim
  | .ok .next, h => exact h.elim
  | .ok .brk, h => exact h.elim
  | .ok .cont, h => exact h.elim
  | .ok (.ret u), ⟨v, H2, sameOs, bare, un, held2, ru, q⟩ =>
    have q : v = V.bl true := q
    subst q
    have ru : u = Value.bool true := ru
    subst ru
    have grown : ∀ p ∈ cs, ∃ more : Array Value, s2.heap.get? p.2 = some { cls := .none, data := .fields more } := fun p hp => by
      obtain ⟨more, z⟩ := un.tbls p.2 #[] (atCall_tab (inTs p hp))
      exact ⟨_, held2 p.2 _ z⟩
    have kept : ∀ b o, b ∉ ts → st.heap.get? b = some o → s2.heap.get? b = some o := by
      intro b o nb e
      rcases atCall_cases K ts a b ob ns with z | ⟨z, _⟩ | ⟨_, z, _, z2⟩
      · exact un.keep b o e z (fun c => (nomatch c)) fun c => (nomatch c)
      · exact absurd z nb
      · obtain ⟨g, _⟩ := held2 b _ (un.frzs b ob _ z2)
        rw [z, arg] at e
        cases e
        exact g
    refine ⟨rfl, ⟨fun b o e => ?_, fun b o e => ?_⟩, sameOs, bare⟩ <;> by_cases hb : b ∈ ts
    · obtain ⟨p, hp, rfl⟩ := ofTs b hb
      obtain ⟨more, hm⟩ := grown p hp
      rw [tabs p hp] at e
      cases e
      refine .inr (.inl ⟨((codes p hp).tab (tabs p hp)).isCodeTable, rfl, #[], more, rfl, ?_⟩)
      rw [hm, Array.empty_append]
    · exact .inl (kept b o hb e)
    · obtain ⟨p, hp, rfl⟩ := ofTs b hb
      obtain ⟨more, hm⟩ := grown p hp
      exact ⟨_, hm⟩
    · exact ⟨o, kept b o hb e⟩
end K5
namespace K5
open PySem PySem.Spec PyProof.Rows L2
/-! ### the head's facts, by names -/
/-- a class of errors, as it is written -/
def oexB (K : PySem.W.Frag) (C : Addr) : Bool := match K.lookup C with
  | some ⟨.type t, _, .cls ⟨_, _, mro, _, _, hd, _, _, _, _, del⟩, sl⟩ => decide (t = "type") && (hd && (!del && ((match mro with
      | .ref c :: bm => decide (c = C) && PySem.HandSPX.refsVE bm
      | _ => false) && (match sl.toList with
      | [_, _, _, _, some (.builtin n), _] => decide (n = "ValueError.__new__")
      | _ => false))))
  | _ => false
theorem oexB_ok {K : PySem.W.Frag} {C : Addr} (h : oexB K C = true) : ∃ nm q N bs bm sn sub ab col dd k0 k1 k2 k3 k5, K.lookup C = some (excClassObj nm q C N bs bm true sn sub ab col dd k0 k1 k2 k3 k5 "ValueError.__new__") ∧ PySem.HandSPX.refsVE bm = true := by
  unfold oexB at h
  split at h
  · rename_i t dd nm bs mro N qn hd sn sub ab col del sl lk
    rw [Bool.and_eq_true, Bool.and_eq_true, Bool.and_eq_true, Bool.and_eq_true] at h
    obtain ⟨h1, h2, h3, h4, h5⟩ := h
    split at h4
    · rename_i c bm
      rw [Bool.and_eq_true] at h4
      split at h5
      · rename_i k0 k1 k2 k3 n k5 e
        have e1 : t = "type" := of_decide_eq_true h1
        have e2 : c = C := of_decide_eq_true h4.1
        have e3 : n = "ValueError.__new__" := of_decide_eq_true h5
        have e4 : hd = true := h2
        have e5 : del = false := by
          cases del
          · rfl
          · cases h3
        have e6 : sl = #[k0, k1, k2, k3, some (.builtin n), k5] := by
          rw [← Array.toList_inj, e]
        subst e1 e2 e3 e4 e5 e6
        exact ⟨nm, qn, N, bs, bm, sn, sub, ab, col, dd, k0, k1, k2, k3, k5, lk, h4.2⟩
      · cases h5
    · cases h4
  · cases h
def kdB (K : PySem.W.Frag) (x : Str) : Bool := match K.lookup (He.ga K x) with
  | some o => decide (o.cls = .type "tuple") && o.dict.isNone
  | none => false
theorem kdB_ok {K : PySem.W.Frag} {x : Str} (h : kdB K x = true) : ∃ ob, K.lookup (He.ga K x) = some ob ∧ ob.cls = .type "tuple" ∧ ob.dict = none := by
  unfold kdB at h
  split at h
  · rename_i o e
    rw [Bool.and_eq_true] at h
    exact ⟨o, e, of_decide_eq_true h.1, Option.isNone_iff_eq_none.mp h.2⟩
  · cases h
/-- what else is asked of the classes of errors -/
def errL (K : PySem.W.Frag) (x : Str) : List Bool := [oexB K (He.ga K x), decide (PySem.W.findIn K (.ref (He.ga K x)) "__setattr__" = some (some (.builtin "object.__setattr__"))), decide (PySem.W.subIn K (.ref (He.ga K x)) (.type "BaseException") = some true), decide (PySem.W.typeIn K (.ref (He.ga K x)) = some (.type "type")), PySem.W.keepIn K (.ref (He.ga K x)),
  decide (PySem.W.findIn K (.ref (He.ga K x)) "__init__" = some (some (.ref (He.ma K (He.ga K "WireError") "__init__")))), decide (PySem.W.findIn K (.ref (He.ga K x)) "value" = some none), xfB K (He.ga K x),
  decide (PySem.W.findIn K (.ref (He.ga K x)) "__class__" = some (some (.builtin "object.__class__"))), decide (PySem.W.mroIn K (He.ga K x) (.type "object") = some true), decide (PySem.W.exmOne K (.ref (He.ga K x)) (.ref (He.ga K "WireError")) = some true),
  decide (PySem.W.kitOne K (.ref (He.ga K x)) (.type "ValueError") = some true)]
def exL (K : PySem.W.Frag) : List Bool := [(errL K "BadText").all id, (errL K "BadRun").all id, decide (PySem.W.typeIn K (.ref (He.ma K (He.ga K "WireError") "__init__")) = some (.type "function")),
  decide (PySem.W.specialIn K (.builtin "object.__class__") "__get__" = some (some (.builtin "getset_descriptor.__get__"))), decide (PySem.W.takesIn K (.builtin "object.__class__") = some true),
  decide (PySem.W.kitOne K (.ref (He.ga K "BadText")) (.ref (He.ga K "BadText")) = some true), decide (PySem.W.kitOne K (.ref (He.ga K "BadText")) (.ref (He.ga K "BadRun")) = some false), decide (PySem.W.kitOne K (.ref (He.ga K "BadRun")) (.ref (He.ga K "BadText")) = some false), decide (PySem.W.kitOne K (.ref (He.ga K "BadRun")) (.ref (He.ga K "BadRun")) = some true),
  He.tupB K "ANSWER_WORDS" [.str "busy", .str "lost"], kdB K "ANSWER_WORDS"]
def exB (K : PySem.W.Frag) : Bool := (exL K).all id
theorem all_at {l : List Bool} (h : l.all id = true) (i : Nat) {b : Bool} (e : l[i]? = some b) : b = true := List.all_eq_true.mp h b (List.mem_of_getElem? e)
def faL : List He.Fa := [
  (.glo "is_integer"),
  (.glo "is_below"),
  (.glo "is_answer"),
  (.glo "is_name"),
  (.glo "is_door"),
  (.glo "is_tuple"),
  (.glo "number"),
  (.glo "shown_answer"),
  (.glo "answer_of"),
  (.glo "show_run"),
  (.glo "read_run"),
  (.glo "is_event"),
  (.glo "is_wire"),
  (.glo "event_text"),
  (.glo "wire_text"),
  (.glo "event_told"),
  (.glo "wire_told"),
  (.glo "_law_box"),
  (.glo "_law_take"),
  (.glo "_law_of"),
  (.glo "_law_name"),
  (.glo "_law_event"),
  (.glo "_law_is_name"),
  (.glo "_law_whole"),
  (.glo "_law_is_event"),
  (.glo "_law_is_run"),
  (.glo "_law_line"),
  (.glo "_law_event_in"),
  (.glo "_law_told"),
  (.glo "_law_read_due"),
  (.glo "_law_any"),
  (.glo "_law_bent"),
  (.glo "_law_bent_page"),
  (.glo "_law_right"),
  (.glo "law"),
  (.glo "WireError"),
  (.glo "BadText"),
  (.glo "BadRun"),
  (.glo "Lines"),
  (.glo "ANSWER_WORDS"),
  (.free "int"),
  (.free "len"),
  (.free "abs"),
  (.free "max"),
  (.free "min"),
  (.free "list"),
  (.free "str"),
  (.free "bool"),
  (.free "range"),
  (.free "isinstance"),
  (.free "tuple"),
  (.free "repr"),
  (.free "all"),
  (.free "ValueError"),
  (.free "dict"),
  (.int "MOST_WORTHS" 4),
  (.str "OUTSIDE" "-"),
  (.cls "Lines"),
  (.mkr "Lines"),
  (.noat "Lines" "rows"),
  (.noat "Lines" "at"),
  (.meth "Lines" "words"),
  (.meth "Lines" "step"),
  (.meth "Lines" "need")]
def d0 : He.DefD := ⟨("is_integer", none), "is_integer", "is_integer", defArgs s_is_integer, defBody s_is_integer, defScope s_is_integer, [], []⟩
def d1 : He.DefD := ⟨("is_below", none), "is_below", "is_below", defArgs s_is_below, defBody s_is_below, defScope s_is_below, [], []⟩
def d2 : He.DefD := ⟨("is_answer", none), "is_answer", "is_answer", defArgs s_is_answer, defBody s_is_answer, defScope s_is_answer, [], []⟩
def d3 : He.DefD := ⟨("is_name", none), "is_name", "is_name", defArgs s_is_name, defBody s_is_name, defScope s_is_name, [], []⟩
def d4 : He.DefD := ⟨("is_door", none), "is_door", "is_door", defArgs s_is_door, defBody s_is_door, defScope s_is_door, [], []⟩
def d5 : He.DefD := ⟨("is_tuple", none), "is_tuple", "is_tuple", defArgs s_is_tuple, defBody s_is_tuple, defScope s_is_tuple, [], []⟩
def d6 : He.DefD := ⟨("number", none), "number", "number", defArgs s_number, defBody s_number, defScope s_number, [], []⟩
def d7 : He.DefD := ⟨("shown_answer", none), "shown_answer", "shown_answer", defArgs s_shown_answer, defBody s_shown_answer, defScope s_shown_answer, [], []⟩
def d8 : He.DefD := ⟨("answer_of", none), "answer_of", "answer_of", defArgs s_answer_of, defBody s_answer_of, defScope s_answer_of, [], []⟩
def d9 : He.DefD := ⟨("show_run", none), "show_run", "show_run", defArgs s_show_run, defBody s_show_run, defScope s_show_run, [], []⟩
def d10 : He.DefD := ⟨("read_run", none), "read_run", "read_run", defArgs s_read_run, defBody s_read_run, defScope s_read_run, [], []⟩
def d11 : He.DefD := ⟨("is_event", none), "is_event", "is_event", defArgs s_is_event, defBody s_is_event, defScope s_is_event, [], []⟩
def d12 : He.DefD := ⟨("is_wire", none), "is_wire", "is_wire", defArgs s_is_wire, defBody s_is_wire, defScope s_is_wire, [], []⟩
def d13 : He.DefD := ⟨("event_text", none), "event_text", "event_text", defArgs s_event_text, defBody s_event_text, defScope s_event_text, [], []⟩
def d14 : He.DefD := ⟨("wire_text", none), "wire_text", "wire_text", defArgs s_wire_text, defBody s_wire_text, defScope s_wire_text, [], []⟩
def d15 : He.DefD := ⟨("event_told", none), "event_told", "event_told", defArgs s_event_told, defBody s_event_told, defScope s_event_told, [], []⟩
def d16 : He.DefD := ⟨("wire_told", none), "wire_told", "wire_told", defArgs s_wire_told, defBody s_wire_told, defScope s_wire_told, [], []⟩
def d17 : He.DefD := ⟨("_law_box", none), "_law_box", "_law_box", defArgs s__law_box, defBody s__law_box, defScope s__law_box, [], []⟩
def d18 : He.DefD := ⟨("_law_take", none), "_law_take", "_law_take", defArgs sTake, defBody sTake, defScope sTake, [], []⟩
def d19 : He.DefD := ⟨("_law_of", none), "_law_of", "_law_of", defArgs s__law_of, defBody s__law_of, defScope s__law_of, [], []⟩
def d20 : He.DefD := ⟨("_law_name", none), "_law_name", "_law_name", defArgs s__law_name, defBody s__law_name, defScope s__law_name, [], []⟩
def d21 : He.DefD := ⟨("_law_event", none), "_law_event", "_law_event", defArgs s__law_event, defBody s__law_event, defScope s__law_event, [], []⟩
def d22 : He.DefD := ⟨("_law_is_name", none), "_law_is_name", "_law_is_name", defArgs s__law_is_name, defBody s__law_is_name, defScope s__law_is_name, [], []⟩
def d23 : He.DefD := ⟨("_law_whole", none), "_law_whole", "_law_whole", defArgs s__law_whole, defBody s__law_whole, defScope s__law_whole, [], []⟩
def d24 : He.DefD := ⟨("_law_is_event", none), "_law_is_event", "_law_is_event", defArgs s__law_is_event, defBody s__law_is_event, defScope s__law_is_event, [], []⟩
def d25 : He.DefD := ⟨("_law_is_run", none), "_law_is_run", "_law_is_run", defArgs s__law_is_run, defBody s__law_is_run, defScope s__law_is_run, [], []⟩
def d26 : He.DefD := ⟨("_law_line", none), "_law_line", "_law_line", defArgs s__law_line, defBody s__law_line, defScope s__law_line, [], []⟩
def d27 : He.DefD := ⟨("_law_event_in", none), "_law_event_in", "_law_event_in", defArgs s__law_event_in, defBody s__law_event_in, defScope s__law_event_in, [], []⟩
def d28 : He.DefD := ⟨("_law_told", none), "_law_told", "_law_told", defArgs s__law_told, defBody s__law_told, defScope s__law_told, [], []⟩
def d29 : He.DefD := ⟨("_law_read_due", none), "_law_read_due", "_law_read_due", defArgs s__law_read_due, defBody s__law_read_due, defScope s__law_read_due, [], []⟩
def d30 : He.DefD := ⟨("_law_any", none), "_law_any", "_law_any", defArgs s__law_any, defBody s__law_any, defScope s__law_any, [], []⟩
def d31 : He.DefD := ⟨("_law_bent", none), "_law_bent", "_law_bent", defArgs s__law_bent, defBody s__law_bent, defScope s__law_bent, [], []⟩
def d32 : He.DefD := ⟨("_law_bent_page", none), "_law_bent_page", "_law_bent_page", defArgs s__law_bent_page, defBody s__law_bent_page, defScope s__law_bent_page, [], []⟩
def d33 : He.DefD := ⟨("_law_right", none), "_law_right", "_law_right", defArgs s__law_right, defBody s__law_right, defScope s__law_right, [], []⟩
def d34 : He.DefD := ⟨("law", none), "law", "law", defArgs s_law, defBody s_law, defScope s_law, [], []⟩
def d35 : He.DefD := ⟨("WireError", some "__init__"), "__init__", "WireError.__init__", defArgs s_err, defBody s_err, defScope s_err, [], []⟩
def d36 : He.DefD := ⟨("Lines", some "__init__"), "__init__", "Lines.__init__", defArgs s_Lines___init__, defBody s_Lines___init__, defScope s_Lines___init__, [], []⟩
def d37 : He.DefD := ⟨("Lines", some "words"), "words", "Lines.words", defArgs s_Lines_words, defBody s_Lines_words, defScope s_Lines_words, [], []⟩
def d38 : He.DefD := ⟨("Lines", some "step"), "step", "Lines.step", defArgs s_Lines_step, defBody s_Lines_step, defScope s_Lines_step, [], []⟩
def d39 : He.DefD := ⟨("Lines", some "need"), "need", "Lines.need", defArgs s_Lines_need, defBody s_Lines_need, defScope s_Lines_need, [], []⟩
def fnL : List He.DefD := [d0, d1, d2, d3, d4, d5, d6, d7, d8, d9, d10, d11, d12, d13, d14, d15, d16, d17, d18, d19, d20, d21, d22, d23, d24, d25, d26, d27, d28, d29, d30, d31, d32, d33, d34, d35, d36, d37, d38, d39]
abbrev tfL : List He.Defn := []
theorem funOf {K : PySem.W.Frag} {x qual : Str} {st : Stmt} {f : Addr} {fd : FuncData} (F : FunD K x qual (defArgs st) (defBody st) (defScope st) [] [] f fd) : Fun K x qual st f fd := by
  obtain ⟨oc, od, dV, kV, doc, pm, an, cd, ct, sl, e, lk, hc, hD, _⟩ := F.ex
  rcases hD with ⟨_, rfl⟩ | ⟨z, _⟩
  · exact ⟨⟨oc, od, kV, doc, pm, an, cd, ct, sl, e, lk, hc⟩, F.kp⟩
  · exact absurd rfl z
section
variable {K : PySem.W.Frag} {w : World} {h : Heap} {mg : Str → Option Value}
theorem er_of {x : Str} (X : K.In h) (G : h.Ns mainGlobals mg) (g : mg x = some (.ref (He.ga K x))) (e : (errL K x).all id = true) (e2 : (exL K).all id = true) : Er K mg x (He.ga K x) (He.ma K (He.ga K "WireError") "__init__") where
  O := ⟨oexB_ok (all_at e 0 rfl), of_decide_eq_true (all_at e 1 rfl), of_decide_eq_true (all_at e 2 rfl), of_decide_eq_true (all_at e 3 rfl), all_at e 4 rfl⟩
  g := g
  iC := of_decide_eq_true (all_at e 5 rfl)
  tI := of_decide_eq_true (all_at e2 2 rfl)
  nv := of_decide_eq_true (all_at e 6 rfl)
theorem exc_of {x : Str} (e : (errL K x).all id = true) (e2 : (exL K).all id = true) : ExcC K (He.ga K x) where
  hg := (xfB_ok (all_at e 7 rfl)).ga
  hk := (xfB_ok (all_at e 7 rfl)).gg
  hs := (xfB_ok (all_at e 7 rfl)).exC
  hd := (xfB_ok (all_at e 7 rfl)).hdC
  ha := of_decide_eq_true (all_at e 8 rfl)
  hn := of_decide_eq_true (all_at e2 3 rfl)
  ht := of_decide_eq_true (all_at e2 4 rfl)
  hm := of_decide_eq_true (all_at e 9 rfl)
theorem erC_of (e2 : (exL K).all id = true) : ErC K (He.ga K "WireError") (He.ga K "BadText") (He.ga K "BadRun") := by
  have eT : (errL K "BadText").all id = true := all_at e2 0 rfl
  have eW : (errL K "BadRun").all id = true := all_at e2 1 rfl
  exact ⟨of_decide_eq_true (all_at eT 10 rfl), of_decide_eq_true (all_at eW 10 rfl), exc_of eT e2, exc_of eW e2, xfB_ok (all_at eT 7 rfl), xfB_ok (all_at eW 7 rfl), of_decide_eq_true (all_at eT 6 rfl), of_decide_eq_true (all_at eW 6 rfl), of_decide_eq_true (all_at e2 5 rfl), of_decide_eq_true (all_at e2 6 rfl), of_decide_eq_true (all_at e2 7 rfl), of_decide_eq_true (all_at e2 8 rfl), of_decide_eq_true (all_at eT 11 rfl), of_decide_eq_true (all_at eW 11 rfl)⟩
theorem all_mk {P : Program} {f : Addr} (X : K.In h) (G : h.Ns mainGlobals mg) (hf : mg ("law" : Str) = some (.ref f)) (c : He.SaysD faL fnL K) (e2 : exB K = true) :
    ∃ fd : FuncData, (∀ (s : Shared) (v : Value), BindsTo s fd ⟨[v], []⟩ [("_law_script", v)]) ∧ ∀ base : Heap, K.In base → base.Ns mainGlobals mg →
      FnG P w K mg base (L2.CX P w) 12 f fd ["_law_script"] (spLaw K) := by
  have eT : (errL K "BadText").all id = true := all_at e2 0 rfl
  have eW : (errL K "BadRun").all id = true := all_at e2 1 rfl
  have Bt0 : Bt mg := { m_int := He.free_ok X G (c.fact 40 (f := .free "int") rfl), m_len := He.free_ok X G (c.fact 41 (f := .free "len") rfl), m_abs := He.free_ok X G (c.fact 42 (f := .free "abs") rfl), m_max := He.free_ok X G (c.fact 43 (f := .free "max") rfl), m_min := He.free_ok X G (c.fact 44 (f := .free "min") rfl), m_list := He.free_ok X G (c.fact 45 (f := .free "list") rfl), m_str := He.free_ok X G (c.fact 46 (f := .free "str") rfl), m_bool := He.free_ok X G (c.fact 47 (f := .free "bool") rfl), m_range := He.free_ok X G (c.fact 48 (f := .free "range") rfl), m_isinstance := He.free_ok X G (c.fact 49 (f := .free "isinstance") rfl), m_tuple := He.free_ok X G (c.fact 50 (f := .free "tuple") rfl), m_repr := He.free_ok X G (c.fact 51 (f := .free "repr") rfl) }
  obtain ⟨k0, F0⟩ := c.def_ 0 (d := d0) rfl
  obtain ⟨k1, F1⟩ := c.def_ 1 (d := d1) rfl
  obtain ⟨k2, F2⟩ := c.def_ 2 (d := d2) rfl
  obtain ⟨k3, F3⟩ := c.def_ 3 (d := d3) rfl
  obtain ⟨k4, F4⟩ := c.def_ 4 (d := d4) rfl
  obtain ⟨k5, F5⟩ := c.def_ 5 (d := d5) rfl
  obtain ⟨k6, F6⟩ := c.def_ 6 (d := d6) rfl
  obtain ⟨k7, F7⟩ := c.def_ 7 (d := d7) rfl
  obtain ⟨k8, F8⟩ := c.def_ 8 (d := d8) rfl
  obtain ⟨k9, F9⟩ := c.def_ 9 (d := d9) rfl
  obtain ⟨k10, F10⟩ := c.def_ 10 (d := d10) rfl
  obtain ⟨k11, F11⟩ := c.def_ 11 (d := d11) rfl
  obtain ⟨k12, F12⟩ := c.def_ 12 (d := d12) rfl
  obtain ⟨k13, F13⟩ := c.def_ 13 (d := d13) rfl
  obtain ⟨k14, F14⟩ := c.def_ 14 (d := d14) rfl
  obtain ⟨k15, F15⟩ := c.def_ 15 (d := d15) rfl
  obtain ⟨k16, F16⟩ := c.def_ 16 (d := d16) rfl
  obtain ⟨k17, F17⟩ := c.def_ 17 (d := d17) rfl
  obtain ⟨k18, F18⟩ := c.def_ 18 (d := d18) rfl
  obtain ⟨k19, F19⟩ := c.def_ 19 (d := d19) rfl
  obtain ⟨k20, F20⟩ := c.def_ 20 (d := d20) rfl
  obtain ⟨k21, F21⟩ := c.def_ 21 (d := d21) rfl
  obtain ⟨k22, F22⟩ := c.def_ 22 (d := d22) rfl
  obtain ⟨k23, F23⟩ := c.def_ 23 (d := d23) rfl
  obtain ⟨k24, F24⟩ := c.def_ 24 (d := d24) rfl
  obtain ⟨k25, F25⟩ := c.def_ 25 (d := d25) rfl
  obtain ⟨k26, F26⟩ := c.def_ 26 (d := d26) rfl
  obtain ⟨k27, F27⟩ := c.def_ 27 (d := d27) rfl
  obtain ⟨k28, F28⟩ := c.def_ 28 (d := d28) rfl
  obtain ⟨k29, F29⟩ := c.def_ 29 (d := d29) rfl
  obtain ⟨k30, F30⟩ := c.def_ 30 (d := d30) rfl
  obtain ⟨k31, F31⟩ := c.def_ 31 (d := d31) rfl
  obtain ⟨k32, F32⟩ := c.def_ 32 (d := d32) rfl
  obtain ⟨k33, F33⟩ := c.def_ 33 (d := d33) rfl
  obtain ⟨k34, F34⟩ := c.def_ 34 (d := d34) rfl
  obtain ⟨k35, F35⟩ := c.def_ 35 (d := d35) rfl
  obtain ⟨k36, F36⟩ := c.def_ 36 (d := d36) rfl
  obtain ⟨k37, F37⟩ := c.def_ 37 (d := d37) rfl
  obtain ⟨k38, F38⟩ := c.def_ 38 (d := d38) rfl
  obtain ⟨k39, F39⟩ := c.def_ 39 (d := d39) rfl
  have e := hf.symm.trans (He.glo_ok X G (c.fact 34 (f := .glo "law") rfl))
  cases e
  have b0 : Binds K k0 ["value"] [] := FunD.bindsN F0 fun _ _ _ _ _ _ us hl => match us, hl with | [_], _ => rfl
  have D0 : Df K mg "is_integer" s_is_integer (He.fAd K ("is_integer", none)) k0 ["value"] := ⟨funOf (st := s_is_integer) F0, He.glo_ok X G (c.fact 0 (f := .glo "is_integer") rfl), b0⟩
  have b1 : Binds K k1 ["value", "many"] [] := FunD.bindsN F1 fun _ _ _ _ _ _ us hl => match us, hl with | [_, _], _ => rfl
  have D1 : Df K mg "is_below" s_is_below (He.fAd K ("is_below", none)) k1 ["value", "many"] := ⟨funOf (st := s_is_below) F1, He.glo_ok X G (c.fact 1 (f := .glo "is_below") rfl), b1⟩
  have b2 : Binds K k2 ["value", "worths"] [] := FunD.bindsN F2 fun _ _ _ _ _ _ us hl => match us, hl with | [_, _], _ => rfl
  have D2 : Df K mg "is_answer" s_is_answer (He.fAd K ("is_answer", none)) k2 ["value", "worths"] := ⟨funOf (st := s_is_answer) F2, He.glo_ok X G (c.fact 2 (f := .glo "is_answer") rfl), b2⟩
  have b3 : Binds K k3 ["value"] [] := FunD.bindsN F3 fun _ _ _ _ _ _ us hl => match us, hl with | [_], _ => rfl
  have D3 : Df K mg "is_name" s_is_name (He.fAd K ("is_name", none)) k3 ["value"] := ⟨funOf (st := s_is_name) F3, He.glo_ok X G (c.fact 3 (f := .glo "is_name") rfl), b3⟩
  have b4 : Binds K k4 ["value"] [] := FunD.bindsN F4 fun _ _ _ _ _ _ us hl => match us, hl with | [_], _ => rfl
  have D4 : Df K mg "is_door" s_is_door (He.fAd K ("is_door", none)) k4 ["value"] := ⟨funOf (st := s_is_door) F4, He.glo_ok X G (c.fact 4 (f := .glo "is_door") rfl), b4⟩
  have b5 : Binds K k5 ["value", "size"] [] := FunD.bindsN F5 fun _ _ _ _ _ _ us hl => match us, hl with | [_, _], _ => rfl
  have D5 : Df K mg "is_tuple" s_is_tuple (He.fAd K ("is_tuple", none)) k5 ["value", "size"] := ⟨funOf (st := s_is_tuple) F5, He.glo_ok X G (c.fact 5 (f := .glo "is_tuple") rfl), b5⟩
  have b6 : Binds K k6 ["word", "many"] [] := FunD.bindsN F6 fun _ _ _ _ _ _ us hl => match us, hl with | [_, _], _ => rfl
  have D6 : Df K mg "number" s_number (He.fAd K ("number", none)) k6 ["word", "many"] := ⟨funOf (st := s_number) F6, He.glo_ok X G (c.fact 6 (f := .glo "number") rfl), b6⟩
  have b7 : Binds K k7 ["answer"] [] := FunD.bindsN F7 fun _ _ _ _ _ _ us hl => match us, hl with | [_], _ => rfl
  have D7 : Df K mg "shown_answer" s_shown_answer (He.fAd K ("shown_answer", none)) k7 ["answer"] := ⟨funOf (st := s_shown_answer) F7, He.glo_ok X G (c.fact 7 (f := .glo "shown_answer") rfl), b7⟩
  have b8 : Binds K k8 ["word", "worths"] [] := FunD.bindsN F8 fun _ _ _ _ _ _ us hl => match us, hl with | [_, _], _ => rfl
  have D8 : Df K mg "answer_of" s_answer_of (He.fAd K ("answer_of", none)) k8 ["word", "worths"] := ⟨funOf (st := s_answer_of) F8, He.glo_ok X G (c.fact 8 (f := .glo "answer_of") rfl), b8⟩
  have b9 : Binds K k9 ["run"] [] := FunD.bindsN F9 fun _ _ _ _ _ _ us hl => match us, hl with | [_], _ => rfl
  have D9 : Df K mg "show_run" s_show_run (He.fAd K ("show_run", none)) k9 ["run"] := ⟨funOf (st := s_show_run) F9, He.glo_ok X G (c.fact 9 (f := .glo "show_run") rfl), b9⟩
  have b10 : Binds K k10 ["text"] [] := FunD.bindsN F10 fun _ _ _ _ _ _ us hl => match us, hl with | [_], _ => rfl
  have D10 : Df K mg "read_run" s_read_run (He.fAd K ("read_run", none)) k10 ["text"] := ⟨funOf (st := s_read_run) F10, He.glo_ok X G (c.fact 10 (f := .glo "read_run") rfl), b10⟩
  have b11 : Binds K k11 ["value"] [] := FunD.bindsN F11 fun _ _ _ _ _ _ us hl => match us, hl with | [_], _ => rfl
  have D11 : Df K mg "is_event" s_is_event (He.fAd K ("is_event", none)) k11 ["value"] := ⟨funOf (st := s_is_event) F11, He.glo_ok X G (c.fact 11 (f := .glo "is_event") rfl), b11⟩
  have b12 : Binds K k12 ["value"] [] := FunD.bindsN F12 fun _ _ _ _ _ _ us hl => match us, hl with | [_], _ => rfl
  have D12 : Df K mg "is_wire" s_is_wire (He.fAd K ("is_wire", none)) k12 ["value"] := ⟨funOf (st := s_is_wire) F12, He.glo_ok X G (c.fact 12 (f := .glo "is_wire") rfl), b12⟩
  have b13 : Binds K k13 ["event"] [] := FunD.bindsN F13 fun _ _ _ _ _ _ us hl => match us, hl with | [_], _ => rfl
  have D13 : Df K mg "event_text" s_event_text (He.fAd K ("event_text", none)) k13 ["event"] := ⟨funOf (st := s_event_text) F13, He.glo_ok X G (c.fact 13 (f := .glo "event_text") rfl), b13⟩
  have b14 : Binds K k14 ["wire"] [] := FunD.bindsN F14 fun _ _ _ _ _ _ us hl => match us, hl with | [_], _ => rfl
  have D14 : Df K mg "wire_text" s_wire_text (He.fAd K ("wire_text", none)) k14 ["wire"] := ⟨funOf (st := s_wire_text) F14, He.glo_ok X G (c.fact 14 (f := .glo "wire_text") rfl), b14⟩
  have b15 : Binds K k15 ["words"] [] := FunD.bindsN F15 fun _ _ _ _ _ _ us hl => match us, hl with | [_], _ => rfl
  have D15 : Df K mg "event_told" s_event_told (He.fAd K ("event_told", none)) k15 ["words"] := ⟨funOf (st := s_event_told) F15, He.glo_ok X G (c.fact 15 (f := .glo "event_told") rfl), b15⟩
  have b16 : Binds K k16 ["words"] [] := FunD.bindsN F16 fun _ _ _ _ _ _ us hl => match us, hl with | [_], _ => rfl
  have D16 : Df K mg "wire_told" s_wire_told (He.fAd K ("wire_told", none)) k16 ["words"] := ⟨funOf (st := s_wire_told) F16, He.glo_ok X G (c.fact 16 (f := .glo "wire_told") rfl), b16⟩
  have b17 : Binds K k17 ["_law_script", "_law_k"] [] := FunD.bindsN F17 fun _ _ _ _ _ _ us hl => match us, hl with | [_, _], _ => rfl
  have D17 : Df K mg "_law_box" s__law_box (He.fAd K ("_law_box", none)) k17 ["_law_script", "_law_k"] := ⟨funOf (st := s__law_box) F17, He.glo_ok X G (c.fact 17 (f := .glo "_law_box") rfl), b17⟩
  have b18 : Binds K k18 ["_law_box_here", "_law_many"] [] := FunD.bindsN F18 fun _ _ _ _ _ _ us hl => match us, hl with | [_, _], _ => rfl
  have D18 : Df K mg "_law_take" sTake (He.fAd K ("_law_take", none)) k18 ["_law_box_here", "_law_many"] := ⟨funOf (st := sTake) F18, He.glo_ok X G (c.fact 18 (f := .glo "_law_take") rfl), b18⟩
  have b19 : Binds K k19 ["_law_box_here", "_law_some"] [] := FunD.bindsN F19 fun _ _ _ _ _ _ us hl => match us, hl with | [_, _], _ => rfl
  have D19 : Df K mg "_law_of" s__law_of (He.fAd K ("_law_of", none)) k19 ["_law_box_here", "_law_some"] := ⟨funOf (st := s__law_of) F19, He.glo_ok X G (c.fact 19 (f := .glo "_law_of") rfl), b19⟩
  have b20 : Binds K k20 ["_law_box_here"] [] := FunD.bindsN F20 fun _ _ _ _ _ _ us hl => match us, hl with | [_], _ => rfl
  have D20 : Df K mg "_law_name" s__law_name (He.fAd K ("_law_name", none)) k20 ["_law_box_here"] := ⟨funOf (st := s__law_name) F20, He.glo_ok X G (c.fact 20 (f := .glo "_law_name") rfl), b20⟩
  have b21 : Binds K k21 ["_law_box_here"] [] := FunD.bindsN F21 fun _ _ _ _ _ _ us hl => match us, hl with | [_], _ => rfl
  have D21 : Df K mg "_law_event" s__law_event (He.fAd K ("_law_event", none)) k21 ["_law_box_here"] := ⟨funOf (st := s__law_event) F21, He.glo_ok X G (c.fact 21 (f := .glo "_law_event") rfl), b21⟩
  have b22 : Binds K k22 ["_law_thing"] [] := FunD.bindsN F22 fun _ _ _ _ _ _ us hl => match us, hl with | [_], _ => rfl
  have D22 : Df K mg "_law_is_name" s__law_is_name (He.fAd K ("_law_is_name", none)) k22 ["_law_thing"] := ⟨funOf (st := s__law_is_name) F22, He.glo_ok X G (c.fact 22 (f := .glo "_law_is_name") rfl), b22⟩
  have b23 : Binds K k23 ["_law_thing", "_law_low", "_law_high"] [] := FunD.bindsN F23 fun _ _ _ _ _ _ us hl => match us, hl with | [_, _, _], _ => rfl
  have D23 : Df K mg "_law_whole" s__law_whole (He.fAd K ("_law_whole", none)) k23 ["_law_thing", "_law_low", "_law_high"] := ⟨funOf (st := s__law_whole) F23, He.glo_ok X G (c.fact 23 (f := .glo "_law_whole") rfl), b23⟩
  have b24 : Binds K k24 ["_law_thing"] [] := FunD.bindsN F24 fun _ _ _ _ _ _ us hl => match us, hl with | [_], _ => rfl
  have D24 : Df K mg "_law_is_event" s__law_is_event (He.fAd K ("_law_is_event", none)) k24 ["_law_thing"] := ⟨funOf (st := s__law_is_event) F24, He.glo_ok X G (c.fact 24 (f := .glo "_law_is_event") rfl), b24⟩
  have b25 : Binds K k25 ["_law_thing"] [] := FunD.bindsN F25 fun _ _ _ _ _ _ us hl => match us, hl with | [_], _ => rfl
  have D25 : Df K mg "_law_is_run" s__law_is_run (He.fAd K ("_law_is_run", none)) k25 ["_law_thing"] := ⟨funOf (st := s__law_is_run) F25, He.glo_ok X G (c.fact 25 (f := .glo "_law_is_run") rfl), b25⟩
  have b26 : Binds K k26 ["_law_event_here"] [] := FunD.bindsN F26 fun _ _ _ _ _ _ us hl => match us, hl with | [_], _ => rfl
  have D26 : Df K mg "_law_line" s__law_line (He.fAd K ("_law_line", none)) k26 ["_law_event_here"] := ⟨funOf (st := s__law_line) F26, He.glo_ok X G (c.fact 26 (f := .glo "_law_line") rfl), b26⟩
  have b27 : Binds K k27 ["_law_line_here"] [] := FunD.bindsN F27 fun _ _ _ _ _ _ us hl => match us, hl with | [_], _ => rfl
  have D27 : Df K mg "_law_event_in" s__law_event_in (He.fAd K ("_law_event_in", none)) k27 ["_law_line_here"] := ⟨funOf (st := s__law_event_in) F27, He.glo_ok X G (c.fact 27 (f := .glo "_law_event_in") rfl), b27⟩
  have b28 : Binds K k28 ["_law_reader", "_law_thing"] [] := FunD.bindsN F28 fun _ _ _ _ _ _ us hl => match us, hl with | [_, _], _ => rfl
  have D28 : Df K mg "_law_told" s__law_told (He.fAd K ("_law_told", none)) k28 ["_law_reader", "_law_thing"] := ⟨funOf (st := s__law_told) F28, He.glo_ok X G (c.fact 28 (f := .glo "_law_told") rfl), b28⟩
  have b29 : Binds K k29 ["_law_page"] [] := FunD.bindsN F29 fun _ _ _ _ _ _ us hl => match us, hl with | [_], _ => rfl
  have D29 : Df K mg "_law_read_due" s__law_read_due (He.fAd K ("_law_read_due", none)) k29 ["_law_page"] := ⟨funOf (st := s__law_read_due) F29, He.glo_ok X G (c.fact 29 (f := .glo "_law_read_due") rfl), b29⟩
  have b30 : Binds K k30 ["_law_box_here", "_law_thing"] [] := FunD.bindsN F30 fun _ _ _ _ _ _ us hl => match us, hl with | [_, _], _ => rfl
  have D30 : Df K mg "_law_any" s__law_any (He.fAd K ("_law_any", none)) k30 ["_law_box_here", "_law_thing"] := ⟨funOf (st := s__law_any) F30, He.glo_ok X G (c.fact 30 (f := .glo "_law_any") rfl), b30⟩
  have b31 : Binds K k31 ["_law_box_here", "_law_thing", "_law_deep"] [] := FunD.bindsN F31 fun _ _ _ _ _ _ us hl => match us, hl with | [_, _, _], _ => rfl
  have D31 : Df K mg "_law_bent" s__law_bent (He.fAd K ("_law_bent", none)) k31 ["_law_box_here", "_law_thing", "_law_deep"] := ⟨funOf (st := s__law_bent) F31, He.glo_ok X G (c.fact 31 (f := .glo "_law_bent") rfl), b31⟩
  have b32 : Binds K k32 ["_law_box_here", "_law_page"] [] := FunD.bindsN F32 fun _ _ _ _ _ _ us hl => match us, hl with | [_, _], _ => rfl
  have D32 : Df K mg "_law_bent_page" s__law_bent_page (He.fAd K ("_law_bent_page", none)) k32 ["_law_box_here", "_law_page"] := ⟨funOf (st := s__law_bent_page) F32, He.glo_ok X G (c.fact 32 (f := .glo "_law_bent_page") rfl), b32⟩
  have b33 : Binds K k33 ["_law_box_here"] [] := FunD.bindsN F33 fun _ _ _ _ _ _ us hl => match us, hl with | [_], _ => rfl
  have D33 : Df K mg "_law_right" s__law_right (He.fAd K ("_law_right", none)) k33 ["_law_box_here"] := ⟨funOf (st := s__law_right) F33, He.glo_ok X G (c.fact 33 (f := .glo "_law_right") rfl), b33⟩
  have b34 : Binds K k34 ["_law_script"] [] := FunD.bindsN F34 fun _ _ _ _ _ _ us hl => match us, hl with | [_], _ => rfl
  have D34 : Df K mg "law" s_law (He.fAd K ("law", none)) k34 ["_law_script"] := ⟨funOf (st := s_law) F34, He.glo_ok X G (c.fact 34 (f := .glo "law") rfl), b34⟩
  have b35 : Binds K k35 ["self", "value"] [] := FunD.bindsN F35 fun _ _ _ _ _ _ us hl => match us, hl with | [_, _], _ => rfl
  have U35 : Fun K "__init__" "WireError.__init__" s_err (He.fAd K ("WireError", some "__init__")) k35 := funOf (st := s_err) F35
  have b36 : Binds K k36 ["self", "text"] [] := FunD.bindsN F36 fun _ _ _ _ _ _ us hl => match us, hl with | [_, _], _ => rfl
  have U36 : Fun K "__init__" "Lines.__init__" s_Lines___init__ (He.fAd K ("Lines", some "__init__")) k36 := funOf (st := s_Lines___init__) F36
  have b37 : Binds K k37 ["self", "depth"] [] := FunD.bindsN F37 fun _ _ _ _ _ _ us hl => match us, hl with | [_, _], _ => rfl
  have M37 : Mf K (He.ga K "Lines") "words" "Lines.words" s_Lines_words (He.fAd K ("Lines", some "words")) k37 ["self", "depth"] := ⟨funOf (st := s_Lines_words) F37, He.meth_ok (c.fact 61 (f := .meth "Lines" "words") rfl), b37⟩
  have b38 : Binds K k38 ["self"] [] := FunD.bindsN F38 fun _ _ _ _ _ _ us hl => match us, hl with | [_], _ => rfl
  have M38 : Mf K (He.ga K "Lines") "step" "Lines.step" s_Lines_step (He.fAd K ("Lines", some "step")) k38 ["self"] := ⟨funOf (st := s_Lines_step) F38, He.meth_ok (c.fact 62 (f := .meth "Lines" "step") rfl), b38⟩
  have b39 : Binds K k39 ["self", "right"] [] := FunD.bindsN F39 fun _ _ _ _ _ _ us hl => match us, hl with | [_, _], _ => rfl
  have M39 : Mf K (He.ga K "Lines") "need" "Lines.need" s_Lines_need (He.fAd K ("Lines", some "need")) k39 ["self", "right"] := ⟨funOf (st := s_Lines_need) F39, He.meth_ok (c.fact 63 (f := .meth "Lines" "need") rfl), b39⟩
  have CLs : ClL K (He.ga K "Lines") := ⟨He.cls_ok (c.fact 57 (f := .cls "Lines") rfl), He.noat_ok (c.fact 59 (f := .noat "Lines" "rows") rfl), He.noat_ok (c.fact 60 (f := .noat "Lines" "at") rfl)⟩
  have KLines : Mk K (He.ga K "Lines") (He.fAd K ("Lines", some "__init__")) := He.mkr_ok (c.fact 58 (f := .mkr "Lines") rfl)
  have gWireError : mg "WireError" = some (.ref (He.ga K "WireError")) := He.glo_ok X G (c.fact 35 (f := .glo "WireError") rfl)
  have gBadText : mg "BadText" = some (.ref (He.ga K "BadText")) := He.glo_ok X G (c.fact 36 (f := .glo "BadText") rfl)
  have gBadRun : mg "BadRun" = some (.ref (He.ga K "BadRun")) := He.glo_ok X G (c.fact 37 (f := .glo "BadRun") rfl)
  have gLines : mg "Lines" = some (.ref (He.ga K "Lines")) := He.glo_ok X G (c.fact 38 (f := .glo "Lines") rfl)
  have W : Gw K mg (He.ga K "ANSWER_WORDS") := ⟨He.int_ok X G (c.fact 55 (f := .int "MOST_WORTHS" 4) rfl), He.glo_ok X G (c.fact 39 (f := .glo "ANSWER_WORDS") rfl), ⟨fun H => He.tupB_ok (all_at e2 9 rfl) H, kdB_ok (all_at e2 10 rfl)⟩, He.str_ok X G (c.fact 56 (f := .str "OUTSIDE" "-") rfl)⟩
  have ET : Er K mg "BadText" (He.ga K "BadText") (He.fAd K ("WireError", some "__init__")) := er_of X G gBadText eT e2
  have EW : Er K mg "BadRun" (He.ga K "BadRun") (He.fAd K ("WireError", some "__init__")) := er_of X G gBadRun eW e2
  refine ⟨_, fun s v => FunD.bindsA (ps := ["_law_script"]) F34 (fun _ _ _ _ _ _ us hl => match us, hl with | [_], _ => rfl) s [v] rfl, fun base XB GB => ?_⟩
  have Gneed := ok_need (P := P) (w := w) (mg := mg) (base := base) CLs M39.F ET U35 b35
  have Gwords := ok_words (P := P) (w := w) (mg := mg) (base := base) Bt0 CLs M37.F
  have Gstep := ok_step (P := P) (w := w) (mg := mg) (base := base) CLs M38.F
  have GLi := ok_Lines_init (P := P) (w := w) (mg := mg) (base := base) Bt0 CLs U36 ET U35 b35
  have Gtold := ok_event_told (P := P) (w := w) (mg := mg) (base := base) Bt0 W D15 D16 D3 D4 D8 D6
  have N : En85 P w K mg base (He.ga K "Lines") (He.ga K "BadText") (He.ga K "ANSWER_WORDS") _ _ _ _ _ _ _ _ _ _ := ⟨Bt0, CLs, KLines, gLines, b36, GLi, M37, Gwords, M38, Gstep, M39, Gneed, D15, Gtold⟩
  have Gread := ok_read_run N D10
  have Gisev := ok_is_event (P := P) (w := w) (mg := mg) (base := base) Bt0 W D11 D5 D3 D12 D4 D0 D1 D2
  have Getext := ok_event_text (P := P) (w := w) (mg := mg) (base := base) Bt0 W D13 D14 D7
  have Gshow := ok_show_run (P := P) (w := w) (mg := mg) (base := base) Bt0 (He.free_ok X G (c.fact 52 (f := .free "all") rfl)) EW U35 b35 D9 D11 Gisev D13 Getext
  have Gof := ok_ofB (P := P) (w := w) (mg := mg) (base := base) Bt0 D19 D18
  have Gnm := ok_nm (P := P) (w := w) (mg := mg) (base := base) D20 D19 Gof
  have Gev := ok_ev (P := P) (w := w) (mg := mg) (base := base) Bt0 D21 D19 Gof D20 Gnm D18
  have Gline := ok_line (P := P) (w := w) (mg := mg) (base := base) Bt0 D26
  have Glev := ok_levent (P := P) (w := w) (mg := mg) (base := base) Bt0 D24 D22 D23
  have Glrun := ok_lrun (P := P) (w := w) (mg := mg) (base := base) Bt0 (He.free_ok X G (c.fact 52 (f := .free "all") rfl)) D25 D24 Glev
  have Gevin := ok_evin (P := P) (w := w) (mg := mg) (base := base) Bt0 (He.free_ok X G (c.fact 54 (f := .free "dict") rfl)) D27 D24 Glev
  have Gdue := ok_readdue (P := P) (w := w) (mg := mg) (base := base) Bt0 D29 D27 Gevin
  have Gany := ok_any (P := P) (w := w) (mg := mg) (base := base) Bt0 D30 D19 Gof
  have Gbent := ok_bents (P := P) (w := w) (mg := mg) (base := base) Bt0 D31 D18 D30 Gany
  have Gpage := ok_bent_page (P := P) (w := w) (mg := mg) (base := base) Bt0 D32 D18 D19 Gof
  have GtS := ok_told Bt0 (erC_of e2) gWireError gBadText gBadRun (He.free_ok X G (c.fact 53 (f := .free "ValueError") rfl)) D9.F.kp b9 Gshow (by decide) D28
  have GtR := ok_told Bt0 (erC_of e2) gWireError gBadText gBadRun (He.free_ok X G (c.fact 53 (f := .free "ValueError") rfl)) D10.F.kp b10 Gread (by decide) D28
  have Gright := ok_right Bt0 D33 D18 D19 Gof D21 Gev D26 Gline D9 Gshow D10 Gread D31 Gbent D25 Glrun D28 GtS GtR D32 Gpage D29 Gdue
  have Gbox := ok_box (P := P) (w := w) (mg := mg) (base := base) Bt0 D17
  exact ok_law Bt0 (He.free_ok X G (c.fact 52 (f := .free "all") rfl)) D17 Gbox D33 Gright D34.F
end
end K5
namespace K5
open PySem PySem.Spec PyProof.Rows L2
abbrev R5 : PySem.W.OpenRow := PySem.W.OpenLaw.row PySem.Challenge.rw_truestandins_k85_runs_as_texts
def namesL : List Str := (["_wall", "__name__", "WireError", "BadText", "BadRun", "is_integer", "is_below", "is_answer", "is_name", "is_door", "is_tuple", "Lines", "number", "MOST_WORTHS", "ANSWER_WORDS", "shown_answer", "answer_of", "OUTSIDE", "show_run", "read_run", "is_event", "is_wire", "event_text", "wire_text", "event_told", "wire_told"] : List Str) ++ (["_law_box", "_law_take", "_law_of", "_law_name", "_law_event", "_law_is_name", "_law_whole", "_law_is_event", "_law_is_run", "_law_line", "_law_event_in", "_law_told", "_law_read_due", "_law_any", "_law_bent", "_law_bent_page", "_law_right"] : List Str)
abbrev hk5 : PySem.W.Hook := He.hookX 5 faL fnL [] tfL exB
def ob5 (s : PySem.W.SharedT) : He.AlX := He.obsX 5 faL fnL [] tfL exB (HandSHeadRun.getT s)
theorem ob5_eq (s : PySem.W.SharedT) : ob5 s = hk5.obs s.abs := He.obsX_eq (HandSHeadRun.getT_eq s)
theorem run5 (w : World) : HandSHeadRun.RunEq R5 (PySem.W.view R5.prog [48]) hk5 ob5 6000 namesL w := by
  intro os
  kernel_rfl
end K5
namespace K5
open PySem PySem.Spec PyProof.Rows L2
theorem walk5 {q : Program} {loose : List Str} {XP : (Str → Option Value) → Heap → Prop} {d : DefRec} (hn : (PySem.Challenge.rw_truestandins_k85_runs_as_texts).most = some 63) (hdf : d.params.defaults = []) (hname : d.name = ("law" : Str)) :
    PySem.W.WalkO q loose XP hk5.says (PySem.W.OpenLaw.row PySem.Challenge.rw_truestandins_k85_runs_as_texts).toRowW d [] (fun f vs => PySem.call f vs) := by
  refine Att.attach_callB hn hdf fun w s₀ st mg mb fa o pm cd doc a us ns G Y ho hd hcd hmg arg whole len bits gens => ?_
  obtain ⟨K, KX, c⟩ := Y
  rw [hname] at hmg
  obtain ⟨fd, hb, hF⟩ := all_mk (P := (PySem.Challenge.rw_truestandins_k85_runs_as_texts).prog) (w := w) KX G.T.g hmg c.t.d c.more
  refine law_G (cs := []) (x := "_law_script") (lv := 12) KX G.T.g G.T.b G.T.builtins G.T.nolimit gens (fun p hp => nomatch hp) (fun p hp => nomatch hp) (fun p hp => nomatch hp) G.T.bmain arg whole (Nat.le_trans len (by decide)) ⟨rfl, by decide, by decide⟩ (fun base XB GB _ => hF base XB GB) hb (fun H _ hS => ⟨a, ns, rfl, hS, fun _ => rfl⟩) fun H e s2 z => ?_
  obtain ⟨_, _, _, _, _, _, _, _, _, _, _, _, z⟩ := z
  exact z.elim
end K5
open PySem PySem.W PySem.Calls PyProof.Rows
theorem PySem.Challenge.cw_truestandins_k85_runs_as_texts_holds : PySem.Challenge.rw_truestandins_k85_runs_as_texts.Holds := by
  w_on; o_law
  refine HandSHeadRun.head_any (r := K5.R5) (q := view K5.R5.prog [48]) (H := K5.hk5) (ob := K5.ob5) (M := 6000) (loose := K5.namesL) (d := HandSHeadRun.topDef K5.R5.prog 48) (kwd := []) K5.ob5_eq
    (by kernel_rfl) (fun s => by kernel_rfl) K5.run5 (by kernel_rfl) (by kernel_rfl) (by kernel_rfl) (by rfl) (by first | assumption | decide +kernel) (by decide +kernel) ⟨rfl, rfl, rfl, rfl, rfl, by decide +kernel⟩ ?hw ?hc
  case hw => w_witness2
  case hc => exact K5.walk5 rfl (by kernel_rfl) (by kernel_rfl)
