import PyProof.Rows.All
import Wide.All
import OpenK.AllK
import Wide.FinOn
import HandS.ForMost
import HandS.Wide
import HandS.Steps
import HandS.IsInst
import HandS.StrMore
import HandS.Flow
import HandS.ForExc
import HandS.ExcInit
import HandS.Text
import PyProof.StrLawsChain
import HandS.NoneIn
import KE.KUnpackStar
import HandS.Strs
import HandS.TupAny
import HandS.ListItems
import HandS.Conv
import HandS.JoinGen
import PyProof.GenCompT
import PyProof.WalksPairs
import PyProof.TupleOfGen
import HandS.RaiseMore
import PyProof.StrLawsTight
import HandS.SlotsOwn
import HandS.More
import PyProof.ReprRoads
import PyProof.Rows.RegFStrParts
import HandS.HeadHook4
import HandS.HeadWalk
import HandS.Head2
import PySem.Challenge.RW_truestandins_k01_parts_that_are_read
set_option Elab.async false
set_option linter.all false
set_option maxRecDepth 100000
set_option maxHeartbeats 0
namespace K5
open PySem PySem.Spec PyProof.Rows L2
def topS (i : Nat) : Stmt := PySem.Challenge.pw_truestandins_k01_parts_that_are_read.main.body.getD (i + 1) (.Pass ⟨0, 0, 0, 0⟩)
/-! ### values that leave the heap as it is -/
section
variable {X : Cx} {K : PySem.W.Frag} {σ : L2.St} {H : Hp} {ta tb : TE} {i j : Int} {p : Addr} {xs : List V} {v : V}
theorem val_ixL (ha : Val ta σ H (.ref p)) (hb : Val tb σ H (.int i)) (hS : SqL K H p xs) (h : atI xs i = some v) : Val (tOp (rIxL K) ta tb) σ H v :=
  val_op ha hb fun Q q => ⟨p, xs, i, v, rfl, rfl, hS, h, q⟩
theorem val_i0 {g : Int → Int → Int} (ha : Val ta σ H (.int i)) (hb : Val tb σ H (.int j)) : Val (tOp (rI0 fun i j => .int (g i j)) ta tb) σ H (.int (g i j)) :=
  val_op ha hb fun Q q => ⟨i, j, rfl, rfl, q⟩
theorem val_iC {C : Int → Int → Prop} {g : Int → Int → Int} (ha : Val ta σ H (.int i)) (hb : Val tb σ H (.int j)) (hc : C i j) : Val (tOp (rI C fun i j => .int (g i j)) ta tb) σ H (.int (g i j)) :=
  val_op ha hb fun Q q => ⟨i, j, rfl, rfl, hc, q⟩
def rInt1 : List V → Hp → VK → Prop := fun xs H Q => (∃ i, xs = [.int i] ∧ Q (.int i) H) ∨ ∃ k, xs = [.bl k] ∧ Q (.int (if k then 1 else 0)) H
theorem pe_toInt {e : Expr} {te : TE} {p pos : Pos} (hg : Gl X "int") (hm : X.mg "int" = none) (h : PE X e te)
    (he : starEach (e :: []) X.env = (false, eval e X.env) :: starEach [] X.env := by rfl) (hpl : (backTo pos (starEach [] X.env)).any (·.1) = false := by rfl) : PE X (.Call (.Name "int" p) [e] [] pos) (tCB rInt1 (tCons te tNil)) :=
  pe_callTy call_int1 hg hm PyProof.Rows.boot_int (pa_cons h pa_nil he) (he := he) (hpl := hpl)
theorem val_toInt (h : Val ta σ H (.int i)) : Val (tCB rInt1 (tCons ta tNil)) σ H (.int i) := fun Q q => h _ (.inl ⟨i, rfl, q⟩)
theorem val_toIntB {b : Bool} (h : Val ta σ H (.bl b)) : Val (tCB rInt1 (tCons ta tNil)) σ H (.int (if b then 1 else 0)) := fun Q q => h _ (.inr ⟨b, rfl, q⟩)
end
/-! ### the box of draws -/
def bx (p q n : Int) : List V := [.int p, .int q, .int n]
structure Box (p q n : Int) : Prop where
  p0 : 0 ≤ p
  q0 : 0 ≤ q
  q1 : q < 2305843009213693921
  n0 : 0 ≤ n
  n1 : n ≤ 1000000
abbrev sTake : Stmt := topS 28
theorem scTake : FnScope ["_law_box_here", "_law_many", "_law_digit", "_law_big"] ["_law_box_here", "_law_many"] (defScope sTake) := ⟨rfl, rfl, rfl, by decide +kernel, rfl, by decide +kernel, by decide +kernel⟩
/-- a draw: the box goes on, at most one more is counted -/
def spTake : Sp := fun vs H Q _ => ∃ (b : Addr) (m p q n : Int), vs = [.ref b, .int m] ∧ H b = some (.lst (bx p q n)) ∧ Box p q n ∧ n < 1000000 ∧ 0 < m ∧ m < 1000000 ∧
  ∀ d p' n' : Int, 0 ≤ d → d < m → Box p' q n' → n' ≤ n + 1 → Q (.int d) (upd H b (.lst (bx p' q n')))
section
variable {P : Program} {w : World} {K : PySem.W.Frag} {mg : Str → Option Value} {base : Heap}
theorem ok_take {f : Addr} {fd : FuncData} {CX : CXT} (F : Fun K "_law_take" "_law_take" sTake f fd) (mI : mg "int" = none) : FnOk P w K mg base CX0 1 f fd ["_law_box_here", "_law_many"] spTake := by
  refine F.ok scTake (fun vs H Q E h => ?_) (fun cdv A outer s H vs Q E hr h => ?_)
  · obtain ⟨b, m, p, q, n, rfl, _⟩ := h
    rfl
  · obtain ⟨b, m, p, q, n, rfl, hb, B, hn, m0, m1, k⟩ := h
    refine ⟨_, pss_cons (ps_if (pt_cmpR op_gt (pe_ix ix_list (pv 0) pe_int (fun _ _ => rfl)) pe_int (nomark _))
        (pss_cons (ps_set (i := 2) scTake.nd rfl (.inl rfl) (pe_op op_mod (pe_toInt (by rfl) mI (pe_ix ix_list (pv 0) pe_int (fun _ _ => rfl))) (pv 1)))
        (pss_cons (ps_asg (pe_op op_fdiv (pe_ix ix_list (pv 0) pe_int (fun _ _ => rfl)) (pv 1)) (pg_sub (pv 0) pe_int set_list))
        (pss_one (ps_ret (pv 2))))) pss_nil)
      (pss_cons (ps_asg (pe_op op_add (pe_ix ix_list (pv 0) pe_int (fun _ _ => rfl)) pe_int) (pg_sub (pv 0) pe_int set_list))
      (pss_cons (ps_set (i := 3) scTake.nd rfl (.inl rfl) (pe_op op_mod (pe_toInt (by rfl) mI (pe_op op_mul (pe_op op_add (pe_op op_add (pe_ix ix_list (pv 0) pe_int (fun _ _ => rfl)) (pe_op op_mul (pe_op op_mul pe_int (pe_ix ix_list (pv 0) pe_int (fun _ _ => rfl))) (pe_ix ix_list (pv 0) pe_int (fun _ _ => rfl)))) pe_int) pe_int)) pe_int))
      (pss_cons (ps_set (i := 3) scTake.nd rfl (.inl rfl) (pe_op op_mod (pe_toInt (by rfl) mI (pe_op op_mul (pv 3) (pe_op op_add (pe_op op_mod (pe_toInt (by rfl) mI (pv 3)) pe_int) (pe_op op_mul pe_int (pe_ix ix_list (pv 0) pe_int (fun _ _ => rfl)))))) pe_int))
      (pss_one (ps_ret (pe_op op_mod (pe_toInt (by rfl) mI (pe_op op_add (pe_op op_fdiv (pv 3) pe_int) (pe_op op_fdiv (pv 3) pe_int))) (pv 1))))))), ?_⟩
    have hS : SqL K H b (bx p q n) := SqL.of hb
    refine (val_ixL (val_var rfl) val_c hS (atI_nat (j := 0) rfl)) _ ?_
    refine ⟨_, _, rfl, rfl, _, rfl, ite2 (fun e => ?_) (fun e => ?_)⟩
    · refine (val_iC (val_toInt (val_ixL (val_var rfl) val_c hS (atI_nat (j := 0) rfl))) (val_var rfl) m0) _ ?_
      refine (val_iC (val_ixL (val_var rfl) val_c hS (atI_nat (j := 0) rfl)) (val_var rfl) ⟨m0, by omega⟩) _ ?_
      refine ⟨_, rfl, b, _, 0, 0, rfl, rfl, hb, rfl, ?_⟩
      refine ⟨_, rfl, ?_⟩
      have hp : 0 < p := of_decide_eq_true e
      exact k _ _ _ (Int.emod_nonneg _ (by omega)) (Int.emod_lt_of_pos _ m0) ⟨Int.ediv_nonneg B.p0 (by omega), B.q0, B.q1, B.n0, B.n1⟩ (by omega)
    · refine (val_i0 (val_ixL (val_var rfl) val_c hS (atI_nat (j := 2) rfl)) val_c) _ ?_
      refine ⟨_, rfl, b, _, 2, 2, rfl, rfl, hb, rfl, ?_⟩
      have h1 : (upd H b (.lst (bx p q (n + 1)))) b = some (.lst (bx p q (n + 1))) := upd_same
      have hS1 : SqL K (upd H b (.lst (bx p q (n + 1)))) b (bx p q (n + 1)) := SqL.of h1
      refine (val_iC (val_toInt (val_iC (val_i0 (val_i0 (val_ixL (val_var rfl) val_c hS1 (atI_nat (j := 1) rfl)) (val_iC (val_iC val_c (val_ixL (val_var rfl) val_c hS1 (atI_nat (j := 2) rfl)) ?_) (val_ixL (val_var rfl) val_c hS1 (atI_nat (j := 2) rfl)) ?_)) val_c) val_c ?_)) val_c ?_) _ ?_
      · exact .inl ⟨by decide, by decide⟩
      · exact .inr ⟨by have := B.n0; omega, by omega⟩
      · exact .inr ⟨by decide, by decide⟩
      · show (0 : Int) < 2305843009213693921
        decide
      generalize hz : (q + 65543 * (n + 1) * (n + 1) + 41) * 48271 % 2305843009213693921 = z
      have z0 : 0 ≤ z := by rw [← hz]; exact Int.emod_nonneg _ (by decide)
      have z1 : z < 2305843009213693921 := by rw [← hz]; exact Int.emod_lt_of_pos _ (by decide)
      refine (val_iC (val_toInt (val_iC (val_var rfl) (val_i0 (val_iC (val_toInt (val_var rfl)) val_c ?_) (val_iC val_c (val_ixL (val_var rfl) val_c hS1 (atI_nat (j := 2) rfl)) ?_)) ?_)) val_c ?_) _ ?_
      · show (0 : Int) < 1000003
        decide
      · exact .inl ⟨by decide, by decide⟩
      · exact .inl ⟨by omega, by omega⟩
      · show (0 : Int) < 2305843009213693907
        decide
      refine (val_iC (val_toInt (val_i0 (val_iC (val_var rfl) val_c ⟨by decide, by decide⟩) (val_iC (val_var rfl) val_c ⟨by decide, by decide⟩))) (val_var rfl) m0) _ ?_
      exact k _ _ _ (Int.emod_nonneg _ (by omega)) (Int.emod_lt_of_pos _ m0) ⟨B.p0, B.q0, B.q1, by have := B.n0; omega, by omega⟩ (by omega)
end
end K5
namespace K5
open PySem PySem.Spec PyProof.Rows L2
/-- the built-ins' names still are the built-ins' -/
structure Bt (mg : Str → Option Value) : Prop where
  m_int : mg "int" = none
  m_len : mg "len" = none
  m_abs : mg "abs" = none
  m_max : mg "max" = none
  m_min : mg "min" = none
  m_list : mg "list" = none
  m_str : mg "str" = none
  m_bool : mg "bool" = none
  m_range : mg "range" = none
  m_isinstance : mg "isinstance" = none
  m_tuple : mg "tuple" = none
  m_repr : mg "repr" = none
/-- a def of the top -/
structure Df (K : PySem.W.Frag) (mg : Str → Option Value) (x : Str) (st : Stmt) (f : Addr) (fd : FuncData) (ps : List Str) : Prop where
  F : Fun K x x st f fd
  g : mg x = some (.ref f)
  b : Binds K fd ps []
/-- a method -/
structure Mf (K : PySem.W.Frag) (C : Addr) (x qual : Str) (st : Stmt) (f : Addr) (fd : FuncData) (ps : List Str) : Prop where
  F : Fun K x qual st f fd
  m : Meth K C x f
  b : Binds K fd ps []
/-! ### heaps -/
theorem same_upd {H : Hp} {p : Addr} {o : HO} (h : H p = none) : Same H (upd H p o) := fun b x e => by
  rw [upd_ne (ne_of_none e h)]
  exact e
/-- all that was tracked is as it was, but the list at b -/
def SameBut (b : Addr) (H H' : Hp) : Prop := ∀ a o, a ≠ b → H a = some o → H' a = some o
theorem SameBut.of_same {b : Addr} {H H' : Hp} (e : Same H H') : SameBut b H H' := fun a o _ h => e a o h
theorem SameBut.trans {b : Addr} {H H1 H2 : Hp} (x : SameBut b H H1) (y : SameBut b H1 H2) : SameBut b H H2 := fun a o n h => y a o n (x a o n h)
theorem SameBut.upd (b : Addr) (H : Hp) (o : HO) : SameBut b H (upd H b o) := fun a u n h => by
  rw [upd_ne n]
  exact h
/-! ### numbers -/
def CPowB (i j : Int) : Prop := 0 ≤ j ∧ (Builtin.Int.intBits i : Int) * j ≤ 2 ^ 27
theorem op_powB {X : Cx} : OpR X (binaryOp .Pow) (rI CPowB fun i j => .int (i ^ j.toNat)) := opI fun _ _ _ _ _ _ _ hc q => pow_int hc.1 hc.2 q
section
variable {X : Cx} {K : PySem.W.Frag} {σ : L2.St} {H : Hp} {ta tb : TE} {i j : Int} {p : Addr} {xs : List V} {v : V}
theorem val_i0b {g : Int → Int → Bool} (ha : Val ta σ H (.int i)) (hb : Val tb σ H (.int j)) : Val (tOp (rI0 fun i j => .bl (g i j)) ta tb) σ H (.bl (g i j)) :=
  val_op ha hb fun Q q => ⟨i, j, rfl, rfl, q⟩
def rAbs : List V → Hp → VK → Prop := fun xs H Q => ∃ i, xs = [.int i] ∧ Q (.int (if i < 0 then -i else i)) H
theorem val_abs (h : Val ta σ H (.int i)) : Val (tCB rAbs (tCons ta tNil)) σ H (.int (if i < 0 then -i else i)) := fun Q q => h _ ⟨i, rfl, q⟩
def rLenSq (K : PySem.W.Frag) : List V → Hp → VK → Prop := fun xs H Q => ∃ p ys, xs = [.ref p] ∧ (SqL K H p ys ∨ SqT K H p ys) ∧ Q (.int ys.length) H
theorem val_lenL (h : Val ta σ H (.ref p)) (hS : SqL K H p xs) : Val (tCB (rLenSq K) (tCons ta tNil)) σ H (.int xs.length) := fun Q q => h _ ⟨p, xs, rfl, .inl hS, q⟩
end
theorem b01 (b : Bool) : -(2 ^ 64) < (if b = true then (1 : Int) else 0) ∧ (if b = true then (1 : Int) else 0) < 2 ^ 64 := by cases b <;> exact ⟨by decide, by decide⟩
theorem b0 (b : Bool) : 0 ≤ (if b = true then (1 : Int) else 0) := by cases b <;> decide
theorem step_int {te : TE} {σ : L2.St} {H : Hp} {Q : VK} (h : ∃ z : Int, Val te σ H (.int z)) (k : ∀ z : Int, Q (.int z) H) : te σ H Q := by
  obtain ⟨z, hz⟩ := h
  exact hz Q (k z)
/-! ### a fresh box -/
abbrev s__law_box : Stmt := topS 27
theorem sc__law_box : FnScope ["_law_script", "_law_k", "_law_first", "_law_own"] ["_law_script", "_law_k"] (defScope s__law_box) := ⟨rfl, rfl, rfl, by decide +kernel, rfl, by decide +kernel, by decide +kernel⟩
def spBox (K : PySem.W.Frag) : Sp := fun vs H Q _ => ∃ (a : Addr) (ns : List Int) (k : Int), vs = [.ref a, .int k] ∧ SqL K H a (ns.map V.int) ∧ 0 ≤ k ∧ k < 100 ∧
  ∀ (b : Addr) (p q : Int), H b = none → Box p q 0 → Q (.ref b) (upd H b (.lst (bx p q 0)))
section
variable {P : Program} {w : World} {K : PySem.W.Frag} {mg : Str → Option Value} {base : Heap}
theorem ok_box {f : Addr} {fd : FuncData} (B : Bt mg) (D : Df K mg "_law_box" s__law_box f fd ["_law_script", "_law_k"]) : FnOk P w K mg base CX0 1 f fd ["_law_script", "_law_k"] (spBox K) := by
  refine D.F.ok sc__law_box (fun vs H Q E h => ?_) (fun cdv A outer s H vs Q E hr h => ?_)
  · obtain ⟨a, ns, k, rfl, _⟩ := h
    rfl
  · obtain ⟨a, ns, k, rfl, hS, k0, k1, kk⟩ := h
    have S := sc__law_box
    refine ⟨_, (pss_cons (ps_set (i := 2) S.nd rfl (.inl rfl) (pe_ifExp (pt_cmpR op_lt (pv 1) (pe_callB call_len_seq (by rfl) B.m_len PySem.boot_len (pa_cons (pv 0) pa_nil)) (nomark _)) (pe_ix ix_list (pv 0) (pv 1) (fun _ _ => rfl)) (pe_op op_add (pe_op op_mul pe_int (pv 1)) pe_int)))
      (pss_cons (ps_set (i := 3) S.nd rfl (.inl rfl) (pe_op op_mul (pe_op op_mod (pe_toInt (by rfl) B.m_int (pe_callB call_abs (by rfl) B.m_abs PyProof.Rows.boot_abs (pa_cons (pv 2) pa_nil))) (pe_op op_powB (pe_op op_pow pe_int pe_int) pe_int)) (pe_toInt (by rfl) B.m_int (pe_cmpR op_ge (pe_callB call_abs (by rfl) B.m_abs PyProof.Rows.boot_abs (pa_cons (pv 2) pa_nil)) (pe_op op_pow pe_int pe_int) (nomark _)))))
      (pss_one (ps_ret (pe_lst (pa_cons (pv 3) (pa_cons (pe_op op_mod (pe_toInt (by rfl) B.m_int (pe_op op_add (pe_op op_add (pe_op op_mul (pe_op op_mod (pe_toInt (by rfl) B.m_int (pv 2)) pe_int) pe_int) (pe_op op_mul (pe_op op_mul pe_int (pv 1)) (pv 1))) pe_int)) pe_int) (pa_cons pe_int pa_nil)))))))), ?_⟩
    show tIf _ _ _ _ _ _
    refine step_int ?_ fun z => ?_
    · by_cases hk : k < (ns.map V.int).length
      · have hk' : k.toNat < ns.length := by
          rw [List.length_map] at hk
          omega
        refine ⟨ns[k.toNat], fun Q q => ?_⟩
        refine (val_i0b (val_var rfl) (val_lenL (val_var rfl) hS)) _ ⟨_, rfl, ?_⟩
        rw [decide_eq_true hk]
        refine iteT ((val_ixL (val_var rfl) (val_var rfl) hS (at_of (j := k.toNat) (by omega) ?_)) _ q)
        rw [List.getElem?_map, List.getElem?_eq_getElem hk']
        rfl
      · refine ⟨37 * k + 11, fun Q q => ?_⟩
        refine (val_i0b (val_var rfl) (val_lenL (val_var rfl) hS)) _ ⟨_, rfl, ?_⟩
        rw [decide_eq_false hk]
        exact iteF ((val_i0 (val_iC val_c (val_var rfl) (.inl ⟨by decide, by decide⟩)) val_c) _ q)
    · refine (val_iC (val_iC (val_toInt (val_abs (val_var rfl))) (val_iC (val_iC val_c val_c ⟨by decide, by decide, by decide⟩) val_c ⟨by decide, by decide +kernel⟩) ?_) (val_toIntB (val_i0b (val_abs (val_var rfl)) (val_iC val_c val_c ⟨by decide, by decide, by decide⟩))) ?_) _ ?_
      · show (0 : Int) < (10 ^ (60 : Int).toNat) ^ (4 : Int).toNat
        decide +kernel
      · exact .inr (b01 _)
      generalize hp : (if z < 0 then -z else z) % (10 ^ (60 : Int).toNat) ^ (4 : Int).toNat * (if decide (10 ^ (18 : Int).toNat ≤ if z < 0 then -z else z) = true then 1 else 0) = p
      have p0 : 0 ≤ p := by
        rw [← hp]
        exact Int.mul_nonneg (Int.emod_nonneg _ (by decide +kernel)) (b0 _)
      refine ⟨_, rfl, ?_⟩
      have m1 : 0 ≤ z % 2305843009213693951 := Int.emod_nonneg _ (by decide)
      have m2 : z % 2305843009213693951 < 2305843009213693951 := Int.emod_lt_of_pos _ (by decide)
      refine (val_iC (val_toInt (val_i0 (val_i0 (val_iC (val_iC (val_toInt (val_var rfl)) val_c ?_) val_c ?_) (val_iC (val_iC val_c (val_var rfl) ?_) (val_var rfl) ?_)) val_c)) val_c ?_) _ ?_
      · show (0 : Int) < 2305843009213693951
        decide
      · exact .inr ⟨by decide, by decide⟩
      · exact .inl ⟨by decide, by decide⟩
      · exact .inr ⟨by omega, by omega⟩
      · show (0 : Int) < 2305843009213693921
        decide
      refine ⟨by show 3 ≤ sizeLine; decide, fun b hb => ?_⟩
      exact kk b _ _ hb ⟨p0, Int.emod_nonneg _ (by decide), Int.emod_lt_of_pos _ (by decide), by decide, by decide⟩
end
end K5
namespace K5
open PySem PySem.Spec PyProof.Rows L2
abbrev s__law_some : Stmt := topS 30
theorem sc__law_some : FnScope ["_law_box_here", "_law_items", "_law_many", "_law_left", "_law_found", "_law_turn"] ["_law_box_here", "_law_items", "_law_many"] (defScope s__law_some) := ⟨rfl, rfl, rfl, by decide +kernel, rfl, by decide +kernel, by decide +kernel⟩
/-- so many of some items, in a drawn sequence: a new list; the box goes on -/
def spSome (K : PySem.W.Frag) : Sp := fun vs H Q _ => ∃ (b l : Addr) (xs : List V) (m : Nat) (p q n : Int), vs = [.ref b, .ref l, .int m] ∧ H b = some (.lst (bx p q n)) ∧ Box p q n ∧ SqL K H l xs ∧ m ≤ xs.length ∧ xs.length ≤ 1000 ∧ n + m < 1000000 ∧
  ∀ (H' : Hp) (r : Addr) (ys rest : List V) (p' n' : Int), SameBut b H H' → H r = none → H' r = some (.lst ys) → H' b = some (.lst (bx p' q n')) → Box p' q n' → n' ≤ n + m → ys.length = m → (ys ++ rest).Perm xs → Q (.ref r) H'
theorem seqIndex_in {n : Nat} {d : Int} (h0 : 0 ≤ d) (h1 : d < n) : seqIndex? d n = some d.toNat := by
  unfold seqIndex?
  simp only []
  split <;> simp_all <;> omega
theorem erase_perm {α : Type} : ∀ {l : List α} {j : Nat} (h : j < l.length), (l[j] :: l.eraseIdx j).Perm l
  | _ :: _, 0, _ => List.Perm.refl _
  | a :: l, j + 1, h => by
    have hj : j < l.length := Nat.lt_of_succ_lt_succ h
    have ih := erase_perm (l := l) (j := j) hj
    show (l[j] :: a :: l.eraseIdx j).Perm (a :: l)
    exact (List.Perm.swap _ _ _).trans (List.Perm.cons a ih)
theorem perm_pick {ys xs l : List V} {j : Nat} {y : V} (h : (ys ++ l).Perm xs) (hj : l[j]? = some y) : (ys ++ [y] ++ l.eraseIdx j).Perm xs := by
  refine List.Perm.trans ?_ h
  rw [List.append_assoc]
  refine List.Perm.append_left ys ?_
  show (y :: l.eraseIdx j).Perm l
  obtain ⟨hl, e⟩ := List.getElem?_eq_some_iff.mp hj
  rw [← e]
  exact erase_perm hl
section
variable {P : Program} {w : World} {K : PySem.W.Frag} {mg : Str → Option Value} {base : Heap}
theorem ok_some {f fT : Addr} {fd fdT : FuncData} (B : Bt mg) (D : Df K mg "_law_some" s__law_some f fd ["_law_box_here", "_law_items", "_law_many"]) (D__law_take : Df K mg "_law_take" sTake fT fdT ["_law_box_here", "_law_many"]) :
    FnOk P w K mg base CX0 2 f fd ["_law_box_here", "_law_items", "_law_many"] (spSome K) := by
  have G__law_take : FnOk P w K mg base CX0 1 fT fdT ["_law_box_here", "_law_many"] spTake := ok_take (CX := CX0) D__law_take.F B.m_int
  refine D.F.ok sc__law_some (fun vs H Q E h => ?_) (fun cdv A outer s H vs Q E hr h => ?_)
  · obtain ⟨b, l, xs, m, p, q, n, rfl, _⟩ := h
    rfl
  · obtain ⟨b, l, xs, m, p, q, n, rfl, hb, Bx, hS, hm, hx, hn, k⟩ := h
    have S := sc__law_some
    refine ⟨_, (pss_cons (ps_par (i := 3) (j := 4) (by rfl) S.nd rfl rfl (by decide) rfl rfl (pa_cons (pe_callTy call_list_of (by rfl) B.m_list PyProof.Rows.boot_list (pa_cons (pv 1) pa_nil)) (pa_cons (pe_lst pa_nil) pa_nil)) (by rfl))
      (pss_cons (ps_for PassesOwn.never rfl (pi_range1 (by rfl) B.m_range (pa_cons (pv 2) pa_nil)) (pg_name (i := 5) S.nd rfl (.inl rfl))
        (pss_one (ps_expr (pe_bm PySem.F.plainAttrs_list PySem.F.slot_list_append PySem.F.type_list_append mt_append (pv 4) (pa_cons (pe_bm PySem.F.plainAttrs_list PySem.F.slot_list_pop PySem.F.type_list_pop mt_popAt (pv 3) (pa_cons (pe_call G__law_take (hr.mono (by decide)) (by rfl) D__law_take.g D__law_take.F.kp D__law_take.b .nil pass0 (pa_cons (pv 0) (pa_cons (pe_callB call_len_seq (by rfl) B.m_len PySem.boot_len (pa_cons (pv 3) pa_nil)) pa_nil))) pa_nil)) pa_nil)))))
      (pss_one (ps_ret (pv 4))))), ?_⟩
    -- left, found
    refine ⟨.ref l, rfl, l, xs, rfl, .inl hS, fun a na => ?_⟩
    refine ⟨Nat.zero_le _, fun r nr => ?_⟩
    have nra : r ≠ a := fun e => by rw [e, upd_same] at nr; cases nr
    have nba : b ≠ a := ne_of_none hb na
    have s1 : Same H (upd H a (.lst xs)) := same_upd na
    have s2 : Same (upd H a (.lst xs)) (upd (upd H a (.lst xs)) r (.lst [])) := same_upd nr
    have nr0 : H r = none := s1.free nr
    refine ⟨_, _, rfl, ?_⟩
    refine ⟨.int m, rfl, m, rfl, by omega, by omega, ?_⟩
    show ∃ W : Nat → Nat → L2.St → Hp → Prop, _
    refine for_range (lo := 0) (n := (m : Int).toNat) (fun i σ H' => ∃ (ys left : List V) (p' n' : Int) (t : Option V), σ = [some (.ref b), some (.ref l), some (.int m), some (.ref a), some (.ref r), t] ∧
        SameBut b H H' ∧ H' b = some (.lst (bx p' q n')) ∧ Box p' q n' ∧ n' ≤ n + i ∧ H' a = some (.lst left) ∧ H' r = some (.lst ys) ∧ ys.length = i ∧ (ys ++ left).Perm xs) ?_ ?_ ?_
    · refine ⟨[], xs, p, n, none, rfl, (SameBut.of_same s1).trans (SameBut.of_same s2), s2 _ _ (s1 _ _ hb), Bx, by omega, ?_, upd_same, rfl, List.Perm.refl _⟩
      rw [upd_ne nra.symm, upd_same]
    · rintro i σ H' hi ⟨ys, left, p', n', t, rfl, sb, hb', Bx', hn', ha', hr', hy, hp⟩
      have hlen : ys.length + left.length = xs.length := by
        have z := hp.length_eq
        rw [List.length_append] at z
        exact z
      have hi' : i < m := by omega
      refine ⟨.ref r, rfl, .inl ⟨rfl, _, SqL.of hr'⟩, .ref a, rfl, .inl ⟨rfl, _, SqL.of ha'⟩, ?_⟩
      refine ⟨.ref b, rfl, .ref a, rfl, a, left, rfl, .inl (SqL.of ha'), ?_⟩
      refine ⟨b, left.length, p', q, n', rfl, hb', Bx', by omega, by omega, by omega, fun d p'' n'' d0 d1 B2 hn2 => ?_⟩
      have nab : a ≠ b := fun e => nba e.symm
      have nrb : r ≠ b := fun e => by rw [e, hb] at nr0; cases nr0
      have ha2 : (upd H' b (.lst (bx p'' q n''))) a = some (.lst left) := by rw [upd_ne nab]; exact ha'
      have hj : d.toNat < left.length := by omega
      refine ⟨a, left, d, d.toNat, left[d.toNat], rfl, rfl, ha2, by omega, by omega, seqIndex_in d0 (by omega), List.getElem?_eq_getElem hj, ?_⟩
      refine ⟨r, ys, left[d.toNat], rfl, rfl, ?_, ?_, ?_⟩
      · rw [upd_ne nra, upd_ne nrb]
        exact hr'
      · exact small1000 (by omega)
      · refine ⟨ys ++ [left[d.toNat]], left.eraseIdx d.toNat, p'', n'', _, rfl, ?_, ?_, B2, by omega, ?_, upd_same, ?_, perm_pick hp (List.getElem?_eq_getElem hj)⟩
        · intro c o nc hc
          have n1 : c ≠ r := ne_of_none hc nr0
          have n2 : c ≠ a := ne_of_none hc na
          rw [upd_ne n1, upd_ne n2, upd_ne nc]
          exact sb c o nc hc
        · rw [upd_ne nrb.symm, upd_ne nba, upd_same]
        · rw [upd_ne nra.symm, upd_same]
        · rw [List.length_append, hy]
          rfl
    · rintro σ H' ⟨ys, left, p', n', t, rfl, sb, hb', Bx', hn', ha', hr', hy, hp⟩
      exact ⟨.ref r, rfl, k H' r ys left p' n' sb nr0 hr' hb' Bx' (by omega) (by omega) hp⟩
end
end K5
namespace K5
open PySem PySem.Spec PyProof.Rows L2
/-! ### kinds of values -/
inductive Kd (H : Hp) : V → String → Prop
  | non : Kd H .non "NoneType"
  | bl (b : Bool) : Kd H (.bl b) "bool"
  | int (i : Int) : Kd H (.int i) "int"
  | str (x : Str) : Kd H (.str x) "str"
  | lst {a : Addr} {xs : List V} (h : H a = some (.lst xs)) : Kd H (.ref a) "list"
  | tup {a : Addr} {xs : List V} (h : H a = some (.tup xs)) : Kd H (.ref a) "tuple"
  | dK {a : Addr} {kvs : List (Key × V)} (h : H a = some (.dK kvs)) : Kd H (.ref a) "dict"
theorem Kd.ty {K : PySem.W.Frag} {H : Hp} {x : V} {T : String} (h : Kd H x T) : TyX K H x (.type T) := by
  cases h with
  | non => exact .base .non
  | bl b => exact .base (.bl b)
  | int i => exact .base (.int i)
  | str x => exact .base (.str x)
  | lst h => exact .base (.lst h)
  | tup h => exact .base (.tup h)
  | dK h => exact .base (.dK h)
theorem Kd.mono {H H' : Hp} {x : V} {T : String} (h : Kd H x T) (e : Same H H') : Kd H' x T := by
  cases h with
  | non => exact .non
  | bl b => exact .bl b
  | int i => exact .int i
  | str x => exact .str x
  | lst h => exact .lst (e _ _ h)
  | tup h => exact .tup (e _ _ h)
  | dK h => exact .dK (e _ _ h)
def isI : V → Bool
  | .int _ => true
  | _ => false
def isIB : V → Bool
  | .int _ => true
  | .bl _ => true
  | _ => false
def isB : V → Bool
  | .bl _ => true
  | _ => false
def isS : V → Bool
  | .str _ => true
  | _ => false
theorem Kd.int_ {H : Hp} {x : V} {T : String} (h : Kd H x T) : kitB T "int" = some (isIB x) := by cases h <;> (simp only [isIB, isB, isS]; decide +kernel)
theorem Kd.bool_ {H : Hp} {x : V} {T : String} (h : Kd H x T) : kitB T "bool" = some (isB x) := by cases h <;> (simp only [isIB, isB, isS]; decide +kernel)
theorem Kd.str_ {H : Hp} {x : V} {T : String} (h : Kd H x T) : kitB T "str" = some (isS x) := by cases h <;> (simp only [isIB, isB, isS]; decide +kernel)
section
variable {X : Cx} {K : PySem.W.Frag} {σ : L2.St} {H : Hp} {ta tb tc : TE} {i j k : Int} {p : Addr} {xs : List V} {v x : V} {a b : Bool}
theorem val_isi {T C : String} (ha : Val ta σ H x) (hx : Kd H x T) (h : kitB T C = some b) : Val (tCB (rIsi K) (tCons ta (tCons (tC (.ty C)) tNil))) σ H (.bl b) := fun Q q =>
  ha _ ⟨x, .ty C, .type T, .type C, b, rfl, .ty C, hx.ty, kit_ty h, q⟩
theorem val_andV (ha : Val ta σ H (.bl a)) (hb : a = true → Val tb σ H (.bl b)) : Val (tAndV ta tb) σ H (.bl (a && b)) := fun Q q => ha _ ⟨a, rfl, by
  cases a with
  | true => exact iteT (hb rfl _ q)
  | false => exact iteF q⟩
theorem val_notV (ha : Val ta σ H (.bl a)) : Val (tNotV ta) σ H (.bl (!a)) := fun Q q => ha _ ⟨a, rfl, q⟩
theorem val_chain {g1 g2 : Int → Int → Bool} (ha : Val ta σ H (.int i)) (hb : Val tb σ H (.int j)) (hc : Val tc σ H (.int k)) :
    Val (tChain (rI0 fun i j => .bl (g1 i j)) (rI0 fun i j => .bl (g2 i j)) ta tb tc) σ H (.bl (g1 i j && g2 j k)) := fun Q q =>
  ha _ (hb _ ⟨i, j, rfl, rfl, g1 i j, rfl, by
    cases e : g1 i j with
    | true =>
      rw [e] at q
      exact iteT (hc _ ⟨j, k, rfl, rfl, q⟩)
    | false =>
      rw [e] at q
      exact iteF q⟩)
theorem pe_tyN {n : String} {y : Str} {pos : Pos} (hv : bootBuiltins y = some (.type n)) (hg : Gl X y) (hm : X.mg y = none) (hn : y ≠ "__name__" := by decide) (hdb : (y == ("__debug__" : Str)) = false := by decide) : PE X (.Name y pos) (tC (.ty n)) := pe_bltn hg hm hv rfl (hn := hn) (hd := hdb)
theorem bt_int : bootBuiltins "int" = some (.type "int") := by decide +kernel
theorem bt_bool : bootBuiltins "bool" = some (.type "bool") := by decide +kernel
theorem bt_str : bootBuiltins "str" = some (.type "str") := by decide +kernel
theorem val_call {sp : Sp} {E : XK} {t : TA} {vs : List V} (h : ∀ Q : List V → Hp → Prop, Q vs H → t σ H Q) (hs : ∀ Q : VK, Q v H → sp vs H Q E) : Val (tCall sp [] E t) σ H v := fun Q q =>
  h _ (by rw [List.append_nil]; exact hs Q q)
theorem va_nil : ∀ Q : List V → Hp → Prop, Q [] H → tNil σ H Q := fun _ q => q
theorem va_cons {t : TA} {vs : List V} (ha : Val ta σ H v) (ht : ∀ Q : List V → Hp → Prop, Q vs H → t σ H Q) : ∀ Q : List V → Hp → Prop, Q (v :: vs) H → tCons ta t σ H Q := fun Q q => ha _ (ht _ q)
def rLenS : List V → Hp → VK → Prop := fun xs H Q => ∃ z, xs = [.str z] ∧ z.length ≤ sizeLine ∧ Q (.int z.length) H
theorem val_lenS {z : Str} (h : Val ta σ H (.str z)) (hz : z.length ≤ sizeLine) : Val (tCB rLenS (tCons ta tNil)) σ H (.int z.length) := fun Q q => h _ ⟨z, rfl, hz, q⟩
theorem val_sb0 {g : Str → Bool} {z : Str} (h : Val ta σ H (.str z)) : Val (tBM0 K "str" (fun x xs H Q => ∃ a, x = .str a ∧ xs = [] ∧ True ∧ Q (.bl (g a)) H) ta) σ H (.bl (g z)) := fun Q q =>
  h _ ⟨rfl, z, rfl, rfl, True.intro, q⟩
end
/-! ### forms -/
def worthsOk : V → Bool
  | .int i => decide (2 ≤ i) && decide (i ≤ 4)
  | _ => false
def isName (z : Str) : Bool := (decide ((1 : Int) ≤ (z.length : Int)) && decide ((z.length : Int) ≤ 8)) && (Txt.isascii z && (Txt.isalpha z && Txt.islower z))
def isDoor (z : Str) : Bool := isName z && !decide (V.str z = V.str "any")
def spIsInt : Sp := fun vs H Q _ => ∃ (x : V) (T : String), vs = [x] ∧ Kd H x T ∧ Q (.bl (isI x)) H
def spIsWorths : Sp := fun vs H Q _ => ∃ (x : V) (T : String), vs = [x] ∧ Kd H x T ∧ Q (.bl (worthsOk x)) H
def spIsName : Sp := fun vs H Q _ => ∃ z : Str, vs = [.str z] ∧ z.length ≤ 10000000 ∧ Q (.bl (isName z)) H
def spIsDoor : Sp := fun vs H Q _ => ∃ z : Str, vs = [.str z] ∧ z.length ≤ 10000000 ∧ Q (.bl (isDoor z)) H
abbrev s_is_integer : Stmt := topS 5
theorem sc_is_integer : FnScope ["value"] ["value"] (defScope s_is_integer) := ⟨rfl, rfl, rfl, by decide +kernel, rfl, by decide +kernel, by decide +kernel⟩
abbrev s_is_worths : Stmt := topS 6
theorem sc_is_worths : FnScope ["value"] ["value"] (defScope s_is_worths) := ⟨rfl, rfl, rfl, by decide +kernel, rfl, by decide +kernel, by decide +kernel⟩
abbrev s_is_name : Stmt := topS 7
theorem sc_is_name : FnScope ["value"] ["value"] (defScope s_is_name) := ⟨rfl, rfl, rfl, by decide +kernel, rfl, by decide +kernel, by decide +kernel⟩
abbrev s_is_door : Stmt := topS 8
theorem sc_is_door : FnScope ["value"] ["value"] (defScope s_is_door) := ⟨rfl, rfl, rfl, by decide +kernel, rfl, by decide +kernel, by decide +kernel⟩
theorem big_size {n : Nat} (h : n ≤ 10000000) : n ≤ sizeLine := Nat.le_trans h (by decide)
section
variable {P : Program} {w : World} {K : PySem.W.Frag} {mg : Str → Option Value} {base : Heap}
theorem ok_is_integer {f : Addr} {fd : FuncData} (B : Bt mg) (D : Df K mg "is_integer" s_is_integer f fd ["value"]) : FnOk P w K mg base CX0 1 f fd ["value"] spIsInt := by
  refine D.F.ok sc_is_integer (fun vs H Q E h => ?_) (fun cdv A outer s H vs Q E hr h => ?_)
  · obtain ⟨x, T, rfl, _⟩ := h
    rfl
  · obtain ⟨x, T, rfl, hx, k⟩ := h
    have S := sc_is_integer
    refine ⟨_, (pss_one (ps_ret (pe_and (pe_callB call_isi (by rfl) B.m_isinstance PyProof.Rows.boot_isinstance (pa_cons (pv 0) (pa_cons (pe_tyN bt_int (by rfl) B.m_int) pa_nil))) (pe_one (pe_not (pe_callB call_isi (by rfl) B.m_isinstance PyProof.Rows.boot_isinstance (pa_cons (pv 0) (pa_cons (pe_tyN bt_bool (by rfl) B.m_bool) pa_nil)))))))), ?_⟩
    refine (val_andV (val_isi (val_var rfl) hx hx.int_) fun _ => val_notV (val_isi (val_var rfl) hx hx.bool_)) _ ?_
    have e : (isIB x && !isB x) = isI x := by cases x <;> rfl
    rw [e]
    exact k
theorem ok_is_worths {f fI : Addr} {fd fdI : FuncData} (B : Bt mg) (D : Df K mg "is_worths" s_is_worths f fd ["value"]) (D_is_integer : Df K mg "is_integer" s_is_integer fI fdI ["value"]) : FnOk P w K mg base CX0 2 f fd ["value"] spIsWorths := by
  have G_is_integer : FnOk P w K mg base CX0 1 fI fdI ["value"] spIsInt := ok_is_integer B D_is_integer
  refine D.F.ok sc_is_worths (fun vs H Q E h => ?_) (fun cdv A outer s H vs Q E hr h => ?_)
  · obtain ⟨x, T, rfl, _⟩ := h
    rfl
  · obtain ⟨x, T, rfl, hx, k⟩ := h
    have S := sc_is_worths
    refine ⟨_, (pss_one (ps_ret (pe_and (pe_call G_is_integer (hr.mono (by decide)) (by rfl) D_is_integer.g D_is_integer.F.kp D_is_integer.b .nil pass0 (pa_cons (pv 0) pa_nil)) (pe_one (pe_chain op_le op_le pe_int (pv 0) pe_int))))), ?_⟩
    refine (val_call (va_cons (val_var rfl) va_nil) fun Q q => ⟨x, T, rfl, hx, q⟩) _ ⟨_, rfl, ?_⟩
    cases hx with
    | int i => exact iteT ((val_chain val_c (val_var rfl) val_c) _ k)
    | _ => exact iteF k
theorem ok_is_name {f : Addr} {fd : FuncData} (B : Bt mg) (D : Df K mg "is_name" s_is_name f fd ["value"]) : FnOk P w K mg base CX0 1 f fd ["value"] spIsName := by
  refine D.F.ok sc_is_name (fun vs H Q E h => ?_) (fun cdv A outer s H vs Q E hr h => ?_)
  · obtain ⟨z, rfl, _⟩ := h
    rfl
  · obtain ⟨z, rfl, hz, k⟩ := h
    have S := sc_is_name
    refine ⟨_, (pss_cons (ps_if (pt_not (pt_val (pe_callB call_isi (by rfl) B.m_isinstance PyProof.Rows.boot_isinstance (pa_cons (pv 0) (pa_cons (pe_tyN bt_str (by rfl) B.m_str) pa_nil)))))
        (pss_one (ps_ret pe_bl))
        pss_nil)
      (pss_one (ps_ret (pe_and (pe_chain op_le op_le pe_int (pe_callB call_len_str (by rfl) B.m_len PySem.boot_len (pa_cons (pv 0) pa_nil)) pe_int) (pe_and (pe_bm0 PySem.F.plainAttrs_str PySem.F.slot_str_isascii PySem.F.type_str_isascii mt_isascii (pv 0)) (pe_and (pe_bm0 PySem.F.plainAttrs_str PySem.F.slot_str_isalpha PySem.F.type_str_isalpha mt_isalpha (pv 0)) (pe_one (pe_bm0 PySem.F.plainAttrs_str PySem.F.slot_str_islower PySem.F.type_str_islower mt_islower (pv 0))))))))), ?_⟩
    refine (val_isi (val_var rfl) (.str z) (Kd.str_ (H := H) (.str z))) _ ⟨_, rfl, ?_⟩
    refine iteF ?_
    exact (val_andV (val_chain val_c (val_lenS (val_var rfl) (big_size hz)) val_c) fun _ => val_andV (val_sb0 (val_var rfl)) fun _ => val_andV (val_sb0 (val_var rfl)) fun _ => val_sb0 (val_var rfl)) _ k
theorem ok_is_door {f fN : Addr} {fd fdN : FuncData} (B : Bt mg) (D : Df K mg "is_door" s_is_door f fd ["value"]) (D_is_name : Df K mg "is_name" s_is_name fN fdN ["value"]) : FnOk P w K mg base CX0 2 f fd ["value"] spIsDoor := by
  have G_is_name : FnOk P w K mg base CX0 1 fN fdN ["value"] spIsName := ok_is_name B D_is_name
  refine D.F.ok sc_is_door (fun vs H Q E h => ?_) (fun cdv A outer s H vs Q E hr h => ?_)
  · obtain ⟨z, rfl, _⟩ := h
    rfl
  · obtain ⟨z, rfl, hz, k⟩ := h
    have S := sc_is_door
    refine ⟨_, (pss_one (ps_ret (pe_and (pe_call G_is_name (hr.mono (by decide)) (by rfl) D_is_name.g D_is_name.F.kp D_is_name.b .nil pass0 (pa_cons (pv 0) pa_nil)) (pe_one (pe_cmpR op_ne (pv 0) pe_str (nomark _)))))), ?_⟩
    exact (val_andV (val_call (va_cons (val_var rfl) va_nil) fun Q q => ⟨z, rfl, hz, q⟩) fun _ => val_op (val_var rfl) val_c fun Q q => ⟨rfl, q⟩) _ k
end
end K5
namespace K5
open PySem PySem.Spec PyProof.Rows L2
/-! ### numbers as words -/
theorem dec_range : ∀ c : Nat, c < 128 → Unicode.isDecimal c = true → 48 ≤ c ∧ c < 58 := by
  have h : ∀ c : Fin 128, Unicode.isDecimal c.val = true → 48 ≤ c.val ∧ c.val < 58 := by decide +kernel
  exact fun c hc => h ⟨c, hc⟩
def okNum (z : Str) : Bool := match PySem.intText? z with
  | some n => decide (0 ≤ n ∧ n ≤ 999)
  | none => false
theorem okNum_spec {z : Str} (h : okNum z = true) : ∃ n, PySem.intText? z = some n ∧ 0 ≤ n ∧ n ≤ 999 := by
  unfold okNum at h
  cases e : PySem.intText? z with
  | none => rw [e] at h; cases h
  | some n =>
    rw [e] at h
    exact ⟨n, rfl, of_decide_eq_true h⟩
theorem ok1 : ∀ a : Fin 10, okNum ⟨#[48 + a.val]⟩ = true := by decide +kernel
theorem ok2 : ∀ a b : Fin 10, okNum ⟨#[48 + a.val, 48 + b.val]⟩ = true := by decide +kernel
theorem ok3 : ∀ a b c : Fin 10, okNum ⟨#[48 + a.val, 48 + b.val, 48 + c.val]⟩ = true := by decide +kernel
theorem digits3 {z : Str} (h3 : z.length ≤ 3) (ha : Txt.isascii z = true) (hd : Txt.isdecimal z = true) : okNum z = true := by
  obtain ⟨⟨l⟩⟩ := z
  have hall : ∀ c ∈ l, 48 ≤ c ∧ c < 58 := by
    intro c hc
    unfold Txt.isascii at ha
    unfold Txt.isdecimal at hd
    rw [Bool.and_eq_true] at hd
    have h1 := hd.2
    rw [List.all_toArray, List.all_eq_true] at h1 ha
    exact dec_range c (of_decide_eq_true (ha c hc)) (h1 c hc)
  have hl : 0 < l.length := by
    unfold Txt.isdecimal at hd
    rw [Bool.and_eq_true] at hd
    exact of_decide_eq_true hd.1
  have hl3 : l.length ≤ 3 := h3
  match l, hl, hl3, hall with
  | [a], _, _, hall =>
    have q := hall a (by simp)
    have z := ok1 ⟨a - 48, by omega⟩
    rw [show 48 + (a - 48) = a by omega] at z
    exact z
  | [a, b], _, _, hall =>
    have q1 := hall a (by simp)
    have q2 := hall b (by simp)
    have z := ok2 ⟨a - 48, by omega⟩ ⟨b - 48, by omega⟩
    rw [show 48 + (a - 48) = a by omega, show 48 + (b - 48) = b by omega] at z
    exact z
  | [a, b, c], _, _, hall =>
    have q1 := hall a (by simp)
    have q2 := hall b (by simp)
    have q3 := hall c (by simp)
    have z := ok3 ⟨a - 48, by omega⟩ ⟨b - 48, by omega⟩ ⟨c - 48, by omega⟩
    rw [show 48 + (a - 48) = a by omega, show 48 + (b - 48) = b by omega, show 48 + (c - 48) = c by omega] at z
    exact z
def numV (z : Str) : Int := (PySem.intText? z).getD 0
def numOf (z : Str) (many : Int) : Int :=
  if (decide ((3 : Int) < (z.length : Int)) || !(Txt.isascii z && Txt.isdecimal z)) = true then -1
  else if (decide (V.str (toString (numV z)) = V.str z) && decide (numV z < many)) = true then numV z else -1
section
variable {X : Cx} {K : PySem.W.Frag} {σ : L2.St} {H : Hp} {ta tb tc : TE} {t u : TT} {i j k : Int} {p : Addr} {xs : List V} {v x : V} {a b : Bool}
theorem ans_or2 (h1 : Ans t σ H a) (h2 : a = false → Ans u σ H b) : Ans (tOr t u) σ H (a || b) := by
  intro Q q
  refine h1 _ ?_
  cases a with
  | true => exact iteT q
  | false => exact iteF (h2 rfl Q q)
theorem ans_and3 (h1 : Ans t σ H a) (h2 : a = true → Ans u σ H b) : Ans (tAnd t u) σ H (a && b) := by
  intro Q q
  refine h1 _ ?_
  cases a with
  | true => exact iteT (h2 rfl Q q)
  | false => exact iteF q
theorem ans_i0 {g : Int → Int → Bool} (ha : Val ta σ H (.int i)) (hb : Val tb σ H (.int j)) : Ans (tTest (tOp (rI0 fun i j => .bl (g i j)) ta tb)) σ H (g i j) := fun Q q =>
  (val_i0b ha hb) _ ⟨_, rfl, q⟩
theorem ans_eq2 (ha : Val ta σ H x) (hb : Val tb σ H v) (hs : scal x v = true) : Ans (tTest (tOp rEq ta tb)) σ H (decide (x = v)) := ans_eq ha hb hs rfl
theorem val_ite (ht : Ans t σ H a) (h1 : a = true → Val ta σ H x) (h2 : a = false → Val tb σ H v) : Val (tIf t ta tb) σ H (if a = true then x else v) := fun Q q => ht _ (by
  cases a with
  | true => exact iteT (h1 rfl Q q)
  | false => exact iteF (h2 rfl Q q))
theorem val_neg (h : Val ta σ H (.int i)) : Val (tUn (rU fun i => .int (-i)) ta) σ H (.int (-i)) := fun Q q => h _ ⟨i, rfl, q⟩
theorem val_intS {z : Str} {n : Int} (h : Val ta σ H (.str z)) (hn : PySem.intText? z = some n) (hl : z.length ≤ 640) : Val (tCB (fun xs H Q => ∃ a n, xs = [.str a] ∧ PySem.intText? a = some n ∧ a.length ≤ 640 ∧ Q (.int n) H) (tCons ta tNil)) σ H (.int n) := fun Q q => h _ ⟨z, n, rfl, hn, hl, q⟩
theorem val_strI {n : Int} (h : Val ta σ H (.int n)) (hl : n.natAbs.log2 < 1920) : Val (tCB (fun xs H Q => ∃ i, xs = [.int i] ∧ i.natAbs.log2 < 1920 ∧ Q (.str (toString i)) H) (tCons ta tNil)) σ H (.str (toString n)) := fun Q q => h _ ⟨n, rfl, hl, q⟩
end
def spNumber : Sp := fun vs H Q _ => ∃ (z : Str) (m : Int), vs = [.str z, .int m] ∧ z.length ≤ 10000000 ∧ Q (.int (numOf z m)) H
abbrev s_number : Stmt := topS 11
theorem sc_number : FnScope ["word", "many", "worth"] ["word", "many"] (defScope s_number) := ⟨rfl, rfl, rfl, by decide +kernel, rfl, by decide +kernel, by decide +kernel⟩
theorem log_small {n : Nat} (h : n ≤ 999) : n.log2 < 1920 := by
  by_cases h0 : n = 0
  · rw [h0]; decide
  · exact Nat.lt_of_lt_of_le ((Nat.log2_lt h0).mpr (show n < 2 ^ 10 by omega)) (by decide)
section
variable {P : Program} {w : World} {K : PySem.W.Frag} {mg : Str → Option Value} {base : Heap}
theorem ok_number {f : Addr} {fd : FuncData} (B : Bt mg) (D : Df K mg "number" s_number f fd ["word", "many"]) : FnOk P w K mg base CX0 1 f fd ["word", "many"] spNumber := by
  refine D.F.ok sc_number (fun vs H Q E h => ?_) (fun cdv A outer s H vs Q E hr h => ?_)
  · obtain ⟨z, m, rfl, _⟩ := h
    rfl
  · obtain ⟨z, m, rfl, hz, k⟩ := h
    have S := sc_number
    refine ⟨_, (pss_cons (ps_if (PW.pt (pw_or (pt_cmpR op_gt (pe_callB call_len_str (by rfl) B.m_len PySem.boot_len (pa_cons (pv 0) pa_nil)) pe_int (nomark _)) (pw_or1 (pt_not (PW.pt (pw_and (pt_val (pe_bm0 PySem.F.plainAttrs_str PySem.F.slot_str_isascii PySem.F.type_str_isascii mt_isascii (pv 0))) (pw_and1 (pt_val (pe_bm0 PySem.F.plainAttrs_str PySem.F.slot_str_isdecimal PySem.F.type_str_isdecimal mt_isdecimal (pv 0))))))))))
        (pss_one (ps_ret (pe_un un_neg pe_int)))
        pss_nil)
      (pss_cons (ps_set (i := 2) S.nd rfl (.inl rfl) (pe_callTy call_int_str (by rfl) B.m_int PyProof.Rows.boot_int (pa_cons (pv 0) pa_nil)))
      (pss_one (ps_ret (pe_ifExp (PW.pt (pw_and (pt_cmpR op_eq (pe_callTy call_str_int (by rfl) B.m_str (by decide +kernel) (pa_cons (pv 2) pa_nil)) (pv 0) (nomark _)) (pw_and1 (pt_cmpR op_lt (pv 2) (pv 1) (nomark _))))) (pv 2) (pe_un un_neg pe_int)))))), ?_⟩
    refine (ans_or2 (ans_i0 (val_lenS (val_var rfl) (big_size hz)) val_c) fun _ => ans_not (ans_and3 (ans_val (val_sb0 (val_var rfl))) fun _ => ans_val (val_sb0 (val_var rfl)))) _ ?_
    by_cases c : (decide ((3 : Int) < (z.length : Int)) || !(Txt.isascii z && Txt.isdecimal z)) = true
    · rw [c]
      refine iteT ((val_neg val_c) _ ?_)
      have e : numOf z m = -1 := if_pos c
      rw [e] at k
      exact k
    · have e : numOf z m = if (decide (V.str (toString (numV z)) = V.str z) && decide (numV z < m)) = true then numV z else -1 := if_neg c
      rw [Bool.not_eq_true] at c
      rw [c]
      rw [Bool.or_eq_false_iff, Bool.not_eq_false', Bool.and_eq_true] at c
      obtain ⟨c1, c2, c3⟩ := c
      have h3 : z.length ≤ 3 := by
        have := of_decide_eq_false c1
        omega
      obtain ⟨n, hn, n0, n1⟩ := okNum_spec (digits3 h3 c2 c3)
      have en : numV z = n := by
        unfold numV
        rw [hn]
        rfl
      refine iteF ?_
      dsimp only [tNext, tSeq, tAsg]
      refine (val_intS (val_var rfl) hn (by omega)) _ ?_
      refine (val_ite (ans_and3 (ans_eq2 (val_strI (val_var rfl) (log_small (by omega))) (val_var rfl) rfl) fun _ => ans_i0 (val_var rfl) (val_var rfl)) (fun _ => val_var rfl) fun _ => val_neg val_c) _ ?_
      rw [en] at e
      rw [e] at k
      cases q : (decide (V.str (toString n) = V.str z) && decide (n < m)) with
      | true =>
        rw [q, if_pos rfl] at k
        rw [if_pos rfl]
        exact k
      | false =>
        rw [q, if_neg Bool.false_ne_true] at k
        rw [if_neg Bool.false_ne_true]
        exact k
end
end K5
namespace K5
open PySem PySem.Spec PyProof.Rows L2
/-! ### errors -/
/-- the error x's class at C, its __init__ at fI -/
structure Er (K : PySem.W.Frag) (mg : Str → Option Value) (x : Str) (C fI : Addr) : Prop where
  O : OexC K C
  g : mg x = some (.ref C)
  iC : PySem.W.findIn K (.ref C) "__init__" = some (some (.ref fI))
  tI : PySem.W.typeIn K (.ref fI) = some (.type "function")
  nv : PySem.W.findIn K (.ref C) "value" = some none
/-- an error of the class at C with this value lies behind H -/
def ErrK (C : Addr) (v : V) (H : Hp) (E : XK) : Prop := ∀ (d : Addr) (H' : Hp), Same H H' → H d = none → H' d = some (.xd [(("value" : Str), v)]) → E (.ref C) (some d) H'
theorem ErrK.mono {C : Addr} {v : V} {H H1 : Hp} {E : XK} (h : ErrK C v H E) (e : Same H H1) : ErrK C v H1 E := fun d H' e2 nd hd => h d H' (e.trans e2) (e.free nd) hd
def spErr (K : PySem.W.Frag) : Sp := fun vs H Q _ => ∃ (a C : Addr) (v : V), vs = [.ref a, v] ∧ OexC K C ∧ PySem.W.findIn K (.ref C) "value" = some none ∧ H a = some (exo a C none) ∧
  ∀ dx, H dx = none → dx ≠ a → Q .non (upd (upd H dx (exd dx [(("value" : Str), v)])) a (exo a C (some dx)))
abbrev s_err : Stmt := inClass (topS 1) 0
theorem sc_err : FnScope ["self", "value"] ["self", "value"] (defScope s_err) := ⟨rfl, rfl, rfl, by decide +kernel, rfl, by decide +kernel, by decide +kernel⟩
section
variable {P : Program} {w : World} {K : PySem.W.Frag} {mg : Str → Option Value} {base : Heap}
theorem ok_err {f : Addr} {fd : FuncData} (F : Fun K "__init__" "WireError.__init__" s_err f fd) : FnOk P w K mg base CX0 1 f fd ["self", "value"] (spErr K) := by
  refine F.ok sc_err (fun vs H Q E h => ?_) (fun cdv A outer s H vs Q E hr h => ?_)
  · obtain ⟨a, C, v, rfl, _⟩ := h
    rfl
  · obtain ⟨a, C, v, rfl, T, hn, ha, k⟩ := h
    refine ⟨_, pss_one (ps_ost (pv 0) (pv 1)), ?_⟩
    exact ⟨v, rfl, .ref a, rfl, a, C, rfl, T, hn, .inl ⟨ha, fun dx nd ne => k dx nd ne⟩⟩
end
/-- raise X(e), the value of e known -/
theorem raise_run {K : PySem.W.Frag} {C : Addr} {ta : TE} {σ : L2.St} {H : Hp} {v : V} {Q : XK} (T : OexC K C) (hn : PySem.W.findIn K (.ref C) "value" = some none) (hv : Val ta σ H v) (h : ErrK C v H Q) :
    tMkO C (spErr K) [] (tCons ta tNil) σ H Q := by
  refine hv _ ⟨by show 1 ≤ 1000; decide, fun a na => ?_⟩
  refine ⟨a, C, v, rfl, T, hn, upd_same, fun dx nd ne => ⟨rfl, dx, [(("value" : Str), v)], upd_same, ?_, ?_, ?_⟩⟩
  · rw [upd_ne ne, upd_same]
  · rw [upd_ne ne] at nd
    exact nd
  · have nd' : H dx = none := by
      rw [upd_ne ne] at nd
      exact nd
    refine h dx _ (fun b o e => ?_) nd' upd_same
    have n1 : b ≠ dx := ne_of_none e nd'
    have n2 : b ≠ a := ne_of_none e na
    rw [upd_ne n1, del_ne n2, upd_ne n2, upd_ne n1, upd_ne n2]
    exact e
/-! ### texts -/
def rRepS : R2 := fun x y H Q => ∃ z n, x = .str z ∧ y = .int n ∧ MulOk z n ∧ Q (.str (Txt.mul z n)) H
theorem op_repS {X : Cx} : OpR X (binaryOp .Mult) rRepS := by
  intro pins s σ H x y v u Q I rx ry h
  obtain ⟨z, n, rfl, rfl, hc, q⟩ := h
  obtain ⟨t, rfl⟩ := rx
  obtain ⟨t', rfl⟩ := ry
  exact SB.mul hc fun t' k => ⟨.str _, H, I.tok _, ⟨_, rfl⟩, q⟩
/-! ### lines -/
theorem lk_hd {f : Str} {v : V} {r : List (Str × V)} : List.lookup f ((f, v) :: r) = some v := by simp [List.lookup]
theorem lk_tl {f g : Str} {v : V} {r : List (Str × V)} (h : ¬ f = g) : List.lookup f ((g, v) :: r) = List.lookup f r := by
  have e : (f == g) = false := by simpa using h
  simp [List.lookup, e]
theorem put_hd {f : Str} {v x : V} {r : List (Str × V)} : putF f v ((f, x) :: r) = (f, v) :: r := by
  unfold putF
  rw [if_pos rfl]
theorem put_tl {f g : Str} {v x : V} {r : List (Str × V)} (h : ¬ g = f) : putF f v ((g, x) :: r) = (g, x) :: putF f v r := by
  show (if g = f then _ else _) = _
  rw [if_neg h]
structure ClL (K : PySem.W.Frag) (C : Addr) : Prop where
  cl : Cls K C
  nr : NoAttr K C "rows"
  na : NoAttr K C "at"
def lf (r : Addr) (n : Int) : List (Str × V) := [("rows", .ref r), ("at", .int n)]
theorem lf_rows {r : Addr} {n : Int} : (lf r n).lookup ("rows" : Str) = some (.ref r) := lk_hd
theorem lf_at {r : Addr} {n : Int} : (lf r n).lookup ("at" : Str) = some (.int n) := (lk_tl (by decide +kernel)).trans lk_hd
theorem lf_no {r : Addr} {n : Int} {m : Str} (h1 : ¬ m = "rows") (h2 : ¬ m = "at") : (lf r n).lookup m = none := (lk_tl h1).trans (lk_tl h2)
theorem lf_put {r : Addr} {n k : Int} : putF "at" (.int k) (lf r n) = lf r k := (put_tl (by decide +kernel)).trans (congrArg _ put_hd)
/-- a reader of these rows, at a line -/
structure LinesAt (C : Addr) (H : Hp) (l dx r : Addr) (rows : List Str) (n : Nat) : Prop where
  o : H l = some (.ins C dx (lf r n))
  r : H r = some (.lst (rows.map V.str))
  le : n ≤ rows.length
theorem LinesAt.mono {C : Addr} {H H' : Hp} {l dx r : Addr} {rows : List Str} {n : Nat} (h : LinesAt C H l dx r rows n) (e : Same H H') : LinesAt C H' l dx r rows n := ⟨e _ _ h.o, e _ _ h.r, h.le⟩
/-- sizes that are never met -/
structure Sz (rows : List Str) : Prop where
  len : rows.length ≤ 10001
  row : ∀ z ∈ rows, z.length ≤ 10000
  ok : ∀ z ∈ rows, PyData.strOk z = true
/-! ### what stands in the parts of a text -/
theorem cps_append (x y : Str) : (x ++ y).cps.toList = x.cps.toList ++ y.cps.toList := by
  show (x.cps ++ y.cps).toList = _
  exact Array.toList_append
theorem join_mem {y p : Str} {c : Nat} : ∀ {ps : List Str}, p ∈ ps → c ∈ p.cps.toList → c ∈ (Str.join y ps).cps.toList
  | [x], hp, hc => by
    have e : p = x := by simpa using hp
    rw [← e]
    exact hc
  | x :: z :: r, hp, hc => by
    show c ∈ (x ++ y ++ Str.join y (z :: r)).cps.toList
    rw [cps_append, cps_append]
    rcases List.mem_cons.mp hp with e | e
    · rw [e] at hc
      exact List.mem_append_left _ (List.mem_append_left _ hc)
    · exact List.mem_append_right _ (join_mem e hc)
theorem join_len {y p : Str} : ∀ {ps : List Str}, p ∈ ps → p.length ≤ (Str.join y ps).length
  | [x], hp => by
    have e : p = x := by simpa using hp
    rw [← e]
    exact Nat.le_refl _
  | x :: z :: r, hp => by
    have e0 : (Str.join y (x :: z :: r)).length = x.length + y.length + (Str.join y (z :: r)).length := by
      show (x.cps ++ y.cps ++ (Str.join y (z :: r)).cps).size = _
      rw [Array.size_append, Array.size_append]
      rfl
    rw [e0]
    rcases List.mem_cons.mp hp with e | e
    · rw [e]
      omega
    · have := join_len (y := y) e
      omega
theorem join_many {y : Str} (hy : 1 ≤ y.length) : ∀ {ps : List Str}, ps.length ≤ (Str.join y ps).length + 1
  | [] => Nat.zero_le _
  | [x] => Nat.le_add_left _ _
  | x :: z :: r => by
    have ih := join_many hy (ps := z :: r)
    have e0 : (Str.join y (x :: z :: r)).length = x.length + y.length + (Str.join y (z :: r)).length := by
      show (x.cps ++ y.cps ++ (Str.join y (z :: r)).cps).size = _
      rw [Array.size_append, Array.size_append]
      rfl
    rw [e0, List.length_cons]
    omega
theorem split_len {x y p : Str} (h : p ∈ Txt.split x y) : p.length ≤ x.length := by
  have := join_len (y := y) h
  rw [StrLaws.join_split] at this
  exact this
theorem split_ok {x y p : Str} (h : p ∈ Txt.split x y) (hx : PyData.strOk x = true) : PyData.strOk p = true := by
  unfold PyData.strOk at hx ⊢
  rw [Array.all_eq_true'] at hx ⊢
  intro c hc
  have := join_mem (y := y) h (Array.mem_toList_iff.mpr hc)
  rw [StrLaws.join_split] at this
  exact hx c (Array.mem_toList_iff.mp this)
theorem cut_ok {x : Str} {lo hi : Option Int} (hx : PyData.strOk x = true) : PyData.strOk (cutS x lo hi) = true := by
  unfold PyData.strOk at hx ⊢
  rw [Array.all_eq_true'] at hx ⊢
  intro c hc
  refine hx c (Array.mem_toList_iff.mp ?_)
  have h1 : c ∈ (cutS x lo hi).cps.toList := Array.mem_toList_iff.mpr hc
  have h2 : c ∈ (x.cps.toList.drop (HT.sIx x.length 0 lo)).take (HT.sIx x.length x.length hi - HT.sIx x.length 0 lo) := h1
  exact List.mem_of_mem_drop (List.mem_of_mem_take h2)
theorem sz_rows {z : Str} (hz : z.length ≤ 10000) (ho : PyData.strOk z = true) : Sz (Txt.split z "\n") where
  len := by
    have := join_many (y := "\n") (by decide +kernel) (ps := Txt.split z "\n")
    rw [StrLaws.join_split] at this
    omega
  row := fun p hp => Nat.le_trans (split_len hp) hz
  ok := fun p hp => split_ok hp ho
def margin (dp : Nat) : Str := Txt.mul "  " (dp : Int)
def cleanWords (ws : List Str) : List Str := if inV (.str "") (ws.map V.str) = true then [] else ws
def restWords (row : Str) (dp : Nat) : List Str := Txt.split (cutS row (some ((margin dp).length : Int)) none) " "
def rowWords (row : Str) (dp : Nat) : List Str := if Txt.startswith row (margin dp) = true then cleanWords (restWords row dp) else []
def wordsAt (rows : List Str) (n dp : Nat) : List Str := match rows[n]? with
  | none => []
  | some row => rowWords row dp
theorem words_ok {rows : List Str} {n dp : Nat} (sz : Sz rows) : ∀ z ∈ wordsAt rows n dp, PyData.strOk z = true ∧ z.length ≤ 10000 := by
  intro z hz
  unfold wordsAt at hz
  cases e : rows[n]? with
  | none =>
    rw [e] at hz
    cases hz
  | some row =>
    rw [e] at hz
    have hr : row ∈ rows := List.mem_of_getElem? e
    have h2 : z ∈ restWords row dp := by
      unfold rowWords cleanWords at hz
      dsimp only at hz
      split at hz
      · split at hz
        · cases hz
        · exact hz
      · cases hz
    exact ⟨split_ok h2 (cut_ok (sz.ok _ hr)), Nat.le_trans (split_len h2) (Nat.le_trans (cutS_length _ _ _) (sz.row _ hr))⟩
theorem words_many {rows : List Str} {n dp : Nat} (sz : Sz rows) : (wordsAt rows n dp).length ≤ 10001 := by
  unfold wordsAt
  cases e : rows[n]? with
  | none => exact Nat.zero_le _
  | some row =>
    have hr : row ∈ rows := List.mem_of_getElem? e
    have h1 : (restWords row dp).length ≤ 10001 := by
      have := join_many (y := " ") (by decide +kernel) (ps := restWords row dp)
      unfold restWords at this ⊢
      rw [StrLaws.join_split] at this
      have h2 := cutS_length row (some ((margin dp).length : Int)) none
      have h3 := sz.row _ hr
      omega
    show (rowWords row dp).length ≤ _
    unfold rowWords cleanWords
    split
    · split
      · exact Nat.zero_le _
      · exact h1
    · exact Nat.zero_le _
/-- a list or tuple of texts, as data -/
theorem dpAll_strs {K : PySem.W.Frag} {H : Hp} : ∀ l : List Str, DpAll K H (l.map V.str) (l.map PyData.str)
  | [] => .nil
  | z :: r => .cons (.str z) (dpAll_strs r)
theorem lay_strs : ∀ {l : List Str}, (∀ z ∈ l, PyData.strOk z = true) → PyData.canLayAll0 (l.map PyData.str) = true ∧ PyData.depthAll (l.map PyData.str) = 0
  | [], _ => ⟨by simp [PyData.canLayAll0], by simp [PyData.depthAll]⟩
  | z :: r, h => by
    have ih := lay_strs (l := r) fun y hy => h y (List.mem_cons_of_mem _ hy)
    have hz := h z (List.mem_cons_self ..)
    constructor
    · simp [PyData.canLayAll0, PyData.canLay0, hz, ih.1]
    · simp [PyData.depthAll, PyData.depth, ih.2]
theorem shaped_strs {l : List Str} (h : ∀ z ∈ l, PyData.strOk z = true) : SeqAt.shaped (.list (l.map PyData.str)) = true := by
  have q := lay_strs h
  unfold SeqAt.shaped
  simp [PyData.canLay0, PyData.depth, q.1, q.2]
theorem eqv_strs : ∀ a b : List Str, PyData.eqvAll (a.map PyData.str) (b.map PyData.str) = decide (a = b)
  | [], [] => by simp [PyData.eqvAll]
  | [], _ :: _ => by simp [PyData.eqvAll]
  | _ :: _, [] => by simp [PyData.eqvAll]
  | x :: a, y :: b => by
    rw [List.map_cons, List.map_cons, PyData.eqvAll, eqv_strs a b, PyData.eqv]
    by_cases h : x = y
    · subst h
      simp
    · simp [h]
theorem margin_ok {dp : Nat} (h : dp ≤ 3) : MulOk ("  " : Str) (dp : Int) ∧ (margin dp).length ≤ 6 := by
  match dp, h with
  | 0, _ => exact ⟨⟨by decide, fun q => absurd (by decide) q, fun q => absurd (by decide) q⟩, by decide +kernel⟩
  | 1, _ => exact ⟨⟨by decide, fun _ q => absurd q (by decide), fun _ q => absurd q (by decide)⟩, by decide +kernel⟩
  | 2, _ => exact ⟨⟨by decide, fun _ _ => by decide +kernel, fun _ _ => by decide +kernel⟩, by decide +kernel⟩
  | 3, _ => exact ⟨⟨by decide, fun _ _ => by decide +kernel, fun _ _ => by decide +kernel⟩, by decide +kernel⟩
end K5
namespace K5
open PySem PySem.Spec PyProof.Rows L2
theorem cutS_le {z : Str} {lo hi : Option Int} : (cutS z lo hi).length ≤ z.length := cutS_length z lo hi
abbrev s_Lines___init__ : Stmt := inClass (topS 10) 0
theorem sc_Lines___init__ : FnScope ["self", "text"] ["self", "text"] (defScope s_Lines___init__) := ⟨rfl, rfl, rfl, by decide +kernel, rfl, by decide +kernel, by decide +kernel⟩
abbrev s_Lines_words : Stmt := inClass (topS 10) 1
theorem sc_Lines_words : FnScope ["self", "depth", "margin", "words"] ["self", "depth"] (defScope s_Lines_words) := ⟨rfl, rfl, rfl, by decide +kernel, rfl, by decide +kernel, by decide +kernel⟩
abbrev s_Lines_begins : Stmt := inClass (topS 10) 2
theorem sc_Lines_begins : FnScope ["self", "word"] ["self", "word"] (defScope s_Lines_begins) := ⟨rfl, rfl, rfl, by decide +kernel, rfl, by decide +kernel, by decide +kernel⟩
abbrev s_Lines_step : Stmt := inClass (topS 10) 5
theorem sc_Lines_step : FnScope ["self"] ["self"] (defScope s_Lines_step) := ⟨rfl, rfl, rfl, by decide +kernel, rfl, by decide +kernel, by decide +kernel⟩
abbrev s_Lines_need : Stmt := inClass (topS 10) 6
theorem sc_Lines_need : FnScope ["self", "right"] ["self", "right"] (defScope s_Lines_need) := ⟨rfl, rfl, rfl, by decide +kernel, rfl, by decide +kernel, by decide +kernel⟩
abbrev s_Lines_need_end : Stmt := inClass (topS 10) 7
theorem sc_Lines_need_end : FnScope ["self"] ["self"] (defScope s_Lines_need_end) := ⟨rfl, rfl, rfl, by decide +kernel, rfl, by decide +kernel, by decide +kernel⟩
/-! ### promises -/
def rowsOf (z : Str) : List Str := Txt.split z "\n"
def spLinesInit (C CT : Addr) : Sp := fun vs H Q E => ∃ (l dx : Addr) (x : V) (T : String), vs = [.ref l, x] ∧ H l = some (.ins C dx []) ∧ Kd H x T ∧
  (∀ z : Str, x = .str z → z.length ≤ 10000 ∧ ∀ (H' : Hp) (r : Addr), SameBut l H H' → H r = none → LinesAt C H' l dx r (rowsOf z) 0 → Q .non H') ∧
  (isS x = false → ErrK CT (.int (-1)) H E)
def spWords (C : Addr) : Sp := fun vs H Q _ => ∃ (l dx r : Addr) (rows : List Str) (n dp : Nat), vs = [.ref l, .int dp] ∧ LinesAt C H l dx r rows n ∧ Sz rows ∧ dp ≤ 3 ∧
  ∀ (H' : Hp) (p : Addr), Same H H' → H p = none → H' p = some (.lst ((wordsAt rows n dp).map V.str)) → Q (.ref p) H'
def spBegins (C : Addr) : Sp := fun vs H Q _ => ∃ (l dx r : Addr) (rows : List Str) (n : Nat) (z : Str), vs = [.ref l, .str z] ∧ LinesAt C H l dx r rows n ∧ Sz rows ∧ PyData.strOk z = true ∧
  ∀ H' : Hp, Same H H' → Q (.bl (decide ((wordsAt rows n 0).take 1 = [z]))) H'
def spStep (C : Addr) : Sp := fun vs H Q _ => ∃ (l dx r : Addr) (rows : List Str) (n : Nat), vs = [.ref l] ∧ LinesAt C H l dx r rows n ∧ n < rows.length ∧
  ∀ H' : Hp, SameBut l H H' → LinesAt C H' l dx r rows (n + 1) → Q .non H'
def spNeed (K : PySem.W.Frag) (C CT : Addr) : Sp := fun vs H Q E => ∃ (l dx r : Addr) (rows : List Str) (n : Nat) (x : V) (b : Bool), vs = [.ref l, x] ∧ LinesAt C H l dx r rows n ∧ TruV K x H b ∧
  (b = true → Q .non H) ∧ (b = false → ErrK CT (.int n) H E)
def spNeedEnd (C CT : Addr) : Sp := fun vs H Q E => ∃ (l dx r : Addr) (rows : List Str) (n : Nat), vs = [.ref l] ∧ LinesAt C H l dx r rows n ∧
  (n = rows.length → Q .non H) ∧ (n ≠ rows.length → ErrK CT (.int n) H E)
section
variable {X : Cx} {K : PySem.W.Frag} {σ : L2.St} {H : Hp} {ta tb tc : TE} {t u : TT} {i j k : Int} {p : Addr} {xs : List V} {v x : V} {a b : Bool}
theorem val_repS {z : Str} {n : Int} (ha : Val ta σ H (.str z)) (hb : Val tb σ H (.int n)) (hc : MulOk z n) : Val (tOp rRepS ta tb) σ H (.str (Txt.mul z n)) := val_op ha hb fun Q q => ⟨z, n, rfl, rfl, hc, q⟩
theorem val_sw {z y : Str} (ha : Val ta σ H (.str z)) (hb : Val tb σ H (.str y)) : Val (tBM K "str" (fun x xs H Q => ∃ a b, x = .str a ∧ xs = [.str b] ∧ Q (.bl (Txt.startswith a b)) H) ta (tCons tb tNil)) σ H (.bl (Txt.startswith z y)) := fun Q q =>
  ha _ ⟨rfl, hb _ ⟨z, y, rfl, rfl, q⟩⟩
theorem val_cutS {z : Str} {n : Int} (ha : Val ta σ H (.str z)) (hb : Val tb σ H (.int n)) (hz : z.length ≤ sizeLine) : Val (tSl rSlS ta (tPart tb) tNoPart) σ H (.str (cutS z (some n) none)) := fun Q q =>
  ha _ (hb _ ⟨n, rfl, z, rfl, hz, q⟩)
end
section
variable {P : Program} {w : World} {K : PySem.W.Frag} {mg : Str → Option Value} {base : Heap}
/-- an error of a callee leaves the def as its own -/
theorem pxp {X : Cx} {E : XK} (hs : X.stack = X.env :: X.outer) (hf : X.env.frame = some X.env.locals) (hex : X.ex = []) {E₁ : Value → Shared → Prop}
    (hx : X.xe = fun e s' => wpAny (model X.prog X.w) X.A (leaving X.env e) (fun _ s'' => L2.CX X.prog X.w X.outer X.H_0 X.s_0 E e s'') E₁ s') : Passes (L2.CX X.prog X.w) X E :=
  passes_call (W := fun c d _ H => E c d H) (takes_of hs hf hex hx) fun _ _ _ _ h => h
theorem ok_Lines_init {f CL CT fE : Addr} {fd fdE : FuncData} (B : Bt mg) (L : ClL K CL) (F : Fun K "__init__" "Lines.__init__" s_Lines___init__ f fd) (T : Er K mg "BadText" CT fE) (FE : Fun K "__init__" "WireError.__init__" s_err fE fdE) (bE : Binds K fdE ["self", "value"] []) :
    FnOk P w K mg base (L2.CX P w) 4 f fd ["self", "text"] (spLinesInit CL CT) := by
  have GE : FnOk P w K mg base CX0 1 fE fdE ["self", "value"] (spErr K) := ok_err FE
  refine F.okX sc_Lines___init__ (fun vs H Q E h => ?_) (fun cdv A outer s H vs Q E hr h => ?_)
  · obtain ⟨l, dx, x, T, rfl, _⟩ := h
    rfl
  · obtain ⟨l, dx, x, Ty, rfl, hl, hx, k, ke⟩ := h
    have S := sc_Lines___init__
    refine ⟨_, (pss_cons (ps_if (pt_not (pt_val (pe_callB call_isi (by rfl) B.m_isinstance PyProof.Rows.boot_isinstance (pa_cons (pv 1) (pa_cons (pe_tyN bt_str (by rfl) B.m_str) pa_nil)))))
        (pss_one (ps_raise rfl (takes_of rfl rfl rfl rfl) (pmk_oex T.O T.iC T.tI GE (hr.mono (by decide)) bE .nil pass0 (by rfl) T.g (pa_cons (pe_un un_neg pe_int) pa_nil))))
        pss_nil)
      (pss_cons (ps_fld (pv 0) (pe_bm PySem.F.plainAttrs_str PySem.F.slot_str_split PySem.F.type_str_split mt_split (pv 1) (pa_cons pe_str pa_nil)) rfl)
      (pss_one (ps_fld (pv 0) pe_int rfl)))), ?_⟩
    refine (val_isi (val_var rfl) hx hx.str_) _ ⟨_, rfl, ?_⟩
    cases hx with
    | str z =>
      obtain ⟨hz, kk⟩ := k z rfl
      refine iteF ?_
      refine ⟨_, rfl, rfl, z, "\n", rfl, rfl, by decide +kernel, by have : z.length + 2 ≤ 10000000 := by omega
                                                                    exact big_size this, fun r nr => ?_⟩
      have nlr : l ≠ r := ne_of_none hl nr
      refine ⟨_, rfl, l, CL, dx, _, rfl, by rw [upd_ne nlr]; exact hl, L.cl, L.nr, by decide, ?_⟩
      refine ⟨_, rfl, l, CL, dx, _, rfl, upd_same, L.cl, L.na, by show 1 < 1000; decide, ?_⟩
      refine kk _ r (fun a o na e => ?_) nr ⟨?_, ?_, Nat.zero_le _⟩
      · rw [upd_ne na, upd_ne na, upd_ne (ne_of_none e nr)]
        exact e
      · rw [upd_same]
        have e : putF "at" (V.int 0) (putF "rows" (V.ref r) []) = lf r 0 := (put_tl (by decide +kernel)).trans rfl
        rw [e]
        rfl
      · rw [upd_ne nlr.symm, upd_ne nlr.symm, upd_same]
        rfl
    | _ =>
      refine iteT ?_
      exact raise_run T.O T.nv (val_neg val_c) (ke rfl)
theorem ok_words {f CL : Addr} {fd : FuncData} (B : Bt mg) (L : ClL K CL) (F : Fun K "words" "Lines.words" s_Lines_words f fd) : FnOk P w K mg base CX0 1 f fd ["self", "depth"] (spWords CL) := by
  refine F.ok sc_Lines_words (fun vs H Q E h => ?_) (fun cdv A outer s H vs Q E hr h => ?_)
  · obtain ⟨l, dx, r, rows, n, dp, rfl, _⟩ := h
    rfl
  · obtain ⟨l, dx, r, rows, n, dp, rfl, hl, sz, hd, k⟩ := h
    have S := sc_Lines_words
    refine ⟨_, (pss_cons (ps_set (i := 2) S.nd rfl (.inl rfl) (pe_op op_repS pe_str (pv 1)))
      (pss_cons (ps_if (PW.pt (pw_or (pt_cmpR op_eq (pe_fld (pv 0) rfl) (pe_callB call_len_seq (by rfl) B.m_len PySem.boot_len (pa_cons (pe_fld (pv 0) rfl) pa_nil)) (nomark _)) (pw_or1 (pt_not (pt_val (pe_bm PySem.F.plainAttrs_str PySem.F.slot_str_startswith PySem.F.type_str_startswith mt_startswith (pe_ix ix_list (pe_fld (pv 0) rfl) (pe_fld (pv 0) rfl) (fun _ _ => rfl)) (pa_cons (pv 2) pa_nil)))))))
        (pss_one (ps_ret (pe_lst pa_nil)))
        pss_nil)
      (pss_cons (ps_set (i := 3) S.nd rfl (.inl rfl) (pe_bm PySem.F.plainAttrs_str PySem.F.slot_str_split PySem.F.type_str_split mt_split (pe_slice sl_str (pe_ix ix_list (pe_fld (pv 0) rfl) (pe_fld (pv 0) rfl) (fun _ _ => rfl)) (po_some (pe_callB call_len_str (by rfl) B.m_len PySem.boot_len (pa_cons (pv 2) pa_nil))) po_none) (pa_cons pe_str pa_nil)))
      (pss_one (ps_ret (pe_ifExp (pt_cmpR op_in_seq pe_str (pv 3) (by rfl)) (pe_lst pa_nil) (pv 3))))))), ?_⟩
    have hm := margin_ok hd
    have hR : SqL K H r (rows.map V.str) := SqL.of hl.r
    refine (show Val _ _ _ (V.str (margin dp)) from val_repS val_c (val_var rfl) hm.1) _ ?_
    have vat : ∀ σ : L2.St, σ[0]? = some (some (.ref l)) → Val (tFld K (tVar 0) "at") σ H (.int n) := fun σ h0 => val_fld (val_var h0) hl.o L.cl L.na lf_at
    have vrw : ∀ σ : L2.St, σ[0]? = some (some (.ref l)) → Val (tFld K (tVar 0) "rows") σ H (.ref r) := fun σ h0 => val_fld (val_var h0) hl.o L.cl L.nr lf_rows
    by_cases c : n = rows.length
    · have e : wordsAt rows n dp = [] := by
        unfold wordsAt
        rw [c, List.getElem?_eq_none (Nat.le_refl _)]
      rw [e] at k
      refine (ans_or1 (ans_eq (vat _ rfl) (val_lenL (vrw _ rfl) hR) rfl (decide_eq_true (by rw [List.length_map, c])))) _ ?_
      refine iteT ⟨Nat.zero_le _, fun p np => ?_⟩
      exact k _ p (same_upd np) np upd_same
    · have hn : n < rows.length := by
        have := hl.le
        omega
      have hg : rows[n]? = some rows[n] := List.getElem?_eq_getElem hn
      have hgV : (rows.map V.str)[n]? = some (.str rows[n]) := by
        rw [List.getElem?_map, hg]
        rfl
      have hz : rows[n].length ≤ 10000 := sz.row _ (List.getElem_mem hn)
      have vrow : ∀ σ : L2.St, σ[0]? = some (some (.ref l)) → Val (tOp (rIxL K) (tFld K (tVar 0) "rows") (tFld K (tVar 0) "at")) σ H (.str rows[n]) := fun σ h0 => val_ixL (vrw σ h0) (vat σ h0) hR (atI_nat hgV)
      have ew : wordsAt rows n dp = rowWords rows[n] dp := by
        unfold wordsAt
        rw [hg]
      rw [ew] at k
      refine (ans_or (ans_eq (vat _ rfl) (val_lenL (vrw _ rfl) hR) rfl (decide_eq_false (by rw [List.length_map]; intro q; injection q with q; omega))) (ans_not (ans_val (val_sw (vrow _ rfl) (val_var rfl))))) _ ?_
      by_cases c2 : Txt.startswith rows[n] (margin dp) = true
      · have er : rowWords rows[n] dp = cleanWords (restWords rows[n] dp) := if_pos c2
        rw [er] at k
        rw [c2]
        refine iteF ?_
        dsimp only [tNext, tSeq, tAsg]
        refine (val_cutS (vrow _ rfl) (val_lenS (val_var rfl) (big_size (by have := hm.2; omega))) (big_size (by omega))) _ ?_
        have hc := cutS_le (z := rows[n]) (lo := some ((margin dp).length : Int)) (hi := none)
        refine ⟨rfl, _, " ", rfl, rfl, by decide +kernel, big_size (by omega), fun p np => ?_⟩
        have hp : (upd H p (.lst ((restWords rows[n] dp).map V.str))) p = some (.lst ((restWords rows[n] dp).map V.str)) := upd_same
        refine ⟨_, rfl, p, _, rfl, .inl (SqL.of hp), rfl, ?_, _, rfl, ?_⟩
        · rw [List.all_map, List.all_eq_true]
          intro z hz
          rfl
        · have s1 : Same H (upd H p (.lst ((restWords rows[n] dp).map V.str))) := same_upd np
          unfold cleanWords at k
          cases c4 : inV (.str "") ((restWords rows[n] dp).map V.str) with
          | true =>
            rw [c4, if_pos rfl] at k
            refine iteT ⟨Nat.zero_le _, fun q nq => ?_⟩
            exact k _ q (s1.trans (same_upd nq)) (s1.free nq) upd_same
          | false =>
            rw [c4, if_neg Bool.false_ne_true] at k
            exact iteF ⟨_, rfl, k _ p s1 np hp⟩
      · have er : rowWords rows[n] dp = [] := if_neg c2
        rw [er] at k
        rw [Bool.not_eq_true] at c2
        rw [c2]
        refine iteT ⟨Nat.zero_le _, fun p np => ?_⟩
        exact k _ p (same_upd np) np upd_same
theorem ok_begins {f fW CL : Addr} {fd fdW : FuncData} (B : Bt mg) (L : ClL K CL) (F : Fun K "begins" "Lines.begins" s_Lines_begins f fd) (M_words : Mf K CL "words" "Lines.words" s_Lines_words fW fdW ["self", "depth"]) :
    FnOk P w K mg base CX0 2 f fd ["self", "word"] (spBegins CL) := by
  have G_words : FnOk P w K mg base CX0 1 fW fdW ["self", "depth"] (spWords CL) := ok_words B L M_words.F
  refine F.ok sc_Lines_begins (fun vs H Q E h => ?_) (fun cdv A outer s H vs Q E hr h => ?_)
  · obtain ⟨l, dx, r, rows, n, z, rfl, _⟩ := h
    rfl
  · obtain ⟨l, dx, r, rows, n, z, rfl, hl, sz, hz, k⟩ := h
    have S := sc_Lines_begins
    refine ⟨_, (pss_one (ps_ret (pe_cmpR (op_eqD (by have := hr.units; exact this)) (pe_slice sl_list (pe_meth (pv 0) L.cl M_words.m G_words (hr.mono (by decide)) M_words.b .nil pass0 (pa_cons pe_int pa_nil)) po_none (po_some pe_int)) (pe_lst (pa_cons (pv 1) pa_nil)) (nomark _)))), ?_⟩
    refine ⟨_, rfl, l, dx, _, rfl, hl.o, lf_no (by decide +kernel) (by decide +kernel), ?_⟩
    refine ⟨l, dx, r, rows, n, 0, rfl, hl, sz, by decide, fun H1 p s1 np hp => ?_⟩
    refine ⟨1, rfl, p, _, rfl, SqL.of hp, fun q nq => ?_⟩
    refine ⟨_, rfl, by show 1 ≤ sizeLine; decide, fun o no => ?_⟩
    have s2 : Same H1 (upd H1 q (.lst (cutV ((wordsAt rows n 0).map V.str) none (some 1)))) := same_upd nq
    have s3 := same_upd (H := upd H1 q (.lst (cutV ((wordsAt rows n 0).map V.str) none (some 1)))) (o := .lst [V.str z]) no
    have ec : cutV ((wordsAt rows n 0).map V.str) none (some 1) = ((wordsAt rows n 0).take 1).map V.str := by
      unfold cutV
      rw [show HT.sIx ((wordsAt rows n 0).map V.str).length ((wordsAt rows n 0).map V.str).length (some 1) = min 1 ((wordsAt rows n 0).map V.str).length from HT.sIx_nat _ _ 1, HT.sIx_none, List.drop_zero, Nat.sub_zero, List.map_take]
      exact List.take_eq_take_min.symm
    have hq : SqL K (upd (upd H1 q (.lst (cutV ((wordsAt rows n 0).map V.str) none (some 1)))) o (.lst [V.str z])) q (((wordsAt rows n 0).take 1).map V.str) := by
      rw [← ec]
      exact SqL.of (s3 _ _ upd_same)
    refine ⟨.list (((wordsAt rows n 0).take 1).map PyData.str), .list ([z].map PyData.str), .lst hq (dpAll_strs _), .lst (SqL.of upd_same) (dpAll_strs [z]), shaped_strs fun y hy => (words_ok sz y (List.mem_of_mem_take hy)).1, shaped_strs fun y hy => ?_, ?_⟩
    · have e : y = z := by simpa using hy
      rw [e]
      exact hz
    · have e : PyData.eqv (.list (((wordsAt rows n 0).take 1).map PyData.str)) (.list ([z].map PyData.str)) = decide ((wordsAt rows n 0).take 1 = [z]) := by
        rw [PyData.eqv]
        exact eqv_strs _ _
      rw [e]
      exact k _ ((s1.trans s2).trans s3)
theorem ok_step {f CL : Addr} {fd : FuncData} (L : ClL K CL) (F : Fun K "step" "Lines.step" s_Lines_step f fd) : FnOk P w K mg base CX0 1 f fd ["self"] (spStep CL) := by
  refine F.ok sc_Lines_step (fun vs H Q E h => ?_) (fun cdv A outer s H vs Q E hr h => ?_)
  · obtain ⟨l, dx, r, rows, n, rfl, _⟩ := h
    rfl
  · obtain ⟨l, dx, r, rows, n, rfl, hl, hn, k⟩ := h
    refine ⟨_, (pss_one (ps_fldaug (pv 0) pe_int in_add)), ?_⟩
    refine ⟨_, rfl, l, CL, dx, _, _, rfl, hl.o, L.cl, L.na, lf_at, n, 1, rfl, rfl, dx, _, hl.o, by show 2 < 1000; decide, ?_⟩
    refine k _ (SameBut.upd l H _) ⟨?_, ?_, hn⟩
    · rw [upd_same, lf_put]
      rfl
    · rw [upd_ne (ne_of hl.r hl.o (by intro q; cases q))]
      exact hl.r
theorem ok_need {f CL CT fE : Addr} {fd fdE : FuncData} (L : ClL K CL) (F : Fun K "need" "Lines.need" s_Lines_need f fd) (T : Er K mg "BadText" CT fE) (FE : Fun K "__init__" "WireError.__init__" s_err fE fdE) (bE : Binds K fdE ["self", "value"] []) :
    FnOk P w K mg base (L2.CX P w) 4 f fd ["self", "right"] (spNeed K CL CT) := by
  have GE : FnOk P w K mg base CX0 1 fE fdE ["self", "value"] (spErr K) := ok_err FE
  refine F.okX sc_Lines_need (fun vs H Q E h => ?_) (fun cdv A outer s H vs Q E hr h => ?_)
  · obtain ⟨l, dx, r, rows, n, x, b, rfl, _⟩ := h
    rfl
  · obtain ⟨l, dx, r, rows, n, x, b, rfl, hl, ht, k, ke⟩ := h
    refine ⟨_, (pss_one (ps_if (pt_not (pt_truth (pv 1) (by intro _; rfl)))
        (pss_one (ps_raise rfl (takes_of rfl rfl rfl rfl) (pmk_oex T.O T.iC T.tI GE (hr.mono (by decide)) bE .nil pass0 (by rfl) T.g (pa_cons (pe_fld (pv 0) rfl) pa_nil))))
        pss_nil)), ?_⟩
    refine ⟨_, rfl, b, ht, ?_⟩
    cases b with
    | true => exact iteF (k rfl)
    | false =>
      refine iteT ?_
      exact raise_run T.O T.nv (val_fld (val_var rfl) hl.o L.cl L.na lf_at) (ke rfl)
theorem ok_need_end {f fN CL CT fE : Addr} {fd fdN fdE : FuncData} (B : Bt mg) (L : ClL K CL) (F : Fun K "need_end" "Lines.need_end" s_Lines_need_end f fd) (M_need : Mf K CL "need" "Lines.need" s_Lines_need fN fdN ["self", "right"]) (T : Er K mg "BadText" CT fE) (FE : Fun K "__init__" "WireError.__init__" s_err fE fdE) (bE : Binds K fdE ["self", "value"] []) :
    FnOk P w K mg base (L2.CX P w) 5 f fd ["self"] (spNeedEnd CL CT) := by
  have G_need : FnOk P w K mg base (L2.CX P w) 4 fN fdN ["self", "right"] (spNeed K CL CT) := ok_need L M_need.F T FE bE
  refine F.okX sc_Lines_need_end (fun vs H Q E h => ?_) (fun cdv A outer s H vs Q E hr h => ?_)
  · obtain ⟨l, dx, r, rows, n, rfl, _⟩ := h
    rfl
  · obtain ⟨l, dx, r, rows, n, rfl, hl, k, ke⟩ := h
    refine ⟨_, (pss_one (ps_expr (pe_meth (pv 0) L.cl M_need.m G_need (hr.mono (by decide)) M_need.b .nil (pxp rfl rfl rfl rfl) (pa_cons (pe_cmpR op_eq (pe_fld (pv 0) rfl) (pe_callB call_len_seq (by rfl) B.m_len PySem.boot_len (pa_cons (pe_fld (pv 0) rfl) pa_nil)) (nomark _)) pa_nil)))), ?_⟩
    refine ⟨_, rfl, l, dx, _, rfl, hl.o, lf_no (by decide +kernel) (by decide +kernel), ?_⟩
    have hR : SqL K H r (rows.map V.str) := SqL.of hl.r
    refine (val_op (val_fld (val_var rfl) hl.o L.cl L.na lf_at) (val_lenL (val_fld (val_var rfl) hl.o L.cl L.nr lf_rows) hR) fun Q q => ⟨rfl, q⟩) _ ?_
    refine ⟨l, dx, r, rows, n, _, _, rfl, hl, rfl, fun e => k ?_, fun e => ke ?_⟩
    · have := of_decide_eq_true e
      rw [List.length_map] at this
      injection this with this
      omega
    · have := of_decide_eq_false e
      rw [List.length_map] at this
      intro q
      exact this (by rw [q])
end
end K5
namespace K5
open PySem PySem.Spec PyProof.Rows L2
/-! ### x, *xs = a list -/
section
variable {prog : Program} {w : World} {A : Around} {E : Value → Shared → Prop} {s : Shared}
theorem star_items {a : Addr} {ys : Array Value} {Q : List Value → Shared → Prop} (ha : s.heap.IsList a ys) (hh : A.handled = none) (h1 : 1 ≤ ys.size) (few : ys.size ≤ 16384)
    (h : ∀ (h' : Heap) (tk : Nat), (∀ b o, s.heap.get? b = some o → h'.get? b = some o) → Q (ys.toList.take 1 ++ [.ref h'.objs.size]) { s with heap := h'.push { cls := .type "list", data := .seq (ys.toList.drop 1).toArray }, toks := tk }) :
    wpAny (model prog w) A (unpackItems (.ref a) 2 (some 1)) Q E s := by
  have na : a ≠ s.heap.objs.size := by
    obtain ⟨o, e, _⟩ := ha
    exact Nat.ne_of_lt (Heap.lt_size e)
  unfold unpackItems notIterableAtAll
  refine wpAny_bind (wpAny_bind (wpAny_specialOf ha.typeIs slot_list_iter.lookup (wpAny_pure ?_)))
  simp only [Bool.false_eq_true, if_false]
  refine wpAny_bind (wpAny_holding (wpAny_pyIter_list ha (wpAny_bind (wpAny_holding (PySem.W.kun_draw na 1 0 _ _ ⟨_, Heap.get?_push_size _ rfl, rfl, rfl⟩ (ha.push _) (by omega) fun g hit hs => ?_)))))
  rw [Nat.zero_add] at hit
  rw [List.drop_zero]
  have hg : g.IsList a ys := (ha.push _).extBut hs.extBut na
  have q1 := hit
  have q2 := hg
  obtain ⟨o1, e1, _⟩ := q1
  obtain ⟨o2, e2, _⟩ := q2
  have hf : (ys.toList.take 1).length = 1 := by
    rw [List.length_take, Array.length_toList]
    omega
  rw [if_neg (show ¬ (ys.toList.take 1).length < 1 by omega)]
  refine wpAny_bind (wpAny_holding (PySem.W.kun_collect (s := { s with heap := g }) (T := "list_iterator") (.inr (.inr (.inl rfl))) (Walks.list (A := A.in1) hh s.heap.objs.size a na ys) (fun j u st => st.1.typeIs) (k := 1) h1 ⟨hit, hg⟩ (Heap.lt_size e1) (Heap.lt_size e2) (fun g2 tk hk => ?_) (Nat.le_trans few (by decide))))
  have hd : (ys.toList.drop 1).length = ys.size - 1 := by rw [List.length_drop, Array.length_toList]
  show wpAny _ _ (if (ys.toList.drop 1).length < 2 - 1 - 1 then _ else _) _ _ _
  rw [if_neg (Nat.not_lt_zero _)]
  show wpAny _ _ (newList ((ys.toList.drop 1).take ((ys.toList.drop 1).length - 0)) >>= fun d => pure (ys.toList.take 1 ++ [d] ++ (ys.toList.drop 1).drop ((ys.toList.drop 1).length - 0))) _ _ _
  simp only [Nat.sub_zero, List.take_length, List.drop_length, List.append_nil]
  refine wpAny_bind (wpAny_newList (wpAny_pure (h g2 tk fun b o e => ?_)) (by rw [hd]; exact Nat.le_trans (Nat.sub_le _ _) (Nat.le_trans few (by decide))))
  exact hk b o (Nat.ne_of_lt (Heap.lt_size e)) (hs.extBut b o (Nat.ne_of_lt (Heap.lt_size e)) (Heap.get?_push_of_some _ e))
end
/-- (x, *xs) = a list of one item at least -/
def gStar (K : PySem.W.Frag) (t u : TG) : TG := fun v σ H Q => ∃ (a : Addr) (x : V) (xs : List V), v = .ref a ∧ SqL K H a (x :: xs) ∧ xs.length ≤ 16000 ∧ ∀ p, H p = none → t x σ (upd H p (.lst xs)) fun σ' H' => u (.ref p) σ' H' Q
theorem pg_star {X : Cx} {e1 e2 : Expr} {sp : Pos} {k : Nat} {pos : Pos} {t u : TG} (hc : X.calm = true) (h1 : PG X e1 t) (h2 : PG X e2 u)
    (hs : assignEach [e1, .Starred e2 sp] X.env = [(false, assign e1 X.env), (true, assign e2 X.env)] := by rfl) : PG X (.Tuple [e1, .Starred e2 sp] k pos) (gStar X.K t u) := by
  refine ⟨fun pins s σ H v w Q I r hw => ?_⟩
  obtain ⟨a, x, xs, ev, hq, hl, hw⟩ := hw
  subst ev
  cases r
  obtain ⟨things, rvs, isl, few⟩ := I.list hq
  have hL : s.heap.IsList a things.toArray := by
    obtain ⟨o, m, e, c, d, q⟩ := isl
    exact ⟨o, e, c, m, q⟩
  cases rvs with
  | cons r1 rr =>
    rename_i y ys
    have hlen := rr.length
    rw [PyProof.Rows.assign_Tuple]
    refine wpAny_bind (wpAny_standAt ?_)
    unfold unpack
    rw [hs]
    refine wpAny_bind (wpAny_holding (star_items hL (I.ok.hd hc) (by simp) (by simp; omega) fun h' tk hk => ?_))
    have I1 : Inv X pins σ H { s with heap := h', toks := tk } := I.kept (t' := tk) hk
    have nf : H h'.objs.size = none := I1.hok.fresh (Nat.le_refl _)
    have I2 : Inv X pins σ (upd H h'.objs.size (.lst xs)) { s with heap := h'.push { cls := .type "list", data := .seq ys.toArray }, toks := tk } := by
      refine I1.laid (t' := tk) (fun b o e => Heap.get?_push_of_some _ e) (Nat.le_refl _) ?_
      exact ⟨Nat.le_trans hl (by decide), ys, 0, rr, Heap.get?_push_size _ rfl⟩
    show wpAny _ _ (assignInOrder [assign e1 X.env, assign e2 X.env] [y, .ref h'.objs.size]) _ _ _
    refine assignInOrder_cons (thn (h1.run pins _ σ _ x y _ I2 r1 (hw _ nf)) fun _ s1 ⟨σ1, H1, I3, q1⟩ => ?_)
    refine assignInOrder_cons (thn (h2.run pins s1 σ1 H1 (.ref h'.objs.size) _ _ I3 rfl q1) fun _ s2 ⟨σ2, H2, I4, q2⟩ => ?_)
    exact assignInOrder_nil ⟨σ2, H2, I4, q2⟩
end K5
namespace K5
open PySem PySem.Spec PyProof.Rows L2
/-! ### the reader of statements: what it holds -/
structure Ad where
  (l dl r g dg ct pt st ak : Addr)
structure Tx where
  (rows : List Str) (w : Int) (cells ports : List Str)
structure TxOk (T : Tx) : Prop where
  sz : Sz T.rows
  c : T.cells.length ≤ 3
  p : T.ports.length ≤ 2
def pNames : List Str := ["lines", "worths", "cells", "ports", "steps", "asks", "many"]
def pf (A : Ad) (T : Tx) (m : Nat) : List (Str × V) := [("lines", .ref A.l), ("worths", .int T.w), ("cells", .ref A.ct), ("ports", .ref A.pt), ("steps", .ref A.st), ("asks", .ref A.ak), ("many", .int m)]
theorem lk_none {m : Str} : ∀ {fs : List (Str × V)}, (∀ x ∈ fs.map (·.1), ¬ m = x) → fs.lookup m = none
  | [], _ => rfl
  | (g, v) :: r, h => (lk_tl (h g (by simp))).trans (lk_none fun x hx => h x (by simp at hx ⊢; exact .inr hx))
theorem pf_no {A : Ad} {T : Tx} {k : Nat} {m : Str} (h : ∀ x ∈ pNames, ¬ m = x) : (pf A T k).lookup m = none := lk_none h
section
variable {A : Ad} {T : Tx} {m k : Nat}
theorem pf_lines : (pf A T m).lookup ("lines" : Str) = some (.ref A.l) := lk_hd
theorem pf_worths : (pf A T m).lookup ("worths" : Str) = some (.int T.w) := (lk_tl (by decide +kernel)).trans lk_hd
theorem pf_cells : (pf A T m).lookup ("cells" : Str) = some (.ref A.ct) := (lk_tl (by decide +kernel)).trans ((lk_tl (by decide +kernel)).trans lk_hd)
theorem pf_ports : (pf A T m).lookup ("ports" : Str) = some (.ref A.pt) := (lk_tl (by decide +kernel)).trans ((lk_tl (by decide +kernel)).trans ((lk_tl (by decide +kernel)).trans lk_hd))
theorem pf_steps : (pf A T m).lookup ("steps" : Str) = some (.ref A.st) := (lk_tl (by decide +kernel)).trans ((lk_tl (by decide +kernel)).trans ((lk_tl (by decide +kernel)).trans ((lk_tl (by decide +kernel)).trans lk_hd)))
theorem pf_asks : (pf A T m).lookup ("asks" : Str) = some (.ref A.ak) := (lk_tl (by decide +kernel)).trans ((lk_tl (by decide +kernel)).trans ((lk_tl (by decide +kernel)).trans ((lk_tl (by decide +kernel)).trans ((lk_tl (by decide +kernel)).trans lk_hd))))
theorem pf_many : (pf A T m).lookup ("many" : Str) = some (.int m) := (lk_tl (by decide +kernel)).trans ((lk_tl (by decide +kernel)).trans ((lk_tl (by decide +kernel)).trans ((lk_tl (by decide +kernel)).trans ((lk_tl (by decide +kernel)).trans ((lk_tl (by decide +kernel)).trans lk_hd)))))
theorem pf_put : putF "many" (.int k) (pf A T m) = pf A T k := by
  unfold pf
  rw [put_tl (by decide +kernel), put_tl (by decide +kernel), put_tl (by decide +kernel), put_tl (by decide +kernel), put_tl (by decide +kernel), put_tl (by decide +kernel), put_hd]
end
structure ClP (K : PySem.W.Frag) (C : Addr) : Prop where
  cl : Cls K C
  na : ∀ x ∈ pNames, NoAttr K C x
section
variable {K : PySem.W.Frag} {C : Addr}
theorem ClP.lines (c : ClP K C) : NoAttr K C "lines" := c.na _ (by decide +kernel)
theorem ClP.worths (c : ClP K C) : NoAttr K C "worths" := c.na _ (by decide +kernel)
theorem ClP.cells (c : ClP K C) : NoAttr K C "cells" := c.na _ (by decide +kernel)
theorem ClP.ports (c : ClP K C) : NoAttr K C "ports" := c.na _ (by decide +kernel)
theorem ClP.steps (c : ClP K C) : NoAttr K C "steps" := c.na _ (by decide +kernel)
theorem ClP.asks (c : ClP K C) : NoAttr K C "asks" := c.na _ (by decide +kernel)
theorem ClP.many (c : ClP K C) : NoAttr K C "many" := c.na _ (by decide +kernel)
end
/-- a tuple of which the very object is known: it has no dict of its own -/
def FT (H : Hp) (a : Addr) (xs : List V) : Prop := ∃ ob : Obj, H a = some (.frz ob (.tup xs)) ∧ ob.dict = none
theorem FT.mono {H H' : Hp} {a : Addr} {xs : List V} (h : FT H a xs) (e : Same H H') : FT H' a xs := by
  obtain ⟨ob, h1, h2⟩ := h
  exact ⟨ob, e _ _ h1, h2⟩
theorem FT.sq {K : PySem.W.Frag} {H : Hp} {a : Addr} {xs : List V} (h : FT H a xs) : SqT K H a xs := by
  obtain ⟨ob, h1, _⟩ := h
  exact .inl (.inr ⟨ob, h1⟩)
/-- t.index(z), t such a tuple of texts, z among them -/
def tTupIx (K : PySem.W.Frag) (to : TE) (t : TA) : TE := fun σ H Q => to σ H fun x H1 => ∃ (p : Addr) (ys : List Str), x = .ref p ∧ FT H1 p (ys.map V.str) ∧ t σ H1 fun vs H2 => ∃ (z : Str) (j : Nat), vs = [.str z] ∧ SqT K H2 p (ys.map V.str) ∧ ys[j]? = some z ∧ (∀ m, m < j → ys[m]? ≠ some z) ∧ Q (.int (j : Nat)) H2
theorem pe_tupIx {X : Cx} {o e : Expr} {to : TE} {t : TA} {apos cpos : Pos} (ho : PE X o to) (ha : PA X [e] t)
    (hbase : attributeBase o "index" X.env (eval o X.env) = eval o X.env := by rfl)
    (hfew : ((backTo cpos (starEach [e] X.env)).all (fun x => !x.1) && (backToKw cpos (keywordEach [] X.env)).all (fun x => x.1.isSome) && decide (([e] : List Expr).length + ([] : List Keyword).length + (if ([] : List Keyword).isEmpty then 0 else 1) < 30)) = true := by rfl)
    (hline : (apos.endLine == cpos.line) = true := by rfl) 
    (star1 : starEach [e] X.env = (false, eval e X.env) :: starEach [] X.env := by rfl) (hplain : (backTo cpos (starEach [] X.env)).any (·.1) = false := by rfl) :
    PE X (.Call (.Attribute o "index" apos) [e] [] cpos) (tTupIx X.K to t) := by
  refine ⟨fun pins s σ H Q I h => wpAny_Call_method_late hbase hfew hline rfl (thn (ho.run pins s σ H _ I h) fun v s1 ⟨x, H1, I1, r1, p, ys, ex, hF, q1⟩ => ?_)⟩
  subst ex
  cases r1
  obtain ⟨ob, hob, hd⟩ := hF
  have hok : s1.heap.get? p = some ob ∧ ObjOk X.prog X.w H1 s1.heap p (.tup (ys.map V.str)) := I1.hok p _ hob
  obtain ⟨h1, _, its, _, o2, h2, hc, _⟩ := hok
  refine ⟨"tuple", "tuple.index", PySem.F.plainAttrs_tuple, PySem.F.slot_tuple_index, PySem.F.type_tuple_index, ⟨o2, h2, hc⟩, fun a e2 => ?_, ?_⟩
  · cases e2
    exact ⟨ob, h1, hd⟩
  · have hA := ha.run cpos pins s1 σ H1 _ I1 q1
    rw [star1] at hA ⊢
    refine Calls.callWith_builtin (by show (false || (backTo cpos (starEach [] X.env)).any (·.1)) = false; rw [hplain] <;> rfl) (Calls.evalArgs_plain (thn hA fun us s2 ⟨vs, H2, I2, r2, z, j, ev, hS, hj, hf, q2⟩ => ?_))
    exact mt_tup_index pins s2 σ H2 (.ref p) vs (.ref p) us Q I2 rfl r2 ⟨p, ys, z, j, rfl, ev, hS, hj, hf, q2⟩
/-- a step: a tuple of one item at least -/
def StepAt (H : Hp) (x : V) : Prop := ∃ (a : Addr) (y : V) (ys : List V), x = .ref a ∧ H a = some (.tup (y :: ys)) ∧ ys.length ≤ 10
/-- a step, perhaps with a place behind it -/
def StepB (H : Hp) (x : V) : Prop := ∃ (a : Addr) (y : V) (ys : List V), x = .ref a ∧ H a = some (.tup (y :: ys)) ∧ ys.length ≤ 20
theorem StepAt.b {H : Hp} {x : V} (h : StepAt H x) : StepB H x := by
  obtain ⟨a, y, ys, e, h1, h2⟩ := h
  exact ⟨a, y, ys, e, h1, by omega⟩
theorem StepB.mono {H H' : Hp} {x : V} (h : StepB H x) (e : Same H H') : StepB H' x := by
  obtain ⟨a, y, ys, rfl, h1, h2⟩ := h
  exact ⟨a, y, ys, rfl, e _ _ h1, h2⟩
/-- the reader at A.g over the lines at A.l, at line n, m statements read; H0: what stood before -/
structure Wd (CL CP : Addr) (A : Ad) (T : Tx) (H0 H : Hp) (n m : Nat) (xs : List V) (kvs : List (Key × V)) : Prop where
  s0 : Same H0 H
  l0 : H0 A.l = none
  g0 : H0 A.g = none
  st0 : H0 A.st = none
  ak0 : H0 A.ak = none
  lg : A.l ≠ A.g
  li : LinesAt CL H A.l A.dl A.r T.rows n
  pg : H A.g = some (.ins CP A.dg (pf A T m))
  ct : FT H A.ct (T.cells.map V.str)
  pt : H A.pt = some (.tup (T.ports.map V.str))
  st : H A.st = some (.lst xs)
  sx : ∀ x ∈ xs, StepB H x
  ak : H A.ak = some (.dK kvs)
  rst : A.r ≠ A.st
theorem StepAt.mono {H H' : Hp} {x : V} (h : StepAt H x) (e : Same H H') : StepAt H' x := by
  obtain ⟨a, y, ys, rfl, h1, h2⟩ := h
  exact ⟨a, y, ys, rfl, e _ _ h1, h2⟩
section
variable {CL CP : Addr} {A : Ad} {T : Tx} {H0 H H' : Hp} {n m : Nat} {xs : List V} {kvs : List (Key × V)}
theorem Wd.mono (p : Wd CL CP A T H0 H n m xs kvs) (e : Same H H') : Wd CL CP A T H0 H' n m xs kvs where
  s0 := p.s0.trans e
  l0 := p.l0
  g0 := p.g0
  st0 := p.st0
  ak0 := p.ak0
  lg := p.lg
  li := p.li.mono e
  pg := e _ _ p.pg
  ct := p.ct.mono e
  pt := e _ _ p.pt
  st := e _ _ p.st
  sx := fun x hx => (p.sx x hx).mono e
  ak := e _ _ p.ak
  rst := p.rst
end
/-! ### in -/
theorem inV_strs (z : Str) : ∀ l : List Str, inV (.str z) (l.map V.str) = decide (z ∈ l)
  | [] => by simp [inV]
  | y :: r => by
    have ih := inV_strs z r
    unfold inV at ih ⊢
    rw [List.map_cons, List.any_cons, ih]
    by_cases h : z = y
    · subst h
      simp [eqV]
    · have h2 : (y == z) = false := by
        rw [beq_eq_false_iff_ne]
        exact fun e => h e.symm
      simp [eqV, h, h2]
theorem flat_strs (l : List Str) : (l.map V.str).all flatV = true := by
  rw [List.all_map, List.all_eq_true]
  intro z _
  rfl
section
variable {X : Cx} {K : PySem.W.Frag} {σ : L2.St} {H : Hp} {ta tb tc : TE} {t u : TT} {i j k : Int} {p : Addr} {xs : List V} {v x : V} {a b : Bool}
theorem val_inT {z : Str} {l : List Str} (ha : Val ta σ H (.str z)) (hb : Val tb σ H (.ref p)) (hS : SqT K H p (l.map V.str)) : Val (tOp (rIn K false) ta tb) σ H (.bl (decide (z ∈ l))) :=
  val_op ha hb fun Q q => ⟨p, _, rfl, .inr hS, rfl, flat_strs l, by
    show Q (.bl (inV (.str z) (l.map V.str))) H
    rw [inV_strs]
    exact q⟩
/-- x in a pair of texts written there -/
theorem run_in2 {z s1 s2 : Str} {Q : VK} (ha : Val ta σ H (.str z)) (q : ∀ H', Same H H' → Q (.bl (decide (z ∈ [s1, s2]))) H') : tOp (rIn K false) ta (tTup (tCons (tC (.str s1)) (tCons (tC (.str s2)) tNil))) σ H Q := by
  refine ha _ ⟨by show 2 ≤ sizeLine; decide, fun p np => ?_⟩
  refine ⟨p, [.str s1, .str s2], rfl, .inr (SqT.of upd_same), rfl, rfl, ?_⟩
  show Q (.bl (inV (.str z) ([s1, s2].map V.str))) _
  rw [inV_strs]
  exact q _ (same_upd np)
end
/-! ### what a word of an expression may be -/
def srcOk (T : Tx) (z : Str) : Bool := decide (z ∈ (["it", "got"] : List Str)) || decide (z ∈ T.cells) || decide (0 ≤ numOf z T.w)
def condOk (T : Tx) (ws : List Str) : Bool :=
  (decide (ws.length = 1) && decide (ws.getD 0 "" ∈ (["lost", "busy"] : List Str))) ||
  (decide (ws.length = 3) && decide (ws.getD 1 "" ∈ (["=", "!="] : List Str)) && srcOk T (ws.getD 0 "") && srcOk T (ws.getD 2 ""))
/-- its place in a list -/
theorem first_at {z : Str} : ∀ {l : List Str}, z ∈ l → ∃ j : Nat, l[j]? = some z ∧ ∀ m : Nat, m < j → l[m]? ≠ some z
  | y :: r, h => by
    by_cases e : y = z
    · exact ⟨0, by rw [e]; rfl, fun m hm => absurd hm (Nat.not_lt_zero _)⟩
    · obtain ⟨j, h1, h2⟩ := first_at (l := r) (by
        rcases List.mem_cons.mp h with q | q
        · exact absurd q.symm e
        · exact q)
      refine ⟨j + 1, h1, fun m hm => ?_⟩
      cases m with
      | zero => exact fun q => e (Option.some.inj q)
      | succ m => exact h2 m (Nat.lt_of_succ_lt_succ hm)
/-! ### promises -/
def spCell (CL CP CT : Addr) : Sp := fun vs H Q E => ∃ (A : Ad) (T : Tx) (H0 : Hp) (n m : Nat) (xs : List V) (kvs : List (Key × V)) (z : Str), vs = [.ref A.g, .str z] ∧ Wd CL CP A T H0 H n m xs kvs ∧ TxOk T ∧
  (z ∈ T.cells → ∀ i : Nat, Q (.int i) H) ∧ (z ∉ T.cells → ErrK CT (.int n) H E)
def spSource (CL CP CT : Addr) : Sp := fun vs H Q E => ∃ (A : Ad) (T : Tx) (H0 : Hp) (n m : Nat) (xs : List V) (kvs : List (Key × V)) (z : Str), vs = [.ref A.g, .str z] ∧ Wd CL CP A T H0 H n m xs kvs ∧ TxOk T ∧ z.length ≤ 10000 ∧
  (srcOk T z = true → ∀ (H' : Hp) (x : V), Same H H' → StepAt H' x → Q x H') ∧ (srcOk T z = false → ErrK CT (.int n) H E)
def spCond (CL CP CT : Addr) : Sp := fun vs H Q E => ∃ (A : Ad) (T : Tx) (H0 : Hp) (n m : Nat) (xs : List V) (kvs : List (Key × V)) (p : Addr) (ws : List Str), vs = [.ref A.g, .ref p] ∧ Wd CL CP A T H0 H n m xs kvs ∧ TxOk T ∧
  H p = some (.lst (ws.map V.str)) ∧ (∀ z ∈ ws, z.length ≤ 10000) ∧
  (condOk T ws = true → ∀ (H' : Hp) (x : V), Same H H' → StepAt H' x → Q x H') ∧ (condOk T ws = false → ErrK CT (.int n) H E)
end K5
namespace K5
open PySem PySem.Spec PyProof.Rows L2
abbrev s_Program_cell : Stmt := inClass (topS 16) 9
theorem sc_Program_cell : FnScope ["self", "word"] ["self", "word"] (defScope s_Program_cell) := ⟨rfl, rfl, rfl, by decide +kernel, rfl, by decide +kernel, by decide +kernel⟩
abbrev s_Program_source : Stmt := inClass (topS 16) 10
theorem sc_Program_source : FnScope ["self", "word", "worth"] ["self", "word"] (defScope s_Program_source) := ⟨rfl, rfl, rfl, by decide +kernel, rfl, by decide +kernel, by decide +kernel⟩
abbrev s_Program_condition : Stmt := inClass (topS 16) 11
theorem sc_Program_condition : FnScope ["self", "words"] ["self", "words"] (defScope s_Program_condition) := ⟨rfl, rfl, rfl, by decide +kernel, rfl, by decide +kernel, by decide +kernel⟩
/-- what stands at the names of the top, as far as the readers ask -/
structure En (P : Program) (w : World) (K : PySem.W.Frag) (mg : Str → Option Value) (base : Heap) (CL CP CT : Addr) (fNeed fNum fDoor : Addr) (dNeed dNum dDoor : FuncData) : Prop where
  B : Bt mg
  L : ClL K CL
  C : ClP K CP
  Mn : Mf K CL "need" "Lines.need" s_Lines_need fNeed dNeed ["self", "right"]
  Gn : FnOk P w K mg base (L2.CX P w) 4 fNeed dNeed ["self", "right"] (spNeed K CL CT)
  Du : Df K mg "number" s_number fNum dNum ["word", "many"]
  Gu : FnOk P w K mg base CX0 1 fNum dNum ["word", "many"] spNumber
  Dd : Df K mg "is_door" s_is_door fDoor dDoor ["value"]
  Gd : FnOk P w K mg base CX0 2 fDoor dDoor ["value"] spIsDoor
theorem meth_run {C a dx : Addr} {m : Str} {fs : List (Str × V)} {sp : Sp} {E : XK} {ta : TE} {t : TA} {σ : L2.St} {H : Hp} {Q : VK} (ho : Val ta σ H (.ref a)) (ha : H a = some (.ins C dx fs)) (hm : fs.lookup m = none) (h : t σ H fun vs H2 => sp (.ref a :: (vs ++ [])) H2 Q E) :
    tMeth C m sp [] E ta t σ H Q := ho _ ⟨a, dx, fs, rfl, ha, hm, h⟩
theorem tix_run {K : PySem.W.Frag} {to te : TE} {σ : L2.St} {H : Hp} {Q : VK} {p : Addr} {ys : List Str} {z : Str} {j : Nat} (ho : Val to σ H (.ref p)) (he : Val te σ H (.str z)) (hF : FT H p (ys.map V.str)) (hj : ys[j]? = some z) (hf : ∀ m, m < j → ys[m]? ≠ some z) (q : Q (.int (j : Nat)) H) :
    tTupIx K to (tCons te tNil) σ H Q := ho _ ⟨p, ys, rfl, hF, he _ ⟨z, j, rfl, hF.sq, hj, hf, q⟩⟩
theorem bm_run {K : PySem.W.Frag} {T : String} {r : V → List V → Hp → VK → Prop} {to : TE} {t : TA} {σ : L2.St} {H : Hp} {Q : VK} {x : V} (ho : Val to σ H x) (ht : tyV K T x H) (ha : t σ H fun vs H2 => r x vs H2 Q) : tBM K T r to t σ H Q := ho _ ⟨ht, ha⟩
section
variable {P : Program} {w : World} {K : PySem.W.Frag} {mg : Str → Option Value} {base : Heap} {CL CP CT fNeed fNum fDoor : Addr} {dNeed dNum dDoor : FuncData}
theorem ok_cell {f : Addr} {fd : FuncData} (N : En P w K mg base CL CP CT fNeed fNum fDoor dNeed dNum dDoor) (F : Fun K "cell" "Program.cell" s_Program_cell f fd) : FnOk P w K mg base (L2.CX P w) 5 f fd ["self", "word"] (spCell CL CP CT) := by
  refine F.okX sc_Program_cell (fun vs H Q E h => ?_) (fun cdv A0 outer s H vs Q E hr h => ?_)
  · obtain ⟨A, T, H0, n, m, xs, kvs, z, rfl, _⟩ := h
    rfl
  · obtain ⟨A, T, H0, n, m, xs, kvs, z, rfl, pw, tx, k, ke⟩ := h
    refine ⟨_, (pss_cons (ps_expr (pe_meth (pe_fld (pv 0) rfl) N.L.cl N.Mn.m N.Gn (hr.mono (by decide)) N.Mn.b .nil (pxp rfl rfl rfl rfl) (pa_cons (pe_cmpR op_in_seq (pv 1) (pe_fld (pv 0) rfl) (by rfl)) pa_nil)))
      (pss_one (ps_ret (pe_tupIx (pe_fld (pv 0) rfl) (pa_cons (pv 1) pa_nil))))), ?_⟩
    have hC : SqT K H A.ct (T.cells.map V.str) := pw.ct.sq
    refine meth_run (val_fld (val_var rfl) pw.pg N.C.cl N.C.lines pf_lines) pw.li.o (lf_no (by decide +kernel) (by decide +kernel)) ?_
    refine (val_inT (val_var rfl) (val_fld (val_var rfl) pw.pg N.C.cl N.C.cells pf_cells) hC) _ ?_
    refine ⟨A.l, A.dl, A.r, T.rows, n, _, _, rfl, pw.li, rfl, fun e => ?_, fun e => ke (of_decide_eq_false e)⟩
    have hz := of_decide_eq_true e
    obtain ⟨j, hj, hf⟩ := first_at hz
    exact tix_run (val_fld (val_var rfl) pw.pg N.C.cl N.C.cells pf_cells) (val_var rfl) pw.ct hj hf (k hz j)
theorem ok_source {f : Addr} {fd : FuncData} (N : En P w K mg base CL CP CT fNeed fNum fDoor dNeed dNum dDoor) (F : Fun K "source" "Program.source" s_Program_source f fd) : FnOk P w K mg base (L2.CX P w) 5 f fd ["self", "word"] (spSource CL CP CT) := by
  refine F.okX sc_Program_source (fun vs H Q E h => ?_) (fun cdv A0 outer s H vs Q E hr h => ?_)
  · obtain ⟨A, T, H0, n, m, xs, kvs, z, rfl, _⟩ := h
    rfl
  · obtain ⟨A, T, H0, n, m, xs, kvs, z, rfl, pw, tx, hz, k, ke⟩ := h
    have S := sc_Program_source
    refine ⟨_, (pss_cons (ps_if (pt_cmpR op_in_seq (pv 1) (pe_tup (pa_cons pe_str (pa_cons pe_str pa_nil))) (by rfl))
        (pss_one (ps_ret (pe_tup (pa_cons (pv 1) (pa_cons pe_int pa_nil)))))
        pss_nil)
      (pss_cons (ps_if (pt_cmpR op_in_seq (pv 1) (pe_fld (pv 0) rfl) (by rfl))
        (pss_one (ps_ret (pe_tup (pa_cons pe_str (pa_cons (pe_tupIx (pe_fld (pv 0) rfl) (pa_cons (pv 1) pa_nil)) pa_nil)))))
        pss_nil)
      (pss_cons (ps_set (i := 2) S.nd rfl (.inl rfl) (pe_call N.Gu (hr.mono (by decide)) (by rfl) N.Du.g N.Du.F.kp N.Du.b .nil pass0 (pa_cons (pv 1) (pa_cons (pe_fld (pv 0) rfl) pa_nil))))
      (pss_cons (ps_expr (pe_meth (pe_fld (pv 0) rfl) N.L.cl N.Mn.m N.Gn (hr.mono (by decide)) N.Mn.b .nil (pxp rfl rfl rfl rfl) (pa_cons (pe_cmpR op_ge (pv 2) pe_int (nomark _)) pa_nil)))
      (pss_one (ps_ret (pe_tup (pa_cons pe_str (pa_cons (pv 2) pa_nil))))))))), ?_⟩
    refine run_in2 (val_var rfl) fun H1 s1 => ⟨_, rfl, ?_⟩
    have p1 := pw.mono s1
    by_cases c1 : z ∈ (["it", "got"] : List Str)
    · rw [decide_eq_true c1]
      refine iteT ⟨_, rfl, by show 2 ≤ sizeLine; decide, fun p np => ?_⟩
      refine k ?_ _ _ (s1.trans (same_upd np)) ⟨p, _, _, rfl, upd_same, Nat.le_of_ble_eq_true rfl⟩
      unfold srcOk
      rw [decide_eq_true c1]
      rfl
    · rw [decide_eq_false c1]
      refine iteF ?_
      dsimp only [tNext, tSeq, tIfS]
      have hC : SqT K H1 A.ct (T.cells.map V.str) := p1.ct.sq
      refine (val_inT (val_var rfl) (val_fld (val_var rfl) p1.pg N.C.cl N.C.cells pf_cells) hC) _ ⟨_, rfl, ?_⟩
      by_cases c2 : z ∈ T.cells
      · rw [decide_eq_true c2]
        obtain ⟨j, hj, hf⟩ := first_at c2
        refine iteT ?_
        dsimp only [tRet, tTup, tCons, tC]
        refine tix_run (val_fld (val_var rfl) p1.pg N.C.cl N.C.cells pf_cells) (val_var rfl) p1.ct hj hf ?_
        refine ⟨by show 2 ≤ sizeLine; decide, fun p np => ?_⟩
        refine k ?_ _ _ (s1.trans (same_upd np)) ⟨p, _, _, rfl, upd_same, Nat.le_of_ble_eq_true rfl⟩
        unfold srcOk
        rw [decide_eq_true c2, Bool.or_true, Bool.true_or]
      · rw [decide_eq_false c2]
        refine iteF ?_
        dsimp only [tNext, tSeq, tAsg]
        refine (val_call (va_cons (val_var rfl) (va_cons (val_fld (val_var rfl) p1.pg N.C.cl N.C.worths pf_worths) va_nil)) fun Q q => ⟨z, T.w, rfl, by omega, q⟩) _ ?_
        refine meth_run (val_fld (val_var rfl) p1.pg N.C.cl N.C.lines pf_lines) p1.li.o (lf_no (by decide +kernel) (by decide +kernel)) ?_
        refine (val_i0b (val_var rfl) val_c) _ ?_
        have e : srcOk T z = decide (0 ≤ numOf z T.w) := by
          unfold srcOk
          rw [decide_eq_false c1, decide_eq_false c2]
          rfl
        refine ⟨A.l, A.dl, A.r, T.rows, n, _, _, rfl, p1.li, rfl, fun e2 => ?_, fun e2 => (ke (e.trans e2)).mono s1⟩
        refine ⟨_, rfl, by show 2 ≤ sizeLine; decide, fun p np => ?_⟩
        exact k (e.trans e2) _ _ (s1.trans (same_upd np)) ⟨p, _, _, rfl, upd_same, Nat.le_of_ble_eq_true rfl⟩
theorem dec_len {l : List V} {n : Nat} : decide (V.int (l.length : Int) = V.int (n : Int)) = decide (l.length = n) := by
  by_cases h : l.length = n
  · rw [h, decide_eq_true rfl, decide_eq_true rfl]
  · rw [decide_eq_false h]
    exact decide_eq_false fun e => by
      injection e with e
      omega
theorem ok_condition {f fS : Addr} {fd dS : FuncData} (N : En P w K mg base CL CP CT fNeed fNum fDoor dNeed dNum dDoor) (F : Fun K "condition" "Program.condition" s_Program_condition f fd) (M_source : Mf K CP "source" "Program.source" s_Program_source fS dS ["self", "word"]) : FnOk P w K mg base (L2.CX P w) 6 f fd ["self", "words"] (spCond CL CP CT) := by
  have G_source : FnOk P w K mg base (L2.CX P w) 5 fS dS ["self", "word"] (spSource CL CP CT) := ok_source N M_source.F
  refine F.okX sc_Program_condition (fun vs H Q E h => ?_) (fun cdv A0 outer s H vs Q E hr h => ?_)
  · obtain ⟨A, T, H0, n, m, xs, kvs, p, ws, rfl, _⟩ := h
    rfl
  · obtain ⟨A, T, H0, n, m, xs, kvs, p, ws, rfl, pw, tx, hp, hz, k, ke⟩ := h
    refine ⟨_, (pss_cons (ps_if (PW.pt (pw_and (pt_cmpR op_eq (pe_callB call_len_seq (by rfl) N.B.m_len PySem.boot_len (pa_cons (pv 1) pa_nil)) pe_int (nomark _)) (pw_and1 (pt_cmpR op_in_seq (pe_ix ix_list (pv 1) pe_int (fun _ _ => rfl)) (pe_tup (pa_cons pe_str (pa_cons pe_str pa_nil))) (by rfl)))))
        (pss_one (ps_ret (pe_tup (pa_cons (pe_ix ix_list (pv 1) pe_int (fun _ _ => rfl)) pa_nil))))
        pss_nil)
      (pss_cons (ps_expr (pe_meth (pe_fld (pv 0) rfl) N.L.cl N.Mn.m N.Gn (hr.mono (by decide)) N.Mn.b .nil (pxp rfl rfl rfl rfl) (pa_cons (pe_and (pe_cmpR op_eq (pe_callB call_len_seq (by rfl) N.B.m_len PySem.boot_len (pa_cons (pv 1) pa_nil)) pe_int (nomark _)) (pe_one (pe_cmpR op_in_seq (pe_ix ix_list (pv 1) pe_int (fun _ _ => rfl)) (pe_tup (pa_cons pe_str (pa_cons pe_str pa_nil))) (by rfl)))) pa_nil)))
      (pss_one (ps_ret (pe_tup (pa_cons (pe_ix ix_list (pv 1) pe_int (fun _ _ => rfl)) (pa_cons (pe_meth (pv 0) N.C.cl M_source.m G_source (hr.mono (by decide)) M_source.b .nil (pxp rfl rfl rfl rfl) (pa_cons (pe_ix ix_list (pv 1) pe_int (fun _ _ => rfl)) pa_nil)) (pa_cons (pe_meth (pv 0) N.C.cl M_source.m G_source (hr.mono (by decide)) M_source.b .nil (pxp rfl rfl rfl rfl) (pa_cons (pe_ix ix_list (pv 1) pe_int (fun _ _ => rfl)) pa_nil)) pa_nil)))))))), ?_⟩
    have hL : (ws.map V.str).length = ws.length := List.length_map ..
    have sq : ∀ {H' : Hp}, Same H H' → SqL K H' p (ws.map V.str) := fun e => SqL.of (e _ _ hp)
    -- what stands behind the first test, once it is false
    have tail : ∀ H1 : Hp, Same H H1 → (decide (ws.length = 1) && decide (ws.getD 0 "" ∈ (["lost", "busy"] : List Str))) = false → (tSeq (tDrop (tMeth CL "need" (spNeed K CL CT) [] E (tFld K (tVar 0) "lines") (tCons (tAndV (tOp rEq (tCB (rLenSq K) (tCons (tVar 1) tNil)) (tC (.int 3))) (tOp (rIn K false) (tOp (rIxL K) (tVar 1) (tC (.int 1))) (tTup (tCons (tC (.str "=")) (tCons (tC (.str "!=")) tNil))))) tNil)))
        (tRet (tTup (tCons (tOp (rIxL K) (tVar 1) (tC (.int 1))) (tCons (tMeth CP "source" (spSource CL CP CT) [] E (tVar 0) (tCons (tOp (rIxL K) (tVar 1) (tC (.int 0))) tNil)) (tCons (tMeth CP "source" (spSource CL CP CT) [] E (tVar 0) (tCons (tOp (rIxL K) (tVar 1) (tC (.int 2))) tNil)) tNil))))))
        { nx := fun _ H' => Q .non H', rt := Q } [some (.ref A.g), some (.ref p)] H1 := by
      intro H1 s1 hn
      have p1 := pw.mono s1
      refine meth_run (val_fld (val_var rfl) p1.pg N.C.cl N.C.lines pf_lines) p1.li.o (lf_no (by decide +kernel) (by decide +kernel)) ?_
      refine (val_op (val_lenL (val_var rfl) (sq s1)) val_c fun Q q => ⟨rfl, q⟩) _ ⟨_, rfl, ?_⟩
      rw [show (V.int 3) = V.int ((3 : Nat) : Int) from rfl, dec_len, hL]
      have e0 : condOk T ws = (decide (ws.length = 3) && decide (ws.getD 1 "" ∈ (["=", "!="] : List Str)) && srcOk T (ws.getD 0 "") && srcOk T (ws.getD 2 "")) := by
        unfold condOk
        rw [hn, Bool.false_or]
      by_cases c : ws.length = 3
      · obtain ⟨a, b, d, rfl⟩ : ∃ a b d, ws = [a, b, d] := by
          match ws, c with
          | [a, b, d], _ => exact ⟨a, b, d, rfl⟩
        rw [decide_eq_true c]
        refine iteT (run_in2 (val_ixL (val_var rfl) val_c (sq s1) (atI_nat (j := 1) rfl)) fun H2 s2 => ?_)
        have s12 := s1.trans s2
        have p2 := pw.mono s12
        refine ⟨A.l, A.dl, A.r, T.rows, n, _, _, rfl, p2.li, rfl, fun e2 => ?_, fun e2 => ErrK.mono (ke ?_) s12⟩
        · refine (val_ixL (val_var rfl) val_c (sq s12) (atI_nat (j := 1) rfl)) _ ?_
          have ez : condOk T [a, b, d] = (srcOk T a && srcOk T d) := by
            rw [e0]
            show (true && decide (b ∈ (["=", "!="] : List Str)) && srcOk T a && srcOk T d) = _
            rw [e2]
            rfl
          refine meth_run (val_var rfl) p2.pg (pf_no (by decide +kernel)) ?_
          refine (val_ixL (val_var rfl) val_c (sq s12) (atI_nat (j := 0) rfl)) _ ?_
          refine ⟨A, T, H0, n, m, xs, kvs, a, rfl, p2, tx, hz _ (by simp), fun ea H3 x s3 hx => ?_, fun ea => ErrK.mono (ke (by rw [ez, ea]; rfl)) s12⟩
          have s13 := s12.trans s3
          have p3 := pw.mono s13
          refine meth_run (val_var rfl) p3.pg (pf_no (by decide +kernel)) ?_
          refine (val_ixL (val_var rfl) val_c (sq s13) (atI_nat (j := 2) rfl)) _ ?_
          refine ⟨A, T, H0, n, m, xs, kvs, d, rfl, p3, tx, hz _ (by simp), fun ed H4 y s4 hy => ?_, fun ed => ErrK.mono (ke (by rw [ez, ed, Bool.and_false])) s13⟩
          refine ⟨by show 3 ≤ sizeLine; decide, fun q nq => ?_⟩
          exact k (by rw [ez, ea, ed]; rfl) _ _ ((s13.trans s4).trans (same_upd nq)) ⟨q, _, _, rfl, upd_same, Nat.le_of_ble_eq_true rfl⟩
        · rw [e0]
          show (true && decide (b ∈ (["=", "!="] : List Str)) && srcOk T a && srcOk T d) = _
          rw [e2]
          rfl
      · rw [decide_eq_false c]
        refine iteF ⟨A.l, A.dl, A.r, T.rows, n, _, false, rfl, p1.li, rfl, fun q => Bool.noConfusion q, fun _ => ErrK.mono (ke ?_) s1⟩
        rw [e0, decide_eq_false c]
        rfl
    refine (ans_eq (val_lenL (val_var rfl) (sq (Same.refl H))) val_c rfl rfl) _ ?_
    rw [show (V.int 1) = V.int ((1 : Nat) : Int) from rfl, dec_len, hL]
    by_cases c : ws.length = 1
    · obtain ⟨a, rfl⟩ : ∃ a, ws = [a] := by
        match ws, c with
        | [a], _ => exact ⟨a, rfl⟩
      rw [decide_eq_true c]
      refine iteT (run_in2 (val_ixL (val_var rfl) val_c (sq (Same.refl H)) (atI_nat (j := 0) rfl)) fun H1 s1 => ⟨_, rfl, ?_⟩)
      cases c2 : decide (a ∈ (["lost", "busy"] : List Str)) with
      | true =>
        refine iteT ((val_ixL (val_var rfl) val_c (sq s1) (atI_nat (j := 0) rfl)) _ ⟨by show 1 ≤ sizeLine; decide, fun q nq => ?_⟩)
        refine k ?_ _ _ (s1.trans (same_upd nq)) ⟨q, _, _, rfl, upd_same, Nat.le_of_ble_eq_true rfl⟩
        show (true && decide (a ∈ (["lost", "busy"] : List Str)) || _) = true
        rw [c2]
        rfl
      | false => exact iteF (tail H1 s1 (by show (true && decide (a ∈ (["lost", "busy"] : List Str))) = false; rw [c2]; rfl))
    · rw [decide_eq_false c]
      exact iteF (iteF (tail H (Same.refl H) (by rw [decide_eq_false c]; rfl)))
end
end K5
namespace K5
open PySem PySem.Spec PyProof.Rows L2
abbrev s_Program_ask_step : Stmt := inClass (topS 16) 8
theorem sc_Program_ask_step : FnScope ["self", "port", "door", "word", "source"] ["self", "port", "door", "word"] (defScope s_Program_ask_step) := ⟨rfl, rfl, rfl, by decide +kernel, rfl, by decide +kernel, by decide +kernel⟩
abbrev s_Program_plain_step : Stmt := inClass (topS 16) 7
theorem sc_Program_plain_step : FnScope ["self", "words", "word", "rest"] ["self", "words"] (defScope s_Program_plain_step) := ⟨rfl, rfl, rfl, by decide +kernel, rfl, by decide +kernel, by decide +kernel⟩
def askOk (T : Tx) (p d z : Str) : Bool := decide (p ∈ T.ports) && isDoor d && srcOk T z
def plainOk (T : Tx) (ws : List Str) : Bool := match ws with
  | [] => false
  | x :: r =>
    if (decide (x ∈ (["set", "add"] : List Str)) && decide (r.length = 2)) = true then decide (r.getD 0 "" ∈ T.cells) && srcOk T (r.getD 1 "")
    else if (decide (x = ("draw" : Str)) && decide (r.length = 1)) = true then decide (r.getD 0 "" ∈ T.cells)
    else if (decide (x = ("ask" : Str)) && decide (r.length = 3)) = true then askOk T (r.getD 0 "") (r.getD 1 "") (r.getD 2 "")
    else if (decide (x = ("answer" : Str)) && decide (r.length = 1)) = true then srcOk T (r.getD 0 "")
    else decide (ws = (["fail"] : List Str))
/-- what a step's reading leaves -/
def StepQ (CL CP : Addr) (A : Ad) (T : Tx) (H0 : Hp) (n m : Nat) (xs : List V) (kvs : List (Key × V)) (Q : VK) : Prop :=
  ∀ (H' : Hp) (x : V) (kvs' : List (Key × V)), Wd CL CP A T H0 H' n m xs kvs' → kvs'.length ≤ kvs.length + 1 → StepAt H' x → Q x H'
def spAsk (CL CP CT : Addr) : Sp := fun vs H Q E => ∃ (A : Ad) (T : Tx) (H0 : Hp) (n m : Nat) (xs : List V) (kvs : List (Key × V)) (p d z : Str), vs = [.ref A.g, .str p, .str d, .str z] ∧ Wd CL CP A T H0 H n m xs kvs ∧ TxOk T ∧
  d.length ≤ 10000 ∧ z.length ≤ 10000 ∧ kvs.length ≤ 1000 ∧ xs.length ≤ 1000 ∧
  (askOk T p d z = true → StepQ CL CP A T H0 n m xs kvs Q) ∧ (askOk T p d z = false → ErrK CT (.int n) H0 E)
def spPlain (CL CP CT : Addr) : Sp := fun vs H Q E => ∃ (A : Ad) (T : Tx) (H0 : Hp) (n m : Nat) (xs : List V) (kvs : List (Key × V)) (p : Addr) (ws : List Str), vs = [.ref A.g, .ref p] ∧ Wd CL CP A T H0 H n m xs kvs ∧ TxOk T ∧
  H p = some (.lst (ws.map V.str)) ∧ ws ≠ [] ∧ (∀ z ∈ ws, PyData.strOk z = true ∧ z.length ≤ 10000) ∧ ws.length ≤ 10001 ∧ kvs.length ≤ 1000 ∧ xs.length ≤ 1000 ∧
  (plainOk T ws = true → StepQ CL CP A T H0 n m xs kvs Q) ∧ (plainOk T ws = false → ErrK CT (.int n) H0 E)
theorem putK_le (kvs : List (Key × V)) (k : Key) (v : V) : (putK kvs k v).length ≤ kvs.length + 1 := by
  unfold putK
  split
  · rw [List.length_map]
    omega
  · rw [List.length_append]
    exact Nat.le_refl _
section
variable {P : Program} {w : World} {K : PySem.W.Frag} {mg : Str → Option Value} {base : Heap} {CL CP CT fNeed fNum fDoor : Addr} {dNeed dNum dDoor : FuncData}
theorem ok_ask_step {f fS : Addr} {fd dS : FuncData} (N : En P w K mg base CL CP CT fNeed fNum fDoor dNeed dNum dDoor) (F : Fun K "ask_step" "Program.ask_step" s_Program_ask_step f fd) (M_source : Mf K CP "source" "Program.source" s_Program_source fS dS ["self", "word"]) : FnOk P w K mg base (L2.CX P w) 6 f fd ["self", "port", "door", "word"] (spAsk CL CP CT) := by
  have G_source : FnOk P w K mg base (L2.CX P w) 5 fS dS ["self", "word"] (spSource CL CP CT) := ok_source N M_source.F
  refine F.okX sc_Program_ask_step (fun vs H Q E h => ?_) (fun cdv A0 outer s H vs Q E hr h => ?_)
  · obtain ⟨A, T, H0, n, m, xs, kvs, p, d, z, rfl, _⟩ := h
    rfl
  · obtain ⟨A, T, H0, n, m, xs, kvs, p, d, z, rfl, pw, tx, hd, hz, hkv, hxs, k, ke⟩ := h
    have S := sc_Program_ask_step
    refine ⟨_, (pss_cons (ps_expr (pe_meth (pe_fld (pv 0) rfl) N.L.cl N.Mn.m N.Gn (hr.mono (by decide)) N.Mn.b .nil (pxp rfl rfl rfl rfl) (pa_cons (pe_and (pe_cmpR op_in_seq (pv 1) (pe_fld (pv 0) rfl) (by rfl)) (pe_one (pe_call N.Gd (hr.mono (by decide)) (by rfl) N.Dd.g N.Dd.F.kp N.Dd.b .nil pass0 (pa_cons (pv 2) pa_nil)))) pa_nil)))
      (pss_cons (ps_set (i := 4) S.nd rfl (.inl rfl) (pe_meth (pv 0) N.C.cl M_source.m G_source (hr.mono (by decide)) M_source.b .nil (pxp rfl rfl rfl rfl) (pa_cons (pv 3) pa_nil)))
      (pss_cons (ps_dput (hu_of hr) (pe_fld (pv 0) rfl) (pe_fld (pe_fld (pv 0) rfl) rfl) (pe_tup (pa_cons (pe_op op_add (pe_callB call_len_seq (by rfl) N.B.m_len PySem.boot_len (pa_cons (pe_fld (pv 0) rfl) pa_nil)) pe_int) (pa_cons (pv 1) (pa_cons (pv 2) pa_nil)))) rfl)
      (pss_one (ps_ret (pe_tup (pa_cons pe_str (pa_cons (pv 1) (pa_cons (pv 2) (pa_cons (pv 4) (pa_cons (pe_fld (pe_fld (pv 0) rfl) rfl) pa_nil))))))))))), ?_⟩
    refine meth_run (val_fld (val_var rfl) pw.pg N.C.cl N.C.lines pf_lines) pw.li.o (lf_no (by decide +kernel) (by decide +kernel)) ?_
    refine (val_andV (val_inT (val_var rfl) (val_fld (val_var rfl) pw.pg N.C.cl N.C.ports pf_ports) (SqT.of pw.pt)) fun _ => val_call (va_cons (val_var rfl) va_nil) fun Q q => ⟨d, rfl, by omega, q⟩) _ ?_
    refine ⟨A.l, A.dl, A.r, T.rows, n, _, _, rfl, pw.li, rfl, fun e => ?_, fun e => ErrK.mono (ke (by unfold askOk; rw [e]; rfl)) pw.s0⟩
    have ea : askOk T p d z = srcOk T z := by
      unfold askOk
      rw [e]
      rfl
    dsimp only [tNext, tSeq, tAsg]
    refine meth_run (val_var rfl) pw.pg (pf_no (by decide +kernel)) ?_
    refine (val_var rfl) _ ?_
    refine ⟨A, T, H0, n, m, xs, kvs, z, rfl, pw, tx, hz, fun es H1 x s1 hx => ?_, fun es => ErrK.mono (ke (ea.trans es)) pw.s0⟩
    have p1 := pw.mono s1
    dsimp only [gName]
    -- self.asks[self.lines.at] = ..
    refine (val_i0 (val_lenL (val_fld (val_var rfl) p1.pg N.C.cl N.C.steps pf_steps) (SqL.of p1.st)) val_c) _ ?_
    refine ⟨_, rfl, _, rfl, by show 3 ≤ sizeLine; decide, fun q nq => ?_⟩
    have p2 := p1.mono (same_upd (o := .tup [.int ((xs.length : Int) + 1), .str p, .str d]) nq)
    refine (val_fld (val_var rfl) p2.pg N.C.cl N.C.asks pf_asks) _ ?_
    refine (val_fld (val_fld (val_var rfl) p2.pg N.C.cl N.C.lines pf_lines) p2.li.o N.L.cl N.L.na lf_at) _ ?_
    refine ⟨A.ak, _, rfl, DPut.k (k := .inl (n : Int)) p2.ak (small1000 hkv), ?_⟩
    have hx2 := hx.mono (same_upd (o := .tup [.int ((xs.length : Int) + 1), .str p, .str d]) nq)
    generalize (upd H1 q (.tup [.int ((xs.length : Int) + 1), .str p, .str d])) = H2 at p2 hx2
    -- the dict has changed
    have nak : ∀ {b : Addr} {o : HO}, H2 b = some o → (∀ kv, o ≠ .dK kv) → b ≠ A.ak := fun h1 h2 e2 => by
      rw [e2, p2.ak] at h1
      exact h2 _ (Option.some.inj h1).symm
    have keep : ∀ {b : Addr} {o : HO}, H2 b = some o → (∀ kv, o ≠ .dK kv) → (upd H2 A.ak (.dK (putK kvs (.inl (n : Int)) (.ref q)))) b = some o := fun h1 h2 => by
      rw [upd_ne (nak h1 h2)]
      exact h1
    have stp : ∀ {y : V}, StepAt H2 y → StepAt (upd H2 A.ak (.dK (putK kvs (.inl (n : Int)) (.ref q)))) y := fun hy => by
      obtain ⟨a, y, ys, e1, h1, h2⟩ := hy
      exact ⟨a, y, ys, e1, keep h1 (fun _ z => nomatch z), h2⟩
    have p3 : Wd CL CP A T H0 (upd H2 A.ak (.dK (putK kvs (.inl (n : Int)) (.ref q)))) n m xs (putK kvs (.inl (n : Int)) (.ref q)) := {
      s0 := fun b o h1 => by
        rw [upd_ne (ne_of_none h1 p2.ak0)]
        exact p2.s0 b o h1
      l0 := p2.l0
      g0 := p2.g0
      st0 := p2.st0
      ak0 := p2.ak0
      lg := p2.lg
      li := ⟨keep p2.li.o (fun _ z => nomatch z), keep p2.li.r (fun _ z => nomatch z), p2.li.le⟩
      pg := keep p2.pg (fun _ z => nomatch z)
      ct := by
        obtain ⟨ob, h1, h2⟩ := p2.ct
        exact ⟨ob, keep h1 (fun _ z => nomatch z), h2⟩
      pt := keep p2.pt (fun _ z => nomatch z)
      st := keep p2.st (fun _ z => nomatch z)
      sx := fun y hy => by
        obtain ⟨a, y, ys, e1, h1, h2⟩ := p2.sx y hy
        exact ⟨a, y, ys, e1, keep h1 (fun _ z => nomatch z), h2⟩
      ak := upd_same
      rst := p2.rst }
    have hx3 := stp hx2
    refine ⟨_, rfl, _, rfl, _, rfl, ?_⟩
    refine (val_fld (val_fld (val_var rfl) p3.pg N.C.cl N.C.lines pf_lines) p3.li.o N.L.cl N.L.na lf_at) _ ?_
    refine ⟨by show 5 ≤ sizeLine; decide, fun q2 nq2 => ?_⟩
    exact k (ea.trans es) _ _ _ (p3.mono (same_upd nq2)) (putK_le _ _ _) ⟨q2, _, _, rfl, upd_same, Nat.le_of_ble_eq_true rfl⟩
theorem dec_str {x y : Str} : decide (V.str x = V.str y) = decide (x = y) := by
  by_cases h : x = y
  · rw [h, decide_eq_true rfl, decide_eq_true rfl]
  · rw [decide_eq_false h]
    exact decide_eq_false fun e => by
      injection e with e
      exact h e
theorem ok_plain_step {f fS fC fA : Addr} {fd dS dC dA : FuncData} (N : En P w K mg base CL CP CT fNeed fNum fDoor dNeed dNum dDoor) (F : Fun K "plain_step" "Program.plain_step" s_Program_plain_step f fd) (M_source : Mf K CP "source" "Program.source" s_Program_source fS dS ["self", "word"]) (M_cell : Mf K CP "cell" "Program.cell" s_Program_cell fC dC ["self", "word"]) (M_ask_step : Mf K CP "ask_step" "Program.ask_step" s_Program_ask_step fA dA ["self", "port", "door", "word"]) :
    FnOk P w K mg base (L2.CX P w) 7 f fd ["self", "words"] (spPlain CL CP CT) := by
  have G_source : FnOk P w K mg base (L2.CX P w) 5 fS dS ["self", "word"] (spSource CL CP CT) := ok_source N M_source.F
  have G_cell : FnOk P w K mg base (L2.CX P w) 5 fC dC ["self", "word"] (spCell CL CP CT) := ok_cell N M_cell.F
  have G_ask_step : FnOk P w K mg base (L2.CX P w) 6 fA dA ["self", "port", "door", "word"] (spAsk CL CP CT) := ok_ask_step N M_ask_step.F M_source
  refine F.okX sc_Program_plain_step (fun vs H Q E h => ?_) (fun cdv A0 outer s H vs Q E hr h => ?_)
  · obtain ⟨A, T, H0, n, m, xs, kvs, p, ws, rfl, _⟩ := h
    rfl
  · obtain ⟨A, T, H0, n, m, xs, kvs, p, ws, rfl, pw, tx, hp, hne, hz, hwl, hkv, hxs, k, ke⟩ := h
    have S := sc_Program_plain_step
    refine ⟨_, (pss_cons (ps_asg (pv 1) (pg_star (by rfl) (pg_name (i := 2) S.nd rfl (.inl rfl)) (pg_name (i := 3) S.nd rfl (.inl rfl))))
      (pss_cons (ps_if (PW.pt (pw_and (pt_cmpR op_in_seq (pv 2) (pe_tup (pa_cons pe_str (pa_cons pe_str pa_nil))) (by rfl)) (pw_and1 (pt_cmpR op_eq (pe_callB call_len_seq (by rfl) N.B.m_len PySem.boot_len (pa_cons (pv 3) pa_nil)) pe_int (nomark _)))))
        (pss_one (ps_ret (pe_tup (pa_cons (pv 2) (pa_cons (pe_meth (pv 0) N.C.cl M_cell.m G_cell (hr.mono (by decide)) M_cell.b .nil (pxp rfl rfl rfl rfl) (pa_cons (pe_ix ix_list (pv 3) pe_int (fun _ _ => rfl)) pa_nil)) (pa_cons (pe_meth (pv 0) N.C.cl M_source.m G_source (hr.mono (by decide)) M_source.b .nil (pxp rfl rfl rfl rfl) (pa_cons (pe_ix ix_list (pv 3) pe_int (fun _ _ => rfl)) pa_nil)) pa_nil))))))
        pss_nil)
      (pss_cons (ps_if (PW.pt (pw_and (pt_cmpR op_eq (pv 2) pe_str (nomark _)) (pw_and1 (pt_cmpR op_eq (pe_callB call_len_seq (by rfl) N.B.m_len PySem.boot_len (pa_cons (pv 3) pa_nil)) pe_int (nomark _)))))
        (pss_one (ps_ret (pe_tup (pa_cons (pv 2) (pa_cons (pe_meth (pv 0) N.C.cl M_cell.m G_cell (hr.mono (by decide)) M_cell.b .nil (pxp rfl rfl rfl rfl) (pa_cons (pe_ix ix_list (pv 3) pe_int (fun _ _ => rfl)) pa_nil)) pa_nil)))))
        pss_nil)
      (pss_cons (ps_if (PW.pt (pw_and (pt_cmpR op_eq (pv 2) pe_str (nomark _)) (pw_and1 (pt_cmpR op_eq (pe_callB call_len_seq (by rfl) N.B.m_len PySem.boot_len (pa_cons (pv 3) pa_nil)) pe_int (nomark _)))))
        (pss_one (ps_ret (pe_meth (pv 0) N.C.cl M_ask_step.m G_ask_step (hr.mono (by decide)) M_ask_step.b .nil (pxp rfl rfl rfl rfl) (pa_cons (pe_ix ix_list (pv 3) pe_int (fun _ _ => rfl)) (pa_cons (pe_ix ix_list (pv 3) pe_int (fun _ _ => rfl)) (pa_cons (pe_ix ix_list (pv 3) pe_int (fun _ _ => rfl)) pa_nil))))))
        pss_nil)
      (pss_cons (ps_if (PW.pt (pw_and (pt_cmpR op_eq (pv 2) pe_str (nomark _)) (pw_and1 (pt_cmpR op_eq (pe_callB call_len_seq (by rfl) N.B.m_len PySem.boot_len (pa_cons (pv 3) pa_nil)) pe_int (nomark _)))))
        (pss_one (ps_ret (pe_tup (pa_cons (pv 2) (pa_cons (pe_meth (pv 0) N.C.cl M_source.m G_source (hr.mono (by decide)) M_source.b .nil (pxp rfl rfl rfl rfl) (pa_cons (pe_ix ix_list (pv 3) pe_int (fun _ _ => rfl)) pa_nil)) pa_nil)))))
        pss_nil)
      (pss_cons (ps_expr (pe_meth (pe_fld (pv 0) rfl) N.L.cl N.Mn.m N.Gn (hr.mono (by decide)) N.Mn.b .nil (pxp rfl rfl rfl rfl) (pa_cons (pe_cmpR (op_eqD (by have := hr.units; exact this)) (pv 1) (pe_lst (pa_cons pe_str pa_nil)) (nomark _)) pa_nil)))
      (pss_one (ps_ret (pe_tup (pa_cons pe_str pa_nil)))))))))), ?_⟩
    obtain ⟨x, r, rfl⟩ : ∃ x r, ws = x :: r := by
      cases ws with
      | nil => exact absurd rfl hne
      | cons x r => exact ⟨x, r, rfl⟩
    refine ⟨_, rfl, p, .str x, r.map V.str, rfl, SqL.of hp, by rw [List.length_map]; rw [List.length_cons] at hwl; omega, fun q nq => ?_⟩
    have s1 : Same H (upd H q (.lst (r.map V.str))) := same_upd nq
    have hq : (upd H q (.lst (r.map V.str))) q = some (.lst (r.map V.str)) := upd_same
    generalize (upd H q (.lst (r.map V.str))) = H1 at s1 hq
    have hL : (r.map V.str).length = r.length := List.length_map ..
    have sq : ∀ {H' : Hp}, Same H1 H' → SqL K H' q (r.map V.str) := fun e => SqL.of (e _ _ hq)
    have hr0 : ∀ z ∈ r, z.length ≤ 10000 := fun z h => (hz z (List.mem_cons_of_mem _ h)).2
    have err : ∀ {H' : Hp}, Same H H' → plainOk T (x :: r) = false → ErrK CT (.int n) H' E := fun e h => ErrK.mono (ke h) (pw.s0.trans e)
    -- set, add
    refine run_in2 (val_var rfl) fun H2 s2 => ⟨_, rfl, ?_⟩
    have s12 := s1.trans s2
    have p2 := pw.mono s12
    have vlen : ∀ {H' : Hp} (e : Same H1 H') (j : Nat), Ans (tTest (tOp rEq (tCB (rLenSq K) (tCons (tVar 3) tNil)) (tC (.int (j : Int))))) [some (.ref A.g), some (.ref p), some (.str x), some (.ref q)] H' (decide (r.length = j)) := fun e j Q2 q2 => by
      refine (ans_eq (val_lenL (val_var rfl) (sq e)) val_c rfl rfl) _ ?_
      rw [dec_len, hL]
      exact q2
    have vix : ∀ {H' : Hp} (e : Same H1 H') (j : Nat) (z : Str), r[j]? = some z → Val (tOp (rIxL K) (tVar 3) (tC (.int (j : Int)))) [some (.ref A.g), some (.ref p), some (.str x), some (.ref q)] H' (.str z) := fun e j z hj =>
      val_ixL (val_var rfl) val_c (sq e) (atI_nat (by rw [List.getElem?_map, hj]; rfl))
    have vis : ∀ {H' : Hp} (y : Str), Ans (tTest (tOp rEq (tVar 2) (tC (.str y)))) [some (.ref A.g), some (.ref p), some (.str x), some (.ref q)] H' (decide (x = y)) := fun y Q2 q2 => by
      refine (ans_eq2 (val_var rfl) val_c rfl) _ ?_
      rw [dec_str]
      exact q2
    have ePl : plainOk T (x :: r) = (if (decide (x ∈ (["set", "add"] : List Str)) && decide (r.length = 2)) = true then decide (r.getD 0 "" ∈ T.cells) && srcOk T (r.getD 1 "")
      else if (decide (x = ("draw" : Str)) && decide (r.length = 1)) = true then decide (r.getD 0 "" ∈ T.cells)
      else if (decide (x = ("ask" : Str)) && decide (r.length = 3)) = true then askOk T (r.getD 0 "") (r.getD 1 "") (r.getD 2 "")
      else if (decide (x = ("answer" : Str)) && decide (r.length = 1)) = true then srcOk T (r.getD 0 "")
      else decide ((x :: r) = (["fail"] : List Str))) := rfl
    have st1 : ∀ Q2 : Bool → Hp → Prop, Q2 (decide (x ∈ (["set", "add"] : List Str)) && decide (r.length = 2)) H2 → (if decide (x ∈ (["set", "add"] : List Str)) = true then tTest (tOp rEq (tCB (rLenSq K) (tCons (tVar 3) tNil)) (tC (.int 2))) [some (.ref A.g), some (.ref p), some (.str x), some (.ref q)] H2 Q2 else Q2 false H2) := by
      intro Q2
      cases decide (x ∈ (["set", "add"] : List Str)) with
      | true => exact fun q2 => iteT (vlen s2 2 _ (by rw [Bool.true_and] at q2; exact q2))
      | false => exact fun q2 => iteF q2
    refine st1 _ ?_
    cases c1 : (decide (x ∈ (["set", "add"] : List Str)) && decide (r.length = 2)) with
    | true =>
      rw [c1, if_pos rfl] at ePl
      obtain ⟨a, b, rfl⟩ : ∃ a b, r = [a, b] := by
        rw [Bool.and_eq_true] at c1
        match r, of_decide_eq_true c1.2 with
        | [a, b], _ => exact ⟨a, b, rfl⟩
      have ePl' : plainOk T [x, a, b] = (decide (a ∈ T.cells) && srcOk T b) := ePl
      refine iteT ?_
      dsimp only [tRet, tTup]
      refine (val_var rfl) _ ?_
      refine meth_run (val_var rfl) p2.pg (pf_no (by decide +kernel)) ?_
      refine (vix s2 0 a rfl) _ ?_
      refine ⟨A, T, H0, n, m, xs, kvs, a, rfl, p2, tx, fun hc i => ?_, fun hc => err s12 (by rw [ePl', decide_eq_false hc]; rfl)⟩
      refine meth_run (val_var rfl) p2.pg (pf_no (by decide +kernel)) ?_
      refine (vix s2 1 b rfl) _ ?_
      refine ⟨A, T, H0, n, m, xs, kvs, b, rfl, p2, tx, hr0 _ (by simp), fun hs H3 y s3 hy => ?_, fun hs => err s12 (by rw [ePl', hs, Bool.and_false])⟩
      refine ⟨by show 3 ≤ sizeLine; decide, fun o no => ?_⟩
      exact k (by rw [ePl', decide_eq_true hc, hs]; rfl) _ _ _ ((p2.mono s3).mono (same_upd no)) (Nat.le_succ _) ⟨o, _, _, rfl, upd_same, Nat.le_of_ble_eq_true rfl⟩
    | false =>
      rw [c1, if_neg Bool.false_ne_true] at ePl
      refine iteF ?_
      dsimp only [tNext, tSeq, tIfS]
      -- draw
      refine (ans_and3 (vis "draw") fun _ => vlen s2 1) _ ?_
      cases c2 : (decide (x = ("draw" : Str)) && decide (r.length = 1)) with
      | true =>
        rw [c2, if_pos rfl] at ePl
        obtain ⟨a, rfl⟩ : ∃ a, r = [a] := by
          rw [Bool.and_eq_true] at c2
          match r, of_decide_eq_true c2.2 with
          | [a], _ => exact ⟨a, rfl⟩
        have ePl' : plainOk T [x, a] = decide (a ∈ T.cells) := ePl
        refine iteT ?_
        dsimp only [tRet, tTup]
        refine (val_var rfl) _ ?_
        refine meth_run (val_var rfl) p2.pg (pf_no (by decide +kernel)) ?_
        refine (vix s2 0 a rfl) _ ?_
        refine ⟨A, T, H0, n, m, xs, kvs, a, rfl, p2, tx, fun hc i => ?_, fun hc => err s12 (by rw [ePl', decide_eq_false hc])⟩
        refine ⟨by show 2 ≤ sizeLine; decide, fun o no => ?_⟩
        exact k (by rw [ePl', decide_eq_true hc]) _ _ _ (p2.mono (same_upd no)) (Nat.le_succ _) ⟨o, _, _, rfl, upd_same, Nat.le_of_ble_eq_true rfl⟩
      | false =>
        rw [c2, if_neg Bool.false_ne_true] at ePl
        refine iteF ?_
        -- ask
        refine (ans_and3 (vis "ask") fun _ => vlen s2 3) _ ?_
        cases c3 : (decide (x = ("ask" : Str)) && decide (r.length = 3)) with
        | true =>
          rw [c3, if_pos rfl] at ePl
          obtain ⟨a, b, d, rfl⟩ : ∃ a b d, r = [a, b, d] := by
            rw [Bool.and_eq_true] at c3
            match r, of_decide_eq_true c3.2 with
            | [a, b, d], _ => exact ⟨a, b, d, rfl⟩
          have ePl' : plainOk T [x, a, b, d] = askOk T a b d := ePl
          refine iteT ?_
          refine meth_run (val_var rfl) p2.pg (pf_no (by decide +kernel)) ?_
          refine (vix s2 0 a rfl) _ ?_
          refine (vix s2 1 b rfl) _ ?_
          refine (vix s2 2 d rfl) _ ?_
          exact ⟨A, T, H0, n, m, xs, kvs, a, b, d, rfl, p2, tx, hr0 _ (by simp), hr0 _ (by simp), hkv, hxs, fun hs => k (ePl'.trans hs), fun hs => ke (ePl'.trans hs)⟩
        | false =>
          rw [c3, if_neg Bool.false_ne_true] at ePl
          refine iteF ?_
          -- answer
          refine (ans_and3 (vis "answer") fun _ => vlen s2 1) _ ?_
          cases c4 : (decide (x = ("answer" : Str)) && decide (r.length = 1)) with
          | true =>
            rw [c4, if_pos rfl] at ePl
            obtain ⟨a, rfl⟩ : ∃ a, r = [a] := by
              rw [Bool.and_eq_true] at c4
              match r, of_decide_eq_true c4.2 with
              | [a], _ => exact ⟨a, rfl⟩
            have ePl' : plainOk T [x, a] = srcOk T a := ePl
            refine iteT ?_
            dsimp only [tRet, tTup]
            refine (val_var rfl) _ ?_
            refine meth_run (val_var rfl) p2.pg (pf_no (by decide +kernel)) ?_
            refine (vix s2 0 a rfl) _ ?_
            refine ⟨A, T, H0, n, m, xs, kvs, a, rfl, p2, tx, hr0 _ (by simp), fun hs H3 y s3 hy => ?_, fun hs => err s12 (ePl'.trans hs)⟩
            refine ⟨by show 2 ≤ sizeLine; decide, fun o no => ?_⟩
            exact k (ePl'.trans hs) _ _ _ ((p2.mono s3).mono (same_upd no)) (Nat.le_succ _) ⟨o, _, _, rfl, upd_same, Nat.le_of_ble_eq_true rfl⟩
          | false =>
            rw [c4, if_neg Bool.false_ne_true] at ePl
            refine iteF ?_
            try dsimp only [tNext, tSeq, tDrop]
            -- fail
            refine meth_run (val_fld (val_var rfl) p2.pg N.C.cl N.C.lines pf_lines) p2.li.o (lf_no (by decide +kernel) (by decide +kernel)) ?_
            refine (val_var rfl) _ ?_
            refine ⟨by show 1 ≤ sizeLine; decide, fun o no => ?_⟩
            have s3 := same_upd (o := .lst [V.str "fail"]) no
            have p3 := p2.mono s3
            refine ⟨.list ((x :: r).map PyData.str), .list (([("fail" : Str)] : List Str).map PyData.str), .lst (SqL.of (s3 _ _ (s12 _ _ hp))) (dpAll_strs _), .lst (SqL.of upd_same) (dpAll_strs ["fail"]), shaped_strs fun y hy => (hz y hy).1, by decide +kernel, ?_⟩
            have e : PyData.eqv (.list ((x :: r).map PyData.str)) (.list ((["fail"] : List Str).map PyData.str)) = decide ((x :: r) = (["fail"] : List Str)) := by
              rw [PyData.eqv]
              exact eqv_strs _ _
            rw [e]
            refine ⟨A.l, A.dl, A.r, T.rows, n, _, _, rfl, p3.li, rfl, fun e2 => ?_, fun e2 => err (s12.trans s3) (ePl.trans e2)⟩
            refine ⟨by show 1 ≤ sizeLine; decide, fun o2 no2 => ?_⟩
            exact k (ePl.trans e2) _ _ _ (p3.mono (same_upd no2)) (Nat.le_succ _) ⟨o2, _, _, rfl, upd_same, Nat.le_of_ble_eq_true rfl⟩
end
end K5
namespace K5
open PySem PySem.Spec PyProof.Rows L2
/-! ### xs[i] += (v,) -/
theorem no_tup_iadd : typeLookup (.type "tuple") (dunderI "add") = pure none := by
  rw [typeLookup_type, builtinLookup_eq_fast]
  kernel_rfl
def rCatN (K : PySem.W.Frag) : R2 := fun x y H Q => ∃ (a b : Addr) (xs ys : List V), x = .ref a ∧ y = .ref b ∧ SqT K H a xs ∧ SqT K H b ys ∧ xs ≠ [] ∧ ys ≠ [] ∧ xs.length + ys.length ≤ sizeLine ∧ ∀ p, H p = none → Q (.ref p) (upd H p (.tup (xs ++ ys)))
theorem vals_ne {xs : List V} {us : List Value} (r : Vals xs us) (h : xs ≠ []) : us.toArray.isEmpty = false := by
  cases r with
  | nil => exact absurd rfl h
  | cons _ _ => simp
theorem ip_catN {X : Cx} : PIp X .Add (rCatN X.K) := by
  intro pins s σ H x y v u Q I rx ry h
  obtain ⟨a, b, xs, ys, ex, ey, ha, hb, nx, ny, hz, q⟩ := h
  subst ex
  subst ey
  cases rx
  cases ry
  obtain ⟨us, r1, t1, _⟩ := I.tuple ha
  obtain ⟨vs, r2, t2, _⟩ := I.tuple hb
  have l1 := r1.length
  have l2 := r2.length
  have hf := I.hok.fresh (Nat.le_refl s.heap.objs.size)
  have new : Inv X pins σ (upd H s.heap.objs.size (.tup (xs ++ ys))) { s with heap := s.heap.push { cls := .type "tuple", data := .seq (us.toArray ++ vs.toArray) } } := by
    refine I.laid (t' := s.toks) (fun c o e => Heap.get?_push_of_some _ e) (Nat.le_refl _) ?_
    refine ⟨by rw [List.length_append]; exact hz, us ++ vs, r1.append r2, ?_⟩
    have e : (us ++ vs).toArray = us.toArray ++ vs.toArray := by simp
    rw [e]
    exact IsTup.new _ _
  obtain ⟨⟨c1, d1, x1, sl1⟩, g1, k1, n1, w1⟩ := id t1
  obtain ⟨⟨c2, d2, x2, sl2⟩, g2, k2, n2, w2⟩ := id t2
  simp only at k1 w1 k2 w2
  subst k1 w1 k2 w2
  refine wpAny_inplaceOp_concat ⟨_, g1, rfl⟩ ⟨_, g2, rfl⟩ no_tup_iadd noFill_tuple_add seq_tuple_add (call_meets PySem.F.slot_tuple_add ⟨_, g1, rfl⟩ PySem.F.entry_tuple_add (PySem.F.args_tuple_add_2 _ _)
    (tuple_addW2 a b us.toArray vs.toArray n1 n2 d1 d2 sl1 sl2 (by rw [vals_ne r1 nx]; exact Bool.false_ne_true) (by rw [vals_ne r2 ny]; exact Bool.false_ne_true) (by rw [List.size_toArray, List.size_toArray, ← l1, ← l2]; exact hz)) ⟨g1, g2, ?_⟩)
  exact ⟨.ref s.heap.objs.size, _, new, rfl, q _ hf⟩
def rGetN (K : PySem.W.Frag) : R2 := fun o i H Q => ∃ (p : Addr) (xs : List V) (j : Nat) (v : V), o = .ref p ∧ i = .int j ∧ SqL K H p xs ∧ xs[j]? = some v ∧ Q v H
theorem get_list {X : Cx} : PGet X (rGetN X.K) := by
  intro pins s σ H o i ov iv Q I ro ri h
  obtain ⟨p, xs, j, v, eo, ei, hS, hj, q⟩ := h
  subst eo
  subst ei
  cases ro
  obtain ⟨t, et⟩ := ri
  subst et
  obtain ⟨us, r, pl, hz⟩ := I.list hS
  obtain ⟨u, hu, ru⟩ := r.get hj
  have hl : j < xs.length := (List.getElem?_eq_some_iff.mp hj).1
  have hs : sizeLine = 16777216 := by decide
  exact wpAny_getItem_list pl.isList (by omega) (by omega) (by rw [Int.toNat_natCast, List.getElem?_toArray]; exact hu) ⟨v, H, I, ru, q⟩
/-- xs[j] += (v,): the item is a tuple of one item at least -/
theorem aug_run {K : PySem.W.Frag} {to ti te : TE} {D : Ends} {σ : L2.St} {H : Hp} {p a : Addr} {xs ys : List V} {j : Nat} {v y : V} (ho : Val to σ H (.ref p)) (hi : Val ti σ H (.int j)) (he : Val te σ H v)
    (hp : H p = some (.lst xs)) (hj : xs[j]? = some (.ref a)) (ha : H a = some (.tup (y :: ys))) (hy : ys.length ≤ 1000)
    (h : ∀ (H' : Hp) (b : Addr), Same H H' → H' b = some (.tup (y :: ys ++ [v])) → D.nx σ (upd H' p (.lst (xs.set j (.ref b))))) :
    tAugS to ti (tTup (tCons te tNil)) (rGetN K) (rCatN K) rSetL D σ H := by
  refine ho _ (hi _ ⟨p, xs, j, .ref a, rfl, rfl, SqL.of hp, hj, ?_⟩)
  refine he _ ⟨by show 1 ≤ sizeLine; decide, fun q nq => ?_⟩
  have s1 := same_upd (o := .tup [v]) nq
  refine ⟨a, q, y :: ys, [v], rfl, rfl, SqT.of (s1 _ _ ha), SqT.of upd_same, (fun e => nomatch e), (fun e => nomatch e), by simp only [List.length_cons, List.length_nil]; exact Nat.le_trans (show ys.length + 1 + (0 + 1) ≤ 10000000 by omega) (by decide), fun b nb => ?_⟩
  have s2 := same_upd (o := .tup (y :: ys ++ [v])) nb
  have hl : j < xs.length := (List.getElem?_eq_some_iff.mp hj).1
  refine ⟨p, xs, j, j, rfl, rfl, s2 _ _ (s1 _ _ hp), ?_, h _ b (s1.trans s2) upd_same⟩
  unfold ixN
  rw [if_pos (by omega), if_pos (by omega), Int.toNat_natCast]
/-! ### the reader's state, changed -/
section
variable {CL CP : Addr} {A : Ad} {T : Tx} {H0 H H' : Hp} {n m : Nat} {xs ys : List V} {kvs : List (Key × V)}
theorem StepAt.but {o : HO} {b : Addr} {x : V} (h : StepAt H x) (hb : ∀ zs, H b ≠ some (.tup zs)) : StepAt (upd H b o) x := by
  obtain ⟨a, y, zs, e1, h1, h2⟩ := h
  exact ⟨a, y, zs, e1, by rw [upd_ne (fun e => hb _ (e ▸ h1))]; exact h1, h2⟩
theorem StepB.but {o : HO} {b : Addr} {x : V} (h : StepB H x) (hb : ∀ zs, H b ≠ some (.tup zs)) : StepB (upd H b o) x := by
  obtain ⟨a, y, zs, e1, h1, h2⟩ := h
  exact ⟨a, y, zs, e1, by rw [upd_ne (fun e => hb _ (e ▸ h1))]; exact h1, h2⟩
theorem FT.but {o : HO} {b a : Addr} {zs : List V} (h : FT H a zs) (hb : ∀ ob zs, H b ≠ some (.frz ob (.tup zs))) : FT (upd H b o) a zs := by
  obtain ⟨ob, h1, h2⟩ := h
  exact ⟨ob, by rw [upd_ne (fun e => hb _ _ (e ▸ h1))]; exact h1, h2⟩
theorem at_but {o u : HO} {a b : Addr} (h : H a = some u) (hb : H b ≠ some u) : (upd H b o) a = some u := by
  have e : a ≠ b := fun z => hb (by rw [← z]; exact h)
  rw [upd_ne e]
  exact h
/-- the list of steps is another one -/
theorem Wd.steps (p : Wd CL CP A T H0 H n m xs kvs) (hy : ∀ y ∈ ys, StepB H y) : Wd CL CP A T H0 (upd H A.st (.lst ys)) n m ys kvs where
  s0 := fun b o h => by rw [upd_ne (ne_of_none h p.st0)]; exact p.s0 b o h
  l0 := p.l0
  g0 := p.g0
  st0 := p.st0
  ak0 := p.ak0
  lg := p.lg
  li := ⟨at_but p.li.o (by rw [p.st]; exact fun e => nomatch e), by rw [upd_ne p.rst]; exact p.li.r, p.li.le⟩
  pg := at_but p.pg (by rw [p.st]; exact fun e => nomatch e)
  ct := p.ct.but fun _ _ => by rw [p.st]; exact fun e => nomatch e
  pt := at_but p.pt (by rw [p.st]; exact fun e => nomatch e)
  st := upd_same
  sx := fun y h => (hy y h).but fun _ => by rw [p.st]; exact fun e => nomatch e
  ak := at_but p.ak (by rw [p.st]; exact fun e => nomatch e)
  rst := p.rst
/-- one statement more is counted -/
theorem Wd.count (p : Wd CL CP A T H0 H n m xs kvs) (k : Nat) : Wd CL CP A T H0 (upd H A.g (.ins CP A.dg (pf A T k))) n k xs kvs where
  s0 := fun b o h => by rw [upd_ne (ne_of_none h p.g0)]; exact p.s0 b o h
  l0 := p.l0
  g0 := p.g0
  st0 := p.st0
  ak0 := p.ak0
  lg := p.lg
  li := ⟨by rw [upd_ne p.lg]; exact p.li.o, at_but p.li.r (by rw [p.pg]; exact fun e => nomatch e), p.li.le⟩
  pg := upd_same
  ct := p.ct.but fun _ _ => by rw [p.pg]; exact fun e => nomatch e
  pt := at_but p.pt (by rw [p.pg]; exact fun e => nomatch e)
  st := at_but p.st (by rw [p.pg]; exact fun e => nomatch e)
  sx := fun y h => (p.sx y h).but fun _ => by rw [p.pg]; exact fun e => nomatch e
  ak := at_but p.ak (by rw [p.pg]; exact fun e => nomatch e)
  rst := p.rst
/-- the next line -/
theorem Wd.step (p : Wd CL CP A T H0 H n m xs kvs) {k : Nat} (s : SameBut A.l H H') (l : LinesAt CL H' A.l A.dl A.r T.rows k) : Wd CL CP A T H0 H' k m xs kvs where
  s0 := fun b o h => s b o (ne_of_none h p.l0) (p.s0 b o h)
  l0 := p.l0
  g0 := p.g0
  st0 := p.st0
  ak0 := p.ak0
  lg := p.lg
  li := l
  pg := s _ _ p.lg.symm p.pg
  ct := by
    obtain ⟨ob, h1, h2⟩ := p.ct
    exact ⟨ob, s _ _ (ne_of h1 p.li.o (fun e => nomatch e)) h1, h2⟩
  pt := s _ _ (ne_of p.pt p.li.o (fun e => nomatch e)) p.pt
  st := s _ _ (ne_of p.st p.li.o (fun e => nomatch e)) p.st
  sx := fun y h => by
    obtain ⟨a, y, zs, e1, h1, h2⟩ := p.sx y h
    exact ⟨a, y, zs, e1, s _ _ (ne_of h1 p.li.o (fun e => nomatch e)) h1, h2⟩
  ak := s _ _ (ne_of p.ak p.li.o (fun e => nomatch e)) p.ak
  rst := p.rst
end
end K5
namespace K5
open PySem PySem.Spec PyProof.Rows L2
/-! ### the mirror of blocks: the next line and how many statements were read, or the bad line -/
abbrev Res := Except Nat (Nat × Nat)
def Res.K (r : Res) (q : Nat → Nat → Prop) (e : Nat → Prop) : Prop := match r with
  | .ok (a, b) => q a b
  | .error n => e n
def headOk (T : Tx) (dp : Nat) (ws : List Str) : Bool := decide (dp < 3) && condOk T (ws.drop 1)
def whileR (T : Tx) (sub : Bool → Nat → Nat → Res) (dp : Nat) (ws : List Str) (n m : Nat) : Res :=
  if headOk T dp ws = true then sub true (n + 1) m else .error n
def elseR (T : Tx) (sub : Bool → Nat → Nat → Res) (dp : Nat) (n m : Nat) : Res :=
  if decide (wordsAt T.rows n dp = (["else"] : List Str)) = true then sub false (n + 1) m else .ok (n, m)
def ifR (T : Tx) (sub : Bool → Nat → Nat → Res) (dp : Nat) (ws : List Str) (n m : Nat) : Res :=
  if headOk T dp ws = true then match sub false (n + 1) m with
    | .ok (n1, m1) => elseR T sub dp n1 m1
    | .error e => .error e
  else .error n
def stmtR (T : Tx) (sub : Bool → Nat → Nat → Res) (dp : Nat) (ws : List Str) (n m : Nat) : Res :=
  if decide (ws.getD 0 "" = ("if" : Str)) = true then ifR T sub dp ws n m
  else if decide (ws.getD 0 "" = ("while" : Str)) = true then whileR T sub dp ws n m
  else if plainOk T ws = true then .ok (n + 1, m) else .error n
def blockR (T : Tx) (st : List Str → Nat → Nat → Res) (dp : Nat) (af : Bool) : Nat → Nat → Nat → Res
  | 0, n, m => if wordsAt T.rows n dp = [] then .ok (n, m) else .error n
  | f + 1, n, m =>
    if wordsAt T.rows n dp = [] then (if f = 7 then .error n else .ok (n, m))
    else if m < 24 then
      if (decide (f ≠ 7) || (!af || decide ((wordsAt T.rows n dp).getD 0 "" = ("ask" : Str)))) = true then
        match st (wordsAt T.rows n dp) n (m + 1) with
        | .ok (n1, m1) => blockR T st dp af f n1 m1
        | .error e => .error e
      else .error n
    else .error n
def blk (T : Tx) : Nat → Bool → Nat → Nat → Res
  | 0 => fun af n m => blockR T (stmtR T (fun _ _ _ => .error 0) 3) 3 af 8 n m
  | j + 1 => fun af n m => blockR T (stmtR T (blk T j) (2 - j)) (2 - j) af 8 n m
def subR (T : Tx) : Option Nat → Bool → Nat → Nat → Res
  | none => fun _ _ _ => .error 0
  | some j => blk T j
/-- the depth of what stands around it -/
def dpO : Option Nat → Nat
  | none => 3
  | some j => 2 - j
/-! ### promises -/
/-- what a block or a statement leaves -/
def BQ (CL CP : Addr) (A : Ad) (T : Tx) (H0 : Hp) (xs : List V) (sl : Nat) (Q : VK) (n m : Nat) : Prop :=
  ∀ (H' : Hp) (xs' : List V) (kvs' : List (Key × V)), Wd CL CP A T H0 H' n m xs' kvs' → (∃ more, xs' = xs ++ more) → xs'.length + sl ≤ 2 * m + 100 → kvs'.length ≤ m + 100 → m ≤ 24 → Q .non H'
def spHead (CL CP CT : Addr) : Sp := fun vs H Q E => ∃ (A : Ad) (T : Tx) (H0 : Hp) (n m : Nat) (xs : List V) (kvs : List (Key × V)) (p : Addr) (ws : List Str) (dp : Nat), vs = [.ref A.g, .ref p, .int dp] ∧ Wd CL CP A T H0 H n m xs kvs ∧ TxOk T ∧
  H p = some (.lst (ws.map V.str)) ∧ (∀ z ∈ ws, z.length ≤ 10000) ∧ n < T.rows.length ∧ xs.length ≤ 1000 ∧
  (headOk T dp ws = true → ∀ (H' : Hp) (x : V), Wd CL CP A T H0 H' (n + 1) m (xs ++ [x]) kvs → StepAt H' x → Q (.int xs.length) H') ∧ (headOk T dp ws = false → ErrK CT (.int n) H0 E)
/-- read_block at depth 3 - j -/
def spBlock (CL CP CT : Addr) (j : Nat) : Sp := fun vs H Q E => ∃ (A : Ad) (T : Tx) (H0 : Hp) (n m : Nat) (xs : List V) (kvs : List (Key × V)) (af : Bool) (sl : Nat), vs = [.ref A.g, .int ((3 - j : Nat) : Int), .bl af] ∧ Wd CL CP A T H0 H n m xs kvs ∧ TxOk T ∧
  xs.length + sl ≤ 2 * m + 100 ∧ kvs.length ≤ m + 100 ∧ m ≤ 24 ∧ (blk T j af n m).K (BQ CL CP A T H0 xs sl Q) fun e => ErrK CT (.int e) H0 E
def spBlockO (CL CP CT : Addr) : Option Nat → Sp
  | none => fun _ _ _ _ => False
  | some j => spBlock CL CP CT j
/-- read_if, read_while, read_statement, whose blocks are those of o -/
def spStmt (CL CP CT : Addr) (R : Tx → List Str → Nat → Nat → Res) (o : Option Nat) : Sp := fun vs H Q E => ∃ (A : Ad) (T : Tx) (H0 : Hp) (n m : Nat) (xs : List V) (kvs : List (Key × V)) (p : Addr) (ws : List Str) (sl : Nat), vs = [.ref A.g, .ref p, .int ((dpO o : Nat) : Int)] ∧ Wd CL CP A T H0 H n m xs kvs ∧ TxOk T ∧
  H p = some (.lst (ws.map V.str)) ∧ (∀ z ∈ ws, PyData.strOk z = true ∧ z.length ≤ 10000) ∧ ws ≠ [] ∧ ws.length ≤ 10001 ∧ n < T.rows.length ∧ xs.length + 2 + sl ≤ 2 * m + 100 ∧ kvs.length + 1 ≤ m + 100 ∧ m ≤ 24 ∧
  (R T ws n m).K (BQ CL CP A T H0 xs sl Q) fun e => ErrK CT (.int e) H0 E
abbrev s_Program_read_head : Stmt := inClass (topS 16) 6
theorem sc_Program_read_head : FnScope ["self", "words", "depth"] ["self", "words", "depth"] (defScope s_Program_read_head) := ⟨rfl, rfl, rfl, by decide +kernel, rfl, by decide +kernel, by decide +kernel⟩
abbrev s_Program_read_while : Stmt := inClass (topS 16) 5
theorem sc_Program_read_while : FnScope ["self", "words", "depth", "place"] ["self", "words", "depth"] (defScope s_Program_read_while) := ⟨rfl, rfl, rfl, by decide +kernel, rfl, by decide +kernel, by decide +kernel⟩
abbrev s_Program_read_if : Stmt := inClass (topS 16) 4
theorem sc_Program_read_if : FnScope ["self", "words", "depth", "place", "leave"] ["self", "words", "depth"] (defScope s_Program_read_if) := ⟨rfl, rfl, rfl, by decide +kernel, rfl, by decide +kernel, by decide +kernel⟩
abbrev s_Program_read_statement : Stmt := inClass (topS 16) 3
theorem sc_Program_read_statement : FnScope ["self", "words", "depth"] ["self", "words", "depth"] (defScope s_Program_read_statement) := ⟨rfl, rfl, rfl, by decide +kernel, rfl, by decide +kernel, by decide +kernel⟩
abbrev s_Program_read_block : Stmt := inClass (topS 16) 2
theorem sc_Program_read_block : FnScope ["self", "depth", "asks_first", "many", "words"] ["self", "depth", "asks_first"] (defScope s_Program_read_block) := ⟨rfl, rfl, rfl, by decide +kernel, rfl, by decide +kernel, by decide +kernel⟩
abbrev s_Program_read_door : Stmt := inClass (topS 16) 1
theorem sc_Program_read_door : FnScope ["self", "start"] ["self"] (defScope s_Program_read_door) := ⟨rfl, rfl, rfl, by decide +kernel, rfl, by decide +kernel, by decide +kernel⟩
/-- further names of the top -/
structure En2 (P : Program) (w : World) (K : PySem.W.Frag) (mg : Str → Option Value) (base : Heap) (CL CP CT : Addr) (fWords fStep fCond fPlain : Addr) (dWords dStep dCond dPlain : FuncData) : Prop where
  Mw : Mf K CL "words" "Lines.words" s_Lines_words fWords dWords ["self", "depth"]
  Gw : FnOk P w K mg base CX0 1 fWords dWords ["self", "depth"] (spWords CL)
  Ms : Mf K CL "step" "Lines.step" s_Lines_step fStep dStep ["self"]
  Gs : FnOk P w K mg base CX0 1 fStep dStep ["self"] (spStep CL)
  Mc : Mf K CP "condition" "Program.condition" s_Program_condition fCond dCond ["self", "words"]
  Gc : FnOk P w K mg base (L2.CX P w) 6 fCond dCond ["self", "words"] (spCond CL CP CT)
  Mp : Mf K CP "plain_step" "Program.plain_step" s_Program_plain_step fPlain dPlain ["self", "words"]
  Gp : FnOk P w K mg base (L2.CX P w) 7 fPlain dPlain ["self", "words"] (spPlain CL CP CT)
  cD : ∃ t, mg "DEEPEST" = some (.int 3 t)
  cB : ∃ t, mg "MOST_IN_BLOCK" = some (.int 8 t)
  cS : ∃ t, mg "MOST_STATEMENTS" = some (.int 24 t)
theorem cut1 (xs : List V) : cutV xs (some 1) none = xs.drop 1 := by
  unfold cutV
  rw [show HT.sIx xs.length 0 (some 1) = min 1 xs.length from HT.sIx_nat xs.length 0 1, HT.sIx_none]
  cases xs with
  | nil => rfl
  | cons x r =>
    rw [show min 1 (x :: r).length = 1 by
      rw [List.length_cons]
      omega]
    show (List.take ((x :: r).length - 1) r) = r
    rw [List.length_cons, Nat.add_sub_cancel]
    exact List.take_length
theorem meth0_run {C a dx : Addr} {m : Str} {fs : List (Str × V)} {sp : Sp} {E : XK} {ta : TE} {σ : L2.St} {H : Hp} {Q : VK} (ho : Val ta σ H (.ref a)) (ha : H a = some (.ins C dx fs)) (hm : fs.lookup m = none) (h : sp [.ref a] H Q E) :
    tMeth C m sp [] E ta tNil σ H Q := ho _ ⟨a, dx, fs, rfl, ha, hm, h⟩
section
variable {P : Program} {w : World} {K : PySem.W.Frag} {mg : Str → Option Value} {base : Heap} {CL CP CT fNeed fNum fDoor : Addr} {dNeed dNum dDoor : FuncData} {fWords fStep fCond fPlain : Addr} {dWords dStep dCond dPlain : FuncData}
theorem ok_read_head {f : Addr} {fd : FuncData} (N : En P w K mg base CL CP CT fNeed fNum fDoor dNeed dNum dDoor) (M : En2 P w K mg base CL CP CT fWords fStep fCond fPlain dWords dStep dCond dPlain) (F : Fun K "read_head" "Program.read_head" s_Program_read_head f fd) :
    FnOk P w K mg base (L2.CX P w) 7 f fd ["self", "words", "depth"] (spHead CL CP CT) := by
  obtain ⟨tD, gD⟩ := M.cD
  refine F.okX sc_Program_read_head (fun vs H Q E h => ?_) (fun cdv A0 outer s H vs Q E hr h => ?_)
  · obtain ⟨A, T, H0, n, m, xs, kvs, p, ws, dp, rfl, _⟩ := h
    rfl
  · obtain ⟨A, T, H0, n, m, xs, kvs, p, ws, dp, rfl, pw, tx, hp, hz, hn, hxs, k, ke⟩ := h
    have S := sc_Program_read_head
    refine ⟨_, (pss_cons (ps_expr (pe_meth (pe_fld (pv 0) rfl) N.L.cl N.Mn.m N.Gn (hr.mono (by decide)) N.Mn.b .nil (pxp rfl rfl rfl rfl) (pa_cons (pe_cmpR op_lt (pv 2) (pe_glob (v := .int 3) (by rfl) gD ⟨_, rfl⟩) (nomark _)) pa_nil)))
      (pss_cons (ps_expr (pe_bm PySem.F.plainAttrs_list PySem.F.slot_list_append PySem.F.type_list_append mt_append (pe_fld (pv 0) rfl) (pa_cons (pe_tup (pa_cons pe_str (pa_cons (pe_meth (pv 0) N.C.cl M.Mc.m M.Gc (hr.mono (by decide)) M.Mc.b .nil (pxp rfl rfl rfl rfl) (pa_cons (pe_slice sl_list (pv 1) (po_some pe_int) po_none) pa_nil)) pa_nil))) pa_nil)))
      (pss_cons (ps_expr (pe_meth0 (pe_fld (pv 0) rfl) N.L.cl M.Ms.m M.Gs (hr.mono (by decide)) M.Ms.b .nil pass0))
      (pss_one (ps_ret (pe_op op_sub (pe_callB call_len_seq (by rfl) N.B.m_len PySem.boot_len (pa_cons (pe_fld (pv 0) rfl) pa_nil)) pe_int)))))), ?_⟩
    refine meth_run (val_fld (val_var rfl) pw.pg N.C.cl N.C.lines pf_lines) pw.li.o (lf_no (by decide +kernel) (by decide +kernel)) ?_
    refine (val_i0b (val_var rfl) val_c) _ ?_
    refine ⟨A.l, A.dl, A.r, T.rows, n, _, _, rfl, pw.li, rfl, fun e => ?_, fun e => ErrK.mono (ke ?_) pw.s0⟩
    · have hd : decide (dp < 3) = true := by
        refine decide_eq_true ?_
        have := of_decide_eq_true e
        omega
      have eh : headOk T dp ws = condOk T (ws.drop 1) := by
        unfold headOk
        rw [hd]
        rfl
      dsimp only [tSeq, tDrop]
      refine bm_run (val_fld (val_var rfl) pw.pg N.C.cl N.C.steps pf_steps) (.inl ⟨rfl, _, SqL.of pw.st⟩) ?_
      refine meth_run (val_var rfl) pw.pg (pf_no (by decide +kernel)) ?_
      refine ⟨_, rfl, 1, rfl, p, _, rfl, SqL.of hp, fun q nq => ?_⟩
      rw [cut1, ← List.map_drop]
      have s1 := same_upd (o := .lst ((ws.drop 1).map V.str)) nq
      have hq : (upd H q (.lst ((ws.drop 1).map V.str))) q = some (.lst ((ws.drop 1).map V.str)) := upd_same
      have p1 := pw.mono s1
      refine ⟨A, T, H0, n, m, xs, kvs, q, ws.drop 1, rfl, p1, tx, hq, fun z h => hz z (List.mem_of_mem_drop h), fun ec H2 y s2 hy => ?_, fun ec => ErrK.mono (ke (eh.trans ec)) p1.s0⟩
      have p2 := p1.mono s2
      refine ⟨by show 2 ≤ sizeLine; decide, fun o no => ?_⟩
      have s3 := same_upd (o := .tup [.str "unless", y]) no
      have p3 := p2.mono s3
      have hx : StepAt (upd H2 o (.tup [.str "unless", y])) (.ref o) := ⟨o, _, _, rfl, upd_same, Nat.le_of_ble_eq_true rfl⟩
      generalize (upd H2 o (.tup [.str "unless", y])) = H3 at p3 hx
      refine ⟨A.st, xs, .ref o, rfl, rfl, p3.st, small1000 hxs, ?_⟩
      have p4 := p3.steps (ys := xs ++ [.ref o]) fun z h => by
        rcases List.mem_append.mp h with h | h
        · exact p3.sx z h
        · rw [List.mem_singleton.mp h]
          exact hx.b
      have hx4 := hx.but (b := A.st) (o := .lst (xs ++ [.ref o])) fun _ => by rw [p3.st]; exact fun e => nomatch e
      refine meth0_run (val_fld (val_var rfl) p4.pg N.C.cl N.C.lines pf_lines) p4.li.o (lf_no (by decide +kernel) (by decide +kernel)) ?_
      refine ⟨A.l, A.dl, A.r, T.rows, n, rfl, p4.li, hn, fun H5 sb li5 => ?_⟩
      dsimp only [tRet]
      have p5 := p4.step sb li5
      have hx5 : StepAt H5 (.ref o) := by
        obtain ⟨a, y, zs, e1, h1, h2⟩ := hx4
        exact ⟨a, y, zs, e1, sb _ _ (ne_of h1 p4.li.o (fun e => nomatch e)) h1, h2⟩
      refine (val_i0 (val_lenL (val_fld (val_var rfl) p5.pg N.C.cl N.C.steps pf_steps) (SqL.of p5.st)) val_c) _ ?_
      have el : (((xs ++ [V.ref o]).length : Int) - 1) = (xs.length : Int) := by
        rw [List.length_append]
        show ((xs.length + 1 : Nat) : Int) - 1 = _
        omega
      rw [el]
      exact k (eh.trans ec) _ _ p5 hx5
    · unfold headOk
      have : decide (dp < 3) = false := by
        refine decide_eq_false ?_
        have := of_decide_eq_false e
        omega
      rw [this]
      rfl
end
end K5
namespace K5
open PySem PySem.Spec PyProof.Rows L2
theorem Res.K.mono {r : Res} {q q' : Nat → Nat → Prop} {e e' : Nat → Prop} (h : r.K q e) (hq : ∀ a b, q a b → q' a b) (he : ∀ n, e n → e' n) : r.K q' e' := by
  match r, h with
  | .ok (a, b), h => exact hq a b h
  | .error n, h => exact he n h
section
variable {CL CP : Addr} {A : Ad} {T : Tx} {H0 H1 H H' : Hp} {n m : Nat} {xs ys : List V} {kvs : List (Key × V)}
/-- a step is kept by all that follows -/
theorem Wd.pin (p : Wd CL CP A T H0 H n m xs kvs) {a : Addr} {zs : List V} (h : H a = some (.tup zs)) : Wd CL CP A T (upd H0 a (.tup zs)) H n m xs kvs ∧ Same H0 (upd H0 a (.tup zs)) := by
  have nf : ∀ b : Addr, H0 b = none → (∀ ys, H b ≠ some (.tup ys)) → (upd H0 a (.tup zs)) b = none := fun b h0 h1 => by
    have e : b ≠ a := fun z => h1 zs (by rw [z]; exact h)
    rw [upd_ne e]
    exact h0
  have n1 := nf _ p.l0 fun ys => by rw [p.li.o]; exact fun e => nomatch e
  have n2 := nf _ p.g0 fun ys => by rw [p.pg]; exact fun e => nomatch e
  have n3 := nf _ p.st0 fun ys => by rw [p.st]; exact fun e => nomatch e
  have n4 := nf _ p.ak0 fun ys => by rw [p.ak]; exact fun e => nomatch e
  have s1 : Same (upd H0 a (.tup zs)) H := fun b o e => by
    by_cases c : b = a
    · subst c
      rw [upd_same] at e
      rw [← e]
      exact h
    · rw [upd_ne c] at e
      exact p.s0 b o e
  refine ⟨{ p with s0 := s1, l0 := n1, g0 := n2, st0 := n3, ak0 := n4 }, fun b o e => ?_⟩
  by_cases c : b = a
  · subst c
    rw [upd_same]
    exact h.symm.trans (p.s0 b o e)
  · rw [upd_ne c]
    exact e
theorem Wd.weak (p : Wd CL CP A T H1 H n m xs kvs) (e : Same H0 H1) : Wd CL CP A T H0 H n m xs kvs := { p with s0 := e.trans p.s0, l0 := e.free p.l0, g0 := e.free p.g0, st0 := e.free p.st0, ak0 := e.free p.ak0 }
theorem wordsAt_lt {rows : List Str} {n dp : Nat} (h : wordsAt rows n dp ≠ []) : n < rows.length := by
  by_cases c : n < rows.length
  · exact c
  · exact absurd (by unfold wordsAt; rw [List.getElem?_eq_none (by omega)]) h
/-- a step more -/
theorem Wd.push (p : Wd CL CP A T H0 H n m xs kvs) {o : Addr} {y : V} {ys : List V} (h : H o = some (.tup (y :: ys))) (hy : ys.length ≤ 20) : Wd CL CP A T H0 (upd H A.st (.lst (xs ++ [.ref o]))) n m (xs ++ [.ref o]) kvs :=
  p.steps fun z hz => by
    rcases List.mem_append.mp hz with hz | hz
    · exact p.sx z hz
    · rw [List.mem_singleton.mp hz]
      exact ⟨o, _, _, rfl, h, hy⟩
theorem Wd.aug {K : PySem.W.Frag} (p : Wd CL CP A T H0 H n m xs kvs) (C : ClP K CP) {ti te : TE} {D : Ends} {σ : L2.St} {a : Addr} {y v : V} {j : Nat} (h0 : σ[0]? = some (some (.ref A.g))) (hi : Val ti σ H (.int j)) (he : Val te σ H v)
    (hj : xs[j]? = some (.ref a)) (ha : H a = some (.tup (y :: ys))) (hy : ys.length ≤ 10)
    (h : ∀ (H' : Hp) (b : Addr), Wd CL CP A T H0 H' n m (xs.set j (.ref b)) kvs → SameBut A.st H H' → D.nx σ H') :
    tAugS (tFld K (tVar 0) "steps") ti (tTup (tCons te tNil)) (rGetN K) (rCatN K) rSetL D σ H := by
  refine aug_run (val_fld (val_var h0) p.pg C.cl C.steps pf_steps) hi he p.st hj ha (Nat.le_trans hy (by decide)) fun H1 b s1 hb => ?_
  refine h _ b ((p.mono s1).steps fun z hz => ?_) ((SameBut.of_same s1).trans (SameBut.upd A.st H1 _))
  rcases List.mem_or_eq_of_mem_set hz with hz | hz
  · exact (p.sx z hz).mono s1
  · exact ⟨b, y, ys ++ [v], hz, hb, by rw [List.length_append]; show ys.length + 1 ≤ 20; omega⟩
end
section
variable {P : Program} {w : World} {K : PySem.W.Frag} {mg : Str → Option Value} {base : Heap} {CL CP CT fNeed fNum fDoor : Addr} {dNeed dNum dDoor : FuncData} {fWords fStep fCond fPlain : Addr} {dWords dStep dCond dPlain : FuncData}
theorem ok_read_while {f fH fB : Addr} {fd dH dB : FuncData} {kb : Nat} {o : Option Nat} (hk : 7 ≤ kb) (ho : ∀ j, o = some j → j ≤ 2) (N : En P w K mg base CL CP CT fNeed fNum fDoor dNeed dNum dDoor) (M : En2 P w K mg base CL CP CT fWords fStep fCond fPlain dWords dStep dCond dPlain) (F : Fun K "read_while" "Program.read_while" s_Program_read_while f fd)
    (Mh : Mf K CP "read_head" "Program.read_head" s_Program_read_head fH dH ["self", "words", "depth"]) (Mb : Mf K CP "read_block" "Program.read_block" s_Program_read_block fB dB ["self", "depth", "asks_first"]) (Gb : FnOk P w K mg base (L2.CX P w) kb fB dB ["self", "depth", "asks_first"] (spBlockO CL CP CT o)) :
    FnOk P w K mg base (L2.CX P w) (kb + 1) f fd ["self", "words", "depth"] (spStmt CL CP CT (fun T => whileR T (subR T o) (dpO o)) o) := by
  have Gh : FnOk P w K mg base (L2.CX P w) 7 fH dH ["self", "words", "depth"] (spHead CL CP CT) := ok_read_head N M Mh.F
  refine F.okX sc_Program_read_while (fun vs H Q E h => ?_) (fun cdv A0 outer s H vs Q E hr h => ?_)
  · obtain ⟨A, T, H0, n, m, xs, kvs, p, ws, sl, rfl, _⟩ := h
    rfl
  · obtain ⟨A, T, H0, n, m, xs, kvs, p, ws, sl, rfl, pw, tx, hp, hz, hne, hwl, hn, hxs, hkv, hm, k⟩ := h
    have S := sc_Program_read_while
    refine ⟨_, (pss_cons (ps_set (i := 3) S.nd rfl (.inl rfl) (pe_meth (pv 0) N.C.cl Mh.m Gh (hr.mono hk) Mh.b .nil (pxp rfl rfl rfl rfl) (pa_cons (pv 1) (pa_cons (pv 2) pa_nil))))
      (pss_cons (ps_expr (pe_meth (pv 0) N.C.cl Mb.m Gb (hr.mono (Nat.le_refl _)) Mb.b .nil (pxp rfl rfl rfl rfl) (pa_cons (pe_op op_add (pv 2) pe_int) (pa_cons pe_bl pa_nil))))
      (pss_cons (ps_expr (pe_bm PySem.F.plainAttrs_list PySem.F.slot_list_append PySem.F.type_list_append mt_append (pe_fld (pv 0) rfl) (pa_cons (pe_tup (pa_cons pe_str (pa_cons (pv 3) pa_nil))) pa_nil)))
      (pss_one (ps_augS (pe_fld (pv 0) rfl) (pv 3) get_list (pe_tup (pa_cons (pe_callB call_len_seq (by rfl) N.B.m_len PySem.boot_len (pa_cons (pe_fld (pv 0) rfl) pa_nil)) pa_nil)) ip_catN set_list))))), ?_⟩
    dsimp only at k
    dsimp only [tNext, tSeq, tAsg, tDrop]
    refine meth_run (val_var rfl) pw.pg (pf_no (by decide +kernel)) ?_
    refine (val_var rfl) _ ((val_var rfl) _ ?_)
    refine ⟨A, T, H0, n, m, xs, kvs, p, ws, dpO o, rfl, pw, tx, hp, fun z h => (hz z h).2, hn, by omega, fun eh H1 x p1 hx => ?_, fun eh => ?_⟩
    · unfold whileR at k
      rw [if_pos eh] at k
      obtain ⟨a, y, ys, rfl, ha, hy⟩ := hx
      obtain ⟨p1', s0⟩ := p1.pin ha
      cases o with
      | none =>
        unfold headOk at eh
        exact absurd eh (by simp [dpO])
      | some j =>
        have hj := ho j rfl
        refine meth_run (val_var rfl) p1.pg (pf_no (by decide +kernel)) ?_
        refine (val_i0 (val_var rfl) val_c) _ (val_c _ ?_)
        refine ⟨A, T, _, n + 1, m, xs ++ [.ref a], kvs, true, sl + 1, ?_, p1', tx, ?_, by omega, hm, ?_⟩
        · have e : (((dpO (some j) : Nat) : Int) + 1) = ((3 - j : Nat) : Int) := by
            show ((2 - j : Nat) : Int) + 1 = _
            omega
          rw [e]
          rfl
        · rw [List.length_append]
          show xs.length + 1 + (sl + 1) ≤ _
          omega
        · refine Res.K.mono k (fun n2 m2 q H2 xs2 kvs2 p2 hmore hl2 hk2 hm2 => ?_) fun e h => h.mono s0
          obtain ⟨more, rfl⟩ := hmore
          have ha2 : H2 a = some (.tup (y :: ys)) := p2.s0 _ _ upd_same
          have p2 := p2.weak s0
          refine bm_run (val_fld (val_var rfl) p2.pg N.C.cl N.C.steps pf_steps) (.inl ⟨rfl, _, SqL.of p2.st⟩) ?_
          refine (val_var rfl) _ ?_
          refine ⟨by show 2 ≤ sizeLine; decide, fun o no => ?_⟩
          have s3 := same_upd (o := .tup [.str "jump", .int (xs.length : Nat)]) no
          have p3 := p2.mono s3
          have ha3 := s3 _ _ ha2
          have ho3 : (upd H2 o (.tup [.str "jump", .int (xs.length : Nat)])) o = some (.tup [.str "jump", .int (xs.length : Nat)]) := upd_same
          generalize (upd H2 o (.tup [.str "jump", .int (xs.length : Nat)])) = H3 at p3 ho3 ha3 s3
          refine ⟨A.st, _, .ref o, rfl, rfl, p3.st, small1000 (by omega), ?_⟩
          have p4 := p3.push ho3 (Nat.le_of_ble_eq_true rfl)
          have ha4 := at_but (b := A.st) (o := .lst (xs ++ [.ref a] ++ more ++ [.ref o])) ha3 (by rw [p3.st]; exact fun e => nomatch e)
          refine p4.aug N.C rfl (val_var rfl) (val_lenL (val_fld (val_var rfl) p4.pg N.C.cl N.C.steps pf_steps) (SqL.of p4.st)) ?_ ha4 hy fun H5 b p5 _ => ?_
          · rw [List.append_assoc, List.append_assoc, List.getElem?_append_right (Nat.le_refl _), Nat.sub_self]
            rfl
          · refine q H5 _ kvs2 p5 ⟨.ref b :: (more ++ [.ref o]), ?_⟩ ?_ hk2 hm2
            · rw [List.append_assoc, List.append_assoc, List.set_append_right _ _ (Nat.le_refl _), Nat.sub_self]
              rfl
            · rw [List.length_set, List.length_append]
              show _ + 1 + sl ≤ _
              omega
    · unfold whileR at k
      rw [eh, if_neg Bool.false_ne_true] at k
      exact k
end
end K5
namespace K5
open PySem PySem.Spec PyProof.Rows L2
theorem dpO_le (o : Option Nat) : dpO o ≤ 3 := by
  cases o with
  | none => exact Nat.le_refl _
  | some j => show 2 - j ≤ 3; omega
section
variable {P : Program} {w : World} {K : PySem.W.Frag} {mg : Str → Option Value} {base : Heap} {CL CP CT fNeed fNum fDoor : Addr} {dNeed dNum dDoor : FuncData} {fWords fStep fCond fPlain : Addr} {dWords dStep dCond dPlain : FuncData}
theorem ok_read_if {f fH fB : Addr} {fd dH dB : FuncData} {kb : Nat} {o : Option Nat} (hk : 7 ≤ kb) (ho : ∀ j, o = some j → j ≤ 2) (N : En P w K mg base CL CP CT fNeed fNum fDoor dNeed dNum dDoor) (M : En2 P w K mg base CL CP CT fWords fStep fCond fPlain dWords dStep dCond dPlain) (F : Fun K "read_if" "Program.read_if" s_Program_read_if f fd)
    (Mh : Mf K CP "read_head" "Program.read_head" s_Program_read_head fH dH ["self", "words", "depth"]) (Mb : Mf K CP "read_block" "Program.read_block" s_Program_read_block fB dB ["self", "depth", "asks_first"]) (Gb : FnOk P w K mg base (L2.CX P w) kb fB dB ["self", "depth", "asks_first"] (spBlockO CL CP CT o)) :
    FnOk P w K mg base (L2.CX P w) (kb + 1) f fd ["self", "words", "depth"] (spStmt CL CP CT (fun T => ifR T (subR T o) (dpO o)) o) := by
  have Gh : FnOk P w K mg base (L2.CX P w) 7 fH dH ["self", "words", "depth"] (spHead CL CP CT) := ok_read_head N M Mh.F
  refine F.okX sc_Program_read_if (fun vs H Q E h => ?_) (fun cdv A0 outer s H vs Q E hr h => ?_)
  · obtain ⟨A, T, H0, n, m, xs, kvs, p, ws, sl, rfl, _⟩ := h
    rfl
  · obtain ⟨A, T, H0, n, m, xs, kvs, p, ws, sl, rfl, pw, tx, hp, hz, hne, hwl, hn, hxs, hkv, hm, k⟩ := h
    have S := sc_Program_read_if
    refine ⟨_, (pss_cons (ps_set (i := 3) S.nd rfl (.inl rfl) (pe_meth (pv 0) N.C.cl Mh.m Gh (hr.mono hk) Mh.b .nil (pxp rfl rfl rfl rfl) (pa_cons (pv 1) (pa_cons (pv 2) pa_nil))))
      (pss_cons (ps_expr (pe_meth (pv 0) N.C.cl Mb.m Gb (hr.mono (Nat.le_refl _)) Mb.b .nil (pxp rfl rfl rfl rfl) (pa_cons (pe_op op_add (pv 2) pe_int) (pa_cons pe_bl pa_nil))))
      (pss_cons (ps_if (pt_cmpR (op_neD (by have := hr.units; exact this)) (pe_meth (pe_fld (pv 0) rfl) N.L.cl M.Mw.m M.Gw (hr.mono (Nat.le_trans (by decide) hk)) M.Mw.b .nil pass0 (pa_cons (pv 2) pa_nil)) (pe_lst (pa_cons pe_str pa_nil)) (nomark _))
        (pss_cons (ps_augS (pe_fld (pv 0) rfl) (pv 3) get_list (pe_tup (pa_cons (pe_callB call_len_seq (by rfl) N.B.m_len PySem.boot_len (pa_cons (pe_fld (pv 0) rfl) pa_nil)) pa_nil)) ip_catN set_list)
        (pss_one ps_retN))
        pss_nil)
      (pss_cons (ps_expr (pe_meth0 (pe_fld (pv 0) rfl) N.L.cl M.Ms.m M.Gs (hr.mono (Nat.le_trans (by decide) hk)) M.Ms.b .nil pass0))
      (pss_cons (ps_set (i := 4) S.nd rfl (.inl rfl) (pe_callB call_len_seq (by rfl) N.B.m_len PySem.boot_len (pa_cons (pe_fld (pv 0) rfl) pa_nil)))
      (pss_cons (ps_expr (pe_bm PySem.F.plainAttrs_list PySem.F.slot_list_append PySem.F.type_list_append mt_append (pe_fld (pv 0) rfl) (pa_cons (pe_tup (pa_cons pe_str pa_nil)) pa_nil)))
      (pss_cons (ps_augS (pe_fld (pv 0) rfl) (pv 3) get_list (pe_tup (pa_cons (pe_callB call_len_seq (by rfl) N.B.m_len PySem.boot_len (pa_cons (pe_fld (pv 0) rfl) pa_nil)) pa_nil)) ip_catN set_list)
      (pss_cons (ps_expr (pe_meth (pv 0) N.C.cl Mb.m Gb (hr.mono (Nat.le_refl _)) Mb.b .nil (pxp rfl rfl rfl rfl) (pa_cons (pe_op op_add (pv 2) pe_int) (pa_cons pe_bl pa_nil))))
      (pss_one (ps_augS (pe_fld (pv 0) rfl) (pv 4) get_list (pe_tup (pa_cons (pe_callB call_len_seq (by rfl) N.B.m_len PySem.boot_len (pa_cons (pe_fld (pv 0) rfl) pa_nil)) pa_nil)) ip_catN set_list)))))))))), ?_⟩
    dsimp only at k
    dsimp only [tNext, tSeq, tAsg, tDrop, tIfS]
    refine meth_run (val_var rfl) pw.pg (pf_no (by decide +kernel)) ?_
    refine (val_var rfl) _ ((val_var rfl) _ ?_)
    refine ⟨A, T, H0, n, m, xs, kvs, p, ws, dpO o, rfl, pw, tx, hp, fun z h => (hz z h).2, hn, by omega, fun eh H1 x p1 hx => ?_, fun eh => ?_⟩
    · unfold ifR at k
      rw [if_pos eh] at k
      obtain ⟨a, y, ys, rfl, ha, hy⟩ := hx
      obtain ⟨p1', s0⟩ := p1.pin ha
      cases o with
      | none =>
        unfold headOk at eh
        exact absurd eh (by simp [dpO])
      | some j =>
        have hj := ho j rfl
        have e1 : (((dpO (some j) : Nat) : Int) + 1) = ((3 - j : Nat) : Int) := by
          show ((2 - j : Nat) : Int) + 1 = _
          omega
        refine meth_run (val_var rfl) p1.pg (pf_no (by decide +kernel)) ?_
        refine (val_i0 (val_var rfl) val_c) _ (val_c _ ?_)
        refine ⟨A, T, _, n + 1, m, xs ++ [.ref a], kvs, false, sl + 1, by rw [e1]; rfl, p1', tx, ?_, by omega, hm, ?_⟩
        · rw [List.length_append]
          show xs.length + 1 + (sl + 1) ≤ _
          omega
        have k1 : (blk T j false (n + 1) m).K (fun n1 m1 => (elseR T (blk T j) (dpO (some j)) n1 m1).K (BQ CL CP A T H0 xs sl Q) fun e => ErrK CT (.int e) H0 E) fun e => ErrK CT (.int e) H0 E := by
          revert k
          show (match blk T j false (n + 1) m with | .ok (n1, m1) => elseR T (blk T j) (dpO (some j)) n1 m1 | .error e => .error e : Res).K _ _ → _
          match blk T j false (n + 1) m with
          | .ok (n1, m1) => exact fun k => k
          | .error e => exact fun k => k
        refine Res.K.mono k1 (fun n2 m2 q H2 xs2 kvs2 p2 hmore hl2 hk2 hm2 => ?_) fun e h => h.mono s0
        obtain ⟨more, rfl⟩ := hmore
        have ha2 : H2 a = some (.tup (y :: ys)) := p2.s0 _ _ upd_same
        have p2 := p2.weak s0
        have hat : ∀ r : List V, (xs ++ [V.ref a] ++ r)[xs.length]? = some (.ref a) := fun r => by
          rw [List.append_assoc, List.getElem?_append_right (Nat.le_refl _), Nat.sub_self]
          rfl
        have hset : ∀ (r : List V) (b : Addr), (xs ++ [V.ref a] ++ r).set xs.length (V.ref b) = xs ++ (V.ref b :: r) := fun r b => by
          rw [List.append_assoc, List.set_append_right _ _ (Nat.le_refl _), Nat.sub_self]
          rfl
        refine meth_run (val_fld (val_var rfl) p2.pg N.C.cl N.C.lines pf_lines) p2.li.o (lf_no (by decide +kernel) (by decide +kernel)) ?_
        refine (val_var rfl) _ ?_
        refine ⟨A.l, A.dl, A.r, T.rows, n2, dpO (some j), rfl, p2.li, tx.sz, dpO_le _, fun H3 pp s3 np hpp => ?_⟩
        refine ⟨by show 1 ≤ sizeLine; decide, fun qq nq => ?_⟩
        have s4 := same_upd (o := .lst [V.str "else"]) nq
        refine ⟨.list ((wordsAt T.rows n2 (dpO (some j))).map PyData.str), .list (([("else" : Str)] : List Str).map PyData.str), .lst (SqL.of (s4 _ _ hpp)) (dpAll_strs _), .lst (SqL.of upd_same) (dpAll_strs ["else"]), shaped_strs fun y hy => (words_ok tx.sz y hy).1, by decide +kernel, ?_⟩
        have e : PyData.eqv (.list ((wordsAt T.rows n2 (dpO (some j))).map PyData.str)) (.list (([("else" : Str)] : List Str).map PyData.str)) = decide (wordsAt T.rows n2 (dpO (some j)) = (["else"] : List Str)) := by
          rw [PyData.eqv]
          exact eqv_strs _ _
        rw [e]
        have p4 := p2.mono (s3.trans s4)
        have ha4 := (s3.trans s4) _ _ ha2
        generalize (upd H3 qq (.lst [V.str "else"])) = H4 at p4 ha4
        refine ⟨_, rfl, ?_⟩
        unfold elseR at q
        cases ce : decide (wordsAt T.rows n2 (dpO (some j)) = (["else"] : List Str)) with
        | false =>
          rw [ce, if_neg Bool.false_ne_true] at q
          refine iteT ?_
          refine p4.aug N.C rfl (val_var rfl) (val_lenL (val_fld (val_var rfl) p4.pg N.C.cl N.C.steps pf_steps) (SqL.of p4.st)) (hat _) ha4 hy fun H5 b p5 _ => ?_
          refine q H5 _ kvs2 p5 ⟨.ref b :: more, hset _ _⟩ ?_ hk2 hm2
          rw [List.length_set]
          omega
        | true =>
          rw [ce, if_pos rfl] at q
          refine iteF ?_
          have hn2 : n2 < T.rows.length := wordsAt_lt (dp := dpO (some j)) (by rw [of_decide_eq_true ce]; exact fun z => nomatch z)
          dsimp only [tNext, tSeq, tDrop]
          refine meth0_run (val_fld (val_var rfl) p4.pg N.C.cl N.C.lines pf_lines) p4.li.o (lf_no (by decide +kernel) (by decide +kernel)) ?_
          refine ⟨A.l, A.dl, A.r, T.rows, n2, rfl, p4.li, hn2, fun H5 sb li5 => ?_⟩
          have ha5 : H5 a = some (.tup (y :: ys)) := sb _ _ (ne_of ha4 p4.li.o (fun e => nomatch e)) ha4
          have p5 := p4.step sb li5
          refine (val_lenL (val_fld (val_var rfl) p5.pg N.C.cl N.C.steps pf_steps) (SqL.of p5.st)) _ ?_
          dsimp only [gName]
          refine bm_run (val_fld (val_var rfl) p5.pg N.C.cl N.C.steps pf_steps) (.inl ⟨rfl, _, SqL.of p5.st⟩) ?_
          refine ⟨by show 1 ≤ sizeLine; decide, fun o no => ?_⟩
          have s6 := same_upd (o := .tup [.str "jump"]) no
          have p6 := p5.mono s6
          have ha6 := s6 _ _ ha5
          have ho6 : (upd H5 o (.tup [.str "jump"])) o = some (.tup [.str "jump"]) := upd_same
          generalize (upd H5 o (.tup [.str "jump"])) = H6 at p6 ho6 ha6 s6
          refine ⟨A.st, _, .ref o, rfl, rfl, p6.st, small1000 (by omega), ?_⟩
          have p7 := p6.push ho6 (Nat.le_of_ble_eq_true rfl)
          have ha7 := at_but (b := A.st) (o := .lst (xs ++ [.ref a] ++ more ++ [.ref o])) ha6 (by rw [p6.st]; exact fun e => nomatch e)
          have ho7 := at_but (b := A.st) (o := .lst (xs ++ [.ref a] ++ more ++ [.ref o])) ho6 (by rw [p6.st]; exact fun e => nomatch e)
          refine p7.aug N.C rfl (val_var rfl) (val_lenL (val_fld (val_var rfl) p7.pg N.C.cl N.C.steps pf_steps) (SqL.of p7.st)) (by rw [List.append_assoc (xs ++ [V.ref a])]; exact hat _) ha7 hy fun H8 b p8 sb8 => ?_
          have ho8 : H8 o = some (.tup [.str "jump"]) := sb8 _ _ (ne_of ho7 p7.st (fun e => nomatch e)) ho7
          rw [List.append_assoc (xs ++ [V.ref a]), hset] at p8
          obtain ⟨p8', s08⟩ := p8.pin ho8
          refine meth_run (val_var rfl) p8.pg (pf_no (by decide +kernel)) ?_
          refine (val_i0 (val_var rfl) val_c) _ (val_c _ ?_)
          have hl8 : (xs ++ (V.ref b :: (more ++ [V.ref o]))).length = (xs ++ [V.ref a] ++ more).length + 1 := by
            simp only [List.length_append, List.length_cons, List.length_nil]
            omega
          refine ⟨A, T, _, n2 + 1, m2, _, kvs2, false, sl, by rw [e1]; rfl, p8', tx, by rw [hl8]; omega, hk2, hm2, ?_⟩
          refine Res.K.mono q (fun n9 m9 q9 H9 xs9 kvs9 p9 hmore9 hl9 hk9 hm9 => ?_) fun e h => h.mono s08
          obtain ⟨more9, rfl⟩ := hmore9
          have ho9 : H9 o = some (.tup [.str "jump"]) := p9.s0 _ _ upd_same
          have p9 := p9.weak s08
          have hat9 : (xs ++ (V.ref b :: (more ++ [V.ref o])) ++ more9)[(xs ++ [V.ref a] ++ more).length]? = some (.ref o) := by
            have e : xs ++ (V.ref b :: (more ++ [V.ref o])) ++ more9 = (xs ++ (V.ref b :: more)) ++ (V.ref o :: more9) := by simp
            have e2 : (xs ++ [V.ref a] ++ more).length = (xs ++ (V.ref b :: more)).length := by simp
            rw [e, e2, List.getElem?_append_right (Nat.le_refl _), Nat.sub_self]
            rfl
          refine p9.aug N.C rfl (val_var rfl) (val_lenL (val_fld (val_var rfl) p9.pg N.C.cl N.C.steps pf_steps) (SqL.of p9.st)) hat9 ho9 (Nat.zero_le _) fun HA c pA _ => ?_
          refine q9 HA _ kvs9 pA ⟨((V.ref b :: (more ++ [V.ref o])) ++ more9).set (((V.ref b :: more)).length) (.ref c), ?_⟩ ?_ hk9 hm9
          · have e2 : (xs ++ [V.ref a] ++ more).length = xs.length + (V.ref b :: more).length := by simp
            rw [List.append_assoc, e2, List.set_append_right _ _ (Nat.le_add_right _ _), Nat.add_sub_cancel_left]
          · rw [List.length_set]
            exact hl9
    · unfold ifR at k
      rw [eh, if_neg Bool.false_ne_true] at k
      exact k
end
end K5
namespace K5
open PySem PySem.Spec PyProof.Rows L2
section
variable {P : Program} {w : World} {K : PySem.W.Frag} {mg : Str → Option Value} {base : Heap} {CL CP CT fNeed fNum fDoor : Addr} {dNeed dNum dDoor : FuncData} {fWords fStep fCond fPlain : Addr} {dWords dStep dCond dPlain : FuncData}
theorem ok_read_statement {f fH fB fI fW : Addr} {fd dH dB dI dW : FuncData} {kb : Nat} {o : Option Nat} (hk : 7 ≤ kb) (ho : ∀ j, o = some j → j ≤ 2) (N : En P w K mg base CL CP CT fNeed fNum fDoor dNeed dNum dDoor) (M : En2 P w K mg base CL CP CT fWords fStep fCond fPlain dWords dStep dCond dPlain) (F : Fun K "read_statement" "Program.read_statement" s_Program_read_statement f fd)
    (Mi : Mf K CP "read_if" "Program.read_if" s_Program_read_if fI dI ["self", "words", "depth"]) (Mw : Mf K CP "read_while" "Program.read_while" s_Program_read_while fW dW ["self", "words", "depth"])
    (Mh : Mf K CP "read_head" "Program.read_head" s_Program_read_head fH dH ["self", "words", "depth"]) (Mb : Mf K CP "read_block" "Program.read_block" s_Program_read_block fB dB ["self", "depth", "asks_first"]) (Gb : FnOk P w K mg base (L2.CX P w) kb fB dB ["self", "depth", "asks_first"] (spBlockO CL CP CT o)) :
    FnOk P w K mg base (L2.CX P w) (kb + 2) f fd ["self", "words", "depth"] (spStmt CL CP CT (fun T => stmtR T (subR T o) (dpO o)) o) := by
  have Gi : FnOk P w K mg base (L2.CX P w) (kb + 1) fI dI ["self", "words", "depth"] (spStmt CL CP CT (fun T => ifR T (subR T o) (dpO o)) o) := ok_read_if hk ho N M Mi.F Mh Mb Gb
  have Gw : FnOk P w K mg base (L2.CX P w) (kb + 1) fW dW ["self", "words", "depth"] (spStmt CL CP CT (fun T => whileR T (subR T o) (dpO o)) o) := ok_read_while hk ho N M Mw.F Mh Mb Gb
  refine F.okX sc_Program_read_statement (fun vs H Q E h => ?_) (fun cdv A0 outer s H vs Q E hr h => ?_)
  · obtain ⟨A, T, H0, n, m, xs, kvs, p, ws, sl, rfl, _⟩ := h
    rfl
  · obtain ⟨A, T, H0, n, m, xs, kvs, p, ws, sl, rfl, pw, tx, hp, hz, hne, hwl, hn, hxs, hkv, hm, k⟩ := h
    have S := sc_Program_read_statement
    refine ⟨_, (pss_one (ps_if (pt_cmpR op_eq (pe_ix ix_list (pv 1) pe_int (fun _ _ => rfl)) pe_str (nomark _))
        (pss_one (ps_expr (pe_meth (pv 0) N.C.cl Mi.m Gi (hr.mono (Nat.le_refl _)) Mi.b .nil (pxp rfl rfl rfl rfl) (pa_cons (pv 1) (pa_cons (pv 2) pa_nil)))))
        (pss_one (ps_if (pt_cmpR op_eq (pe_ix ix_list (pv 1) pe_int (fun _ _ => rfl)) pe_str (nomark _))
          (pss_one (ps_expr (pe_meth (pv 0) N.C.cl Mw.m Gw (hr.mono (Nat.le_refl _)) Mw.b .nil (pxp rfl rfl rfl rfl) (pa_cons (pv 1) (pa_cons (pv 2) pa_nil)))))
          (pss_cons (ps_expr (pe_bm PySem.F.plainAttrs_list PySem.F.slot_list_append PySem.F.type_list_append mt_append (pe_fld (pv 0) rfl) (pa_cons (pe_meth (pv 0) N.C.cl M.Mp.m M.Gp (hr.mono (by omega)) M.Mp.b .nil (pxp rfl rfl rfl rfl) (pa_cons (pv 1) pa_nil)) pa_nil)))
          (pss_one (ps_expr (pe_meth0 (pe_fld (pv 0) rfl) N.L.cl M.Ms.m M.Gs (hr.mono (by omega)) M.Ms.b .nil pass0)))))))), ?_⟩
    dsimp only at k
    obtain ⟨x, r, rfl⟩ : ∃ x r, ws = x :: r := by
      cases ws with
      | nil => exact absurd rfl hne
      | cons x r => exact ⟨x, r, rfl⟩
    have vis : ∀ (y : Str), Ans (tTest (tOp rEq (tOp (rIxL K) (tVar 1) (tC (.int 0))) (tC (.str y)))) [some (.ref A.g), some (.ref p), some (.int ((dpO o : Nat) : Int))] H (decide (x = y)) := fun y Q2 q2 => by
      refine (ans_eq2 (val_ixL (val_var rfl) val_c (SqL.of hp) (atI_nat (j := 0) rfl)) val_c rfl) _ ?_
      rw [dec_str]
      exact q2
    unfold stmtR at k
    have ex : (x :: r).getD 0 "" = x := rfl
    rw [ex] at k
    dsimp only [tNext, tSeq, tAsg, tDrop, tIfS]
    refine (vis "if") _ ?_
    cases c1 : decide (x = ("if" : Str)) with
    | true =>
      rw [c1, if_pos rfl] at k
      refine iteT ?_
      refine meth_run (val_var rfl) pw.pg (pf_no (by decide +kernel)) ?_
      refine (val_var rfl) _ ((val_var rfl) _ ?_)
      exact ⟨A, T, H0, n, m, xs, kvs, p, x :: r, sl, rfl, pw, tx, hp, hz, hne, hwl, hn, hxs, hkv, hm, k⟩
    | false =>
      rw [c1, if_neg Bool.false_ne_true] at k
      refine iteF ?_
      refine (vis "while") _ ?_
      cases c2 : decide (x = ("while" : Str)) with
      | true =>
        rw [c2, if_pos rfl] at k
        refine iteT ?_
        refine meth_run (val_var rfl) pw.pg (pf_no (by decide +kernel)) ?_
        refine (val_var rfl) _ ((val_var rfl) _ ?_)
        exact ⟨A, T, H0, n, m, xs, kvs, p, x :: r, sl, rfl, pw, tx, hp, hz, hne, hwl, hn, hxs, hkv, hm, k⟩
      | false =>
        rw [c2, if_neg Bool.false_ne_true] at k
        refine iteF ?_
        refine bm_run (val_fld (val_var rfl) pw.pg N.C.cl N.C.steps pf_steps) (.inl ⟨rfl, _, SqL.of pw.st⟩) ?_
        refine meth_run (val_var rfl) pw.pg (pf_no (by decide +kernel)) ?_
        refine (val_var rfl) _ ?_
        refine ⟨A, T, H0, n, m, xs, kvs, p, x :: r, rfl, pw, tx, hp, hne, hz, hwl, by omega, by omega, fun e H1 y kvs1 p1 hkv1 hy => ?_, fun e => ?_⟩
        · rw [if_pos e] at k
          refine ⟨A.st, xs, y, rfl, rfl, p1.st, small1000 (by omega), ?_⟩
          obtain ⟨a, z, zs, rfl, ha, hzs⟩ := hy
          have p2 := p1.push ha (by omega)
          refine meth0_run (val_fld (val_var rfl) p2.pg N.C.cl N.C.lines pf_lines) p2.li.o (lf_no (by decide +kernel) (by decide +kernel)) ?_
          refine ⟨A.l, A.dl, A.r, T.rows, n, rfl, p2.li, hn, fun H3 sb li3 => ?_⟩
          have p3 := p2.step sb li3
          refine k H3 _ kvs1 p3 ⟨[.ref a], rfl⟩ ?_ (by omega) hm
          rw [List.length_append]
          show xs.length + 1 + sl ≤ _
          omega
        · rw [e, if_neg Bool.false_ne_true] at k
          exact k
end
end K5
namespace K5
open PySem PySem.Spec PyProof.Rows L2
def oOf : Nat → Option Nat
  | 0 => none
  | j + 1 => some j
theorem dp_oOf (j : Nat) : dpO (oOf j) = 3 - j := by
  cases j with
  | zero => rfl
  | succ j =>
    show 2 - j = _
    omega
theorem blk_of (T : Tx) (j : Nat) (af : Bool) (n m : Nat) : blk T j af n m = blockR T (stmtR T (subR T (oOf j)) (dpO (oOf j))) (dpO (oOf j)) af 8 n m := by
  cases j <;> rfl
theorem val_orV {ta tb : TE} {σ : L2.St} {H : Hp} {a b : Bool} (ha : Val ta σ H (.bl a)) (hb : a = false → Val tb σ H (.bl b)) : Val (tOrV ta tb) σ H (.bl (a || b)) := fun Q q => ha _ ⟨a, rfl, by
  cases a with
  | true => exact iteT q
  | false => exact iteF (hb rfl _ q)⟩
theorem val_andTB {K : PySem.W.Frag} {ta tb : TE} {σ : L2.St} {H : Hp} {a b : Bool} (ha : Val ta σ H (.bl a)) (hb : Val tb σ H (.bl b)) : Val (tAndT K ta tb) σ H (.bl (a && b)) := fun Q q => ha _ ⟨a, rfl, by
  cases a with
  | true => exact iteT (hb _ q)
  | false => exact iteF q⟩
section
variable {P : Program} {w : World} {K : PySem.W.Frag} {mg : Str → Option Value} {base : Heap} {CL CP CT fNeed fNum fDoor : Addr} {dNeed dNum dDoor : FuncData} {fWords fStep fCond fPlain : Addr} {dWords dStep dCond dPlain : FuncData}
/-- before each turn of a block, f turns left at most -/
structure BW (CL CP CT : Addr) (A : Ad) (T : Tx) (H0 : Hp) (j : Nat) (af : Bool) (xs : List V) (sl : Nat) (Q : VK) (E : XK) (f : Nat) (σ : L2.St) (H : Hp) (n m : Nat) (xs1 : List V) (kvs1 : List (Key × V)) (p : Addr) : Prop where
  f8 : f ≤ 8
  st : σ = [some (.ref A.g), some (.int ((3 - j : Nat) : Int)), some (.bl af), some (.int ((8 - f : Nat) : Int)), some (.ref p)]
  pw : Wd CL CP A T H0 H n m xs1 kvs1
  hp : H p = some (.lst ((wordsAt T.rows n (3 - j)).map V.str))
  mo : ∃ more, xs1 = xs ++ more
  le : xs1.length + sl ≤ 2 * m + 100
  lk : kvs1.length ≤ m + 100
  hm : m ≤ 24
  k : (blockR T (stmtR T (subR T (oOf j)) (dpO (oOf j))) (dpO (oOf j)) af f n m).K (BQ CL CP A T H0 xs sl Q) fun e => ErrK CT (.int e) H0 E
theorem ok_read_block {f fS : Addr} {fd dS : FuncData} {kb j : Nat} (hk : 7 ≤ kb) (N : En P w K mg base CL CP CT fNeed fNum fDoor dNeed dNum dDoor) (M : En2 P w K mg base CL CP CT fWords fStep fCond fPlain dWords dStep dCond dPlain) (F : Fun K "read_block" "Program.read_block" s_Program_read_block f fd)
    (Ms : Mf K CP "read_statement" "Program.read_statement" s_Program_read_statement fS dS ["self", "words", "depth"]) (Gs : FnOk P w K mg base (L2.CX P w) (kb + 2) fS dS ["self", "words", "depth"] (spStmt CL CP CT (fun T => stmtR T (subR T (oOf j)) (dpO (oOf j))) (oOf j))) :
    FnOk P w K mg base (L2.CX P w) (kb + 3) f fd ["self", "depth", "asks_first"] (spBlock CL CP CT j) := by
  obtain ⟨tB, gB⟩ := M.cB
  obtain ⟨tS, gS⟩ := M.cS
  refine F.okX sc_Program_read_block (fun vs H Q E h => ?_) (fun cdv A0 outer s H vs Q E hr h => ?_)
  · obtain ⟨A, T, H0, n, m, xs, kvs, af, sl, rfl, _⟩ := h
    rfl
  · obtain ⟨A, T, H0, n, m, xs, kvs, af, sl, rfl, pw, tx, hl, hkv, hm, k⟩ := h
    have S := sc_Program_read_block
    refine ⟨_, (pss_cons (ps_set (i := 3) S.nd rfl (.inl rfl) pe_int)
      (pss_cons (ps_set (i := 4) S.nd rfl (.inl rfl) (pe_meth (pe_fld (pv 0) rfl) N.L.cl M.Mw.m M.Gw (hr.mono (by omega)) M.Mw.b .nil pass0 (pa_cons (pv 1) pa_nil)))
      (pss_one (ps_while (passes_of rfl) (PW.pt (pw_or (pt_truth (pv 4) (by intro _; rfl)) (pw_or1 (pt_cmpR op_eq (pv 3) pe_int (nomark _)))))
        (pss_cons (ps_expr (pe_meth (pe_fld (pv 0) rfl) N.L.cl N.Mn.m N.Gn (hr.mono (by omega)) N.Mn.b .nil (pxp rfl rfl rfl rfl) (pa_cons (pe_andT (pv 4) (pe_andT (pe_cmpR op_lt (pv 3) (pe_glob (v := .int 8) (by rfl) gB ⟨_, rfl⟩) (nomark _)) (pe_one (pe_cmpR op_lt (pe_fld (pv 0) rfl) (pe_glob (v := .int 24) (by rfl) gS ⟨_, rfl⟩) (nomark _))))) pa_nil)))
        (pss_cons (ps_expr (pe_meth (pe_fld (pv 0) rfl) N.L.cl N.Mn.m N.Gn (hr.mono (by omega)) N.Mn.b .nil (pxp rfl rfl rfl rfl) (pa_cons (pe_or (pe_cmpR op_gt (pv 3) pe_int (nomark _)) (pe_or (pe_not (pv 2)) (pe_one (pe_cmpR op_eq (pe_ix ix_list (pv 4) pe_int (fun _ _ => rfl)) pe_str (nomark _))))) pa_nil)))
        (pss_cons (ps_aug (i := 3) S.nd rfl (.inl rfl) pe_int ip_add)
        (pss_cons (ps_fldaug (pv 0) pe_int in_add)
        (pss_cons (ps_expr (pe_meth (pv 0) N.C.cl Ms.m Gs (hr.mono (Nat.le_refl _)) Ms.b .nil (pxp rfl rfl rfl rfl) (pa_cons (pv 4) (pa_cons (pv 1) pa_nil))))
        (pss_one (ps_set (i := 4) S.nd rfl (.inl rfl) (pe_meth (pe_fld (pv 0) rfl) N.L.cl M.Mw.m M.Gw (hr.mono (by omega)) M.Mw.b .nil pass0 (pa_cons (pv 1) pa_nil))))))))))))), ?_⟩
    dsimp only [tNext, tSeq, tAsg]
    refine meth_run (val_fld (val_var rfl) pw.pg N.C.cl N.C.lines pf_lines) pw.li.o (lf_no (by decide +kernel) (by decide +kernel)) ?_
    refine (val_var rfl) _ ?_
    refine ⟨A.l, A.dl, A.r, T.rows, n, 3 - j, rfl, pw.li, tx.sz, by omega, fun H1 p s1 np hp => ?_⟩
    dsimp only [gName]
    refine ⟨fun f σ H => ∃ n m xs1 kvs1 p, BW CL CP CT A T H0 j af xs sl Q E f σ H n m xs1 kvs1 p, ⟨8, n, m, xs, kvs, p, Nat.le_refl _, rfl, pw.mono s1, hp, ⟨[], (List.append_nil _).symm⟩, hl, hkv, hm, ?_⟩, fun f σ H h => ?_⟩
    · rw [← blk_of]
      exact k
    · obtain ⟨n, m, xs1, kvs1, p, W⟩ := h
      obtain ⟨f8, rfl, pw, hp, hmo, hl, hkv, hm, k⟩ := W
      have k' := k
      rw [dp_oOf] at k'
      have tw : ∀ {H' : Hp}, Same H H' → TruV K (.ref p) H' (!((wordsAt T.rows n (3 - j)).map V.str).isEmpty) := fun e => .inl ⟨_, SqL.of (e _ _ hp), rfl⟩
      cases hw : wordsAt T.rows n (3 - j) with
      | nil =>
        have tf : ∀ {H' : Hp}, Same H H' → TruV K (.ref p) H' false := fun e => by
          have := tw e
          rw [hw] at this
          exact this
        refine ⟨_, rfl, false, tf (Same.refl _), iteF ?_⟩
        refine (ans_eq2 (val_var rfl) val_c rfl) _ ?_
        by_cases c8 : f = 8
        · subst c8
          refine iteT ⟨fun _ _ => False, fun _ _ h => h.elim, ?_⟩
          dsimp only [tDrop]
          refine meth_run (val_fld (val_var rfl) pw.pg N.C.cl N.C.lines pf_lines) pw.li.o (lf_no (by decide +kernel) (by decide +kernel)) ?_
          refine ⟨_, rfl, false, tf (Same.refl _), iteF ?_⟩
          refine ⟨A.l, A.dl, A.r, T.rows, n, _, false, rfl, pw.li, tf (Same.refl _), fun e => absurd e Bool.false_ne_true, fun _ => ErrK.mono ?_ pw.s0⟩
          unfold blockR at k'
          rw [if_pos hw] at k'
          exact k'
        · have ed : decide (V.int ((8 - f : Nat) : Int) = V.int 0) = false := decide_eq_false fun e => by
            injection e with e
            omega
          rw [ed]
          refine iteF ?_
          cases f with
          | zero =>
            unfold blockR at k'
            rw [if_pos hw] at k'
            exact k' H xs1 kvs1 pw hmo hl hkv hm
          | succ f =>
            unfold blockR at k'
            rw [if_pos hw, if_neg (by omega)] at k'
            exact k' H xs1 kvs1 pw hmo hl hkv hm
      | cons z r =>
        have hwn : wordsAt T.rows n (3 - j) ≠ [] := by rw [hw]; exact fun e => nomatch e
        have hn : n < T.rows.length := wordsAt_lt hwn
        have tt : ∀ {H' : Hp}, Same H H' → TruV K (.ref p) H' true := fun e => by
          have := tw e
          rw [hw] at this
          exact this
        refine ⟨_, rfl, true, tt (Same.refl _), iteT ?_⟩
        refine iteT ⟨fun σ' H' => ∃ n m xs1 kvs1 p, BW CL CP CT A T H0 j af xs sl Q E (f - 1) σ' H' n m xs1 kvs1 p ∧ 0 < f, fun σ' H' h => ?_, ?_⟩
        · obtain ⟨n, m, xs1, kvs1, p, h, hf⟩ := h
          exact ⟨f - 1, by omega, n, m, xs1, kvs1, p, h⟩
        dsimp only [tDrop, tSeq]
        refine meth_run (val_fld (val_var rfl) pw.pg N.C.cl N.C.lines pf_lines) pw.li.o (lf_no (by decide +kernel) (by decide +kernel)) ?_
        refine ⟨_, rfl, true, tt (Same.refl _), iteT ?_⟩
        refine (val_andTB (val_i0b (val_var rfl) val_c) (val_i0b (val_fld (val_var rfl) pw.pg N.C.cl N.C.many pf_many) val_c)) _ ?_
        refine ⟨A.l, A.dl, A.r, T.rows, n, _, _, rfl, pw.li, rfl, fun e1 => ?_, fun e1 => ErrK.mono ?_ pw.s0⟩
        · rw [Bool.and_eq_true] at e1
          have hf : 8 - f < 8 := by
            have := of_decide_eq_true e1.1
            omega
          have hm24 : m < 24 := by
            have := of_decide_eq_true e1.2
            omega
          obtain ⟨f, rfl⟩ : ∃ g, f = g + 1 := ⟨f - 1, by omega⟩
          unfold blockR at k'
          rw [if_neg hwn, if_pos hm24] at k'
          refine meth_run (val_fld (val_var rfl) pw.pg N.C.cl N.C.lines pf_lines) pw.li.o (lf_no (by decide +kernel) (by decide +kernel)) ?_
          have vz : Val (tOp rEq (tOp (rIxL K) (tVar 4) (tC (.int 0))) (tC (.str "ask"))) [some (.ref A.g), some (.int ((3 - j : Nat) : Int)), some (.bl af), some (.int ((8 - (f + 1) : Nat) : Int)), some (.ref p)] H (.bl (decide (V.str z = V.str "ask"))) :=
            val_op (val_ixL (val_var rfl) val_c (SqL.of hp) (atI_nat (j := 0) (by rw [hw]; rfl))) val_c fun Q q => ⟨rfl, q⟩
          refine (val_orV (val_i0b (val_var rfl) val_c) fun _ => val_orV (val_notV (val_var rfl)) fun _ => vz) _ ?_
          have a1 : decide ((0 : Int) < ((8 - (f + 1) : Nat) : Int)) = decide (f ≠ 7) := decide_eq_decide.mpr ⟨fun e => by omega, fun e => by omega⟩
          have hcond : (decide ((0 : Int) < ((8 - (f + 1) : Nat) : Int)) || (!af || decide (V.str z = V.str "ask"))) = (decide (f ≠ 7) || (!af || decide ((wordsAt T.rows n (3 - j)).getD 0 "" = ("ask" : Str)))) := by
            rw [a1, dec_str, hw]
            rfl
          rw [hcond]
          refine ⟨A.l, A.dl, A.r, T.rows, n, _, _, rfl, pw.li, rfl, fun e2 => ?_, fun e2 => ErrK.mono ?_ pw.s0⟩
          · rw [if_pos e2] at k'
            have k1 : (stmtR T (subR T (oOf j)) (3 - j) (wordsAt T.rows n (3 - j)) n (m + 1)).K (fun n1 m1 => (blockR T (stmtR T (subR T (oOf j)) (3 - j)) (3 - j) af f n1 m1).K (BQ CL CP A T H0 xs sl Q) fun e => ErrK CT (.int e) H0 E) fun e => ErrK CT (.int e) H0 E := by
              revert k'
              match stmtR T (subR T (oOf j)) (3 - j) (wordsAt T.rows n (3 - j)) n (m + 1) with
              | .ok (n1, m1) => exact fun k => k
              | .error e => exact fun k => k
            refine ⟨_, rfl, _, 1, rfl, rfl, ?_⟩
            refine ⟨_, rfl, A.g, CP, A.dg, _, _, rfl, pw.pg, N.C.cl, N.C.many, pf_many, m, 1, rfl, rfl, A.dg, _, pw.pg, by show 7 < 1000; decide, ?_⟩
            have eH : upd H A.g (.ins CP A.dg (putF "many" (.int ((m : Int) + 1)) (pf A T m))) = upd H A.g (.ins CP A.dg (pf A T (m + 1))) := by
              rw [show ((m : Int) + 1) = ((m + 1 : Nat) : Int) from rfl, pf_put]
            rw [eH]
            have p2 := pw.count (m + 1)
            have hp2 := at_but (b := A.g) (o := .ins CP A.dg (pf A T (m + 1))) hp (by rw [pw.pg]; exact fun e => nomatch e)
            refine meth_run (val_var rfl) p2.pg (pf_no (by decide +kernel)) ?_
            refine (val_var rfl) _ ((val_var rfl) _ ?_)
            refine ⟨A, T, H0, n, m + 1, xs1, kvs1, p, wordsAt T.rows n (3 - j), sl, by rw [dp_oOf]; rfl, p2, tx, hp2, words_ok tx.sz, hwn, words_many tx.sz, hn, by omega, by omega, by omega, ?_⟩
            show (stmtR T (subR T (oOf j)) (dpO (oOf j)) _ n (m + 1)).K _ _
            rw [dp_oOf]
            refine Res.K.mono k1 (fun n1 m1 q H3 xs3 kvs3 p3 hmore hl3 hk3 hm3 => ?_) fun e h => h
            refine meth_run (val_fld (val_var rfl) p3.pg N.C.cl N.C.lines pf_lines) p3.li.o (lf_no (by decide +kernel) (by decide +kernel)) ?_
            refine (val_var rfl) _ ?_
            refine ⟨A.l, A.dl, A.r, T.rows, n1, 3 - j, rfl, p3.li, tx.sz, by omega, fun H4 p4 s4 np4 hp4 => ?_⟩
            dsimp only [gName]
            refine ⟨n1, m1, xs3, kvs3, p4, ⟨by omega, ?_, p3.mono s4, hp4, ?_, hl3, hk3, hm3, ?_⟩, Nat.succ_pos _⟩
            · have e : (((8 - (f + 1) : Nat) : Int) + 1) = ((8 - (f + 1 - 1) : Nat) : Int) := by omega
              show [some (V.ref A.g), some (.int ((3 - j : Nat) : Int)), some (.bl af), some (.int (((8 - (f + 1) : Nat) : Int) + 1)), some (.ref p4)] = _
              rw [e]
            · obtain ⟨more, rfl⟩ := hmo
              obtain ⟨more3, rfl⟩ := hmore
              exact ⟨more ++ more3, List.append_assoc _ _ _⟩
            · rw [dp_oOf]
              exact q
          · rw [e2, if_neg Bool.false_ne_true] at k'
            exact k'
        · cases f with
          | zero =>
            unfold blockR at k'
            rw [if_neg hwn] at k'
            exact k'
          | succ f =>
            have hm24 : ¬ m < 24 := fun c => by
              have a1 : decide (((8 - (f + 1) : Nat) : Int) < 8) = true := decide_eq_true (by omega)
              have a2 : decide ((m : Int) < 24) = true := decide_eq_true (by omega)
              rw [a1, a2] at e1
              exact nomatch e1
            unfold blockR at k'
            rw [if_neg hwn, if_neg hm24] at k'
            exact k'
end
end K5
namespace K5
open PySem PySem.Spec PyProof.Rows L2
section
variable {P : Program} {w : World} {K : PySem.W.Frag} {mg : Str → Option Value} {base : Heap} {CL CP CT fNeed fNum fDoor : Addr} {dNeed dNum dDoor : FuncData} {fWords fStep fCond fPlain : Addr} {dWords dStep dCond dPlain : FuncData}
/-- the readers that call one another -/
structure En3 (K : PySem.W.Frag) (CP : Addr) (fH fI fW fS fB : Addr) (dH dI dW dS dB : FuncData) : Prop where
  h : Mf K CP "read_head" "Program.read_head" s_Program_read_head fH dH ["self", "words", "depth"]
  i : Mf K CP "read_if" "Program.read_if" s_Program_read_if fI dI ["self", "words", "depth"]
  w : Mf K CP "read_while" "Program.read_while" s_Program_read_while fW dW ["self", "words", "depth"]
  s : Mf K CP "read_statement" "Program.read_statement" s_Program_read_statement fS dS ["self", "words", "depth"]
  b : Mf K CP "read_block" "Program.read_block" s_Program_read_block fB dB ["self", "depth", "asks_first"]
theorem ok_block {fH fI fW fS fB : Addr} {dH dI dW dS dB : FuncData} (N : En P w K mg base CL CP CT fNeed fNum fDoor dNeed dNum dDoor) (M : En2 P w K mg base CL CP CT fWords fStep fCond fPlain dWords dStep dCond dPlain) (R : En3 K CP fH fI fW fS fB dH dI dW dS dB) :
    ∀ j : Nat, j ≤ 3 → FnOk P w K mg base (L2.CX P w) (13 + 3 * j) fB dB ["self", "depth", "asks_first"] (spBlock CL CP CT j)
  | 0, _ => by
    have G0 : FnOk P w K mg base (L2.CX P w) 10 fB dB ["self", "depth", "asks_first"] (spBlockO CL CP CT none) := R.b.F.okX sc_Program_read_block (fun vs H Q E h => h.elim) (fun cdv A0 outer s H vs Q E hr h => h.elim)
    exact ok_read_block (kb := 10) (j := 0) (by decide) N M R.b.F R.s (ok_read_statement (o := none) (by decide) (fun j e => nomatch e) N M R.s.F R.i R.w R.h R.b G0)
  | j + 1, h => by
    have G0 : FnOk P w K mg base (L2.CX P w) (13 + 3 * j) fB dB ["self", "depth", "asks_first"] (spBlockO CL CP CT (some j)) := ok_block N M R j (by omega)
    exact ok_read_block (kb := 13 + 3 * j) (j := j + 1) (by omega) N M R.b.F R.s (ok_read_statement (o := some j) (by omega) (fun i e => by cases e; omega) N M R.s.F R.i R.w R.h R.b G0)
/-- what reading a door leaves -/
def DQ (CL CP : Addr) (A : Ad) (T : Tx) (H0 : Hp) (sl : Nat) (Q : VK) (n m : Nat) : Prop :=
  ∀ (H' : Hp) (xs' : List V) (kvs' : List (Key × V)) (i : Nat), Wd CL CP A T H0 H' n m xs' kvs' → xs'.length + sl ≤ 2 * m + 100 → kvs'.length ≤ m + 100 → m ≤ 24 → Q (.int i) H'
def spReadDoor (CL CP CT : Addr) : Sp := fun vs H Q E => ∃ (A : Ad) (T : Tx) (H0 : Hp) (n m : Nat) (xs : List V) (kvs : List (Key × V)) (sl : Nat), vs = [.ref A.g] ∧ Wd CL CP A T H0 H n m xs kvs ∧ TxOk T ∧
  xs.length + 1 + sl ≤ 2 * m + 100 ∧ kvs.length ≤ m + 100 ∧ m ≤ 24 ∧ (blk T 2 false n m).K (DQ CL CP A T H0 sl Q) fun e => ErrK CT (.int e) H0 E
theorem ok_read_door {f fB : Addr} {fd dB : FuncData} (N : En P w K mg base CL CP CT fNeed fNum fDoor dNeed dNum dDoor) (F : Fun K "read_door" "Program.read_door" s_Program_read_door f fd) (Mb : Mf K CP "read_block" "Program.read_block" s_Program_read_block fB dB ["self", "depth", "asks_first"]) (Gb : FnOk P w K mg base (L2.CX P w) 19 fB dB ["self", "depth", "asks_first"] (spBlock CL CP CT 2)) :
    FnOk P w K mg base (L2.CX P w) 20 f fd ["self"] (spReadDoor CL CP CT) := by
  refine F.okX sc_Program_read_door (fun vs H Q E h => ?_) (fun cdv A0 outer s H vs Q E hr h => ?_)
  · obtain ⟨A, T, H0, n, m, xs, kvs, sl, rfl, _⟩ := h
    rfl
  · obtain ⟨A, T, H0, n, m, xs, kvs, sl, rfl, pw, tx, hl, hkv, hm, k⟩ := h
    have S := sc_Program_read_door
    refine ⟨_, (pss_cons (ps_set (i := 1) S.nd rfl (.inl rfl) (pe_callB call_len_seq (by rfl) N.B.m_len PySem.boot_len (pa_cons (pe_fld (pv 0) rfl) pa_nil)))
      (pss_cons (ps_expr (pe_meth (pv 0) N.C.cl Mb.m Gb (hr.mono (by decide)) Mb.b .nil (pxp rfl rfl rfl rfl) (pa_cons pe_int (pa_cons pe_bl pa_nil))))
      (pss_cons (ps_expr (pe_bm PySem.F.plainAttrs_list PySem.F.slot_list_append PySem.F.type_list_append mt_append (pe_fld (pv 0) rfl) (pa_cons (pe_tup (pa_cons pe_str (pa_cons (pe_tup (pa_cons pe_str (pa_cons pe_int pa_nil))) pa_nil))) pa_nil)))
      (pss_one (ps_ret (pv 1)))))), ?_⟩
    dsimp only [tNext, tSeq, tAsg, tDrop, tRet]
    refine (val_lenL (val_fld (val_var rfl) pw.pg N.C.cl N.C.steps pf_steps) (SqL.of pw.st)) _ ?_
    dsimp only [gName]
    refine meth_run (val_var rfl) pw.pg (pf_no (by decide +kernel)) ?_
    refine ⟨A, T, H0, n, m, xs, kvs, false, sl + 1, rfl, pw, tx, by omega, hkv, hm, ?_⟩
    refine Res.K.mono k (fun n1 m1 q H1 xs1 kvs1 p1 hmore hl1 hk1 hm1 => ?_) fun e h => h
    refine bm_run (val_fld (val_var rfl) p1.pg N.C.cl N.C.steps pf_steps) (.inl ⟨rfl, _, SqL.of p1.st⟩) ?_
    refine ⟨by show 2 ≤ sizeLine; decide, fun o no => ?_⟩
    have p2 := p1.mono (same_upd (o := .tup [.str "worth", .int 0]) no)
    generalize (upd H1 o (.tup [.str "worth", .int 0])) = H2 at p2
    refine ⟨by show 2 ≤ sizeLine; decide, fun o3 no3 => ?_⟩
    have p3 := p2.mono (same_upd (o := .tup [.str "answer", .ref o]) no3)
    have ho3 : (upd H2 o3 (.tup [.str "answer", .ref o])) o3 = some (.tup [.str "answer", .ref o]) := upd_same
    generalize (upd H2 o3 (.tup [.str "answer", .ref o])) = H3 at p3 ho3
    refine ⟨A.st, xs1, .ref o3, rfl, rfl, p3.st, small1000 (by omega), ?_⟩
    have p4 := p3.push ho3 (Nat.le_of_ble_eq_true rfl)
    refine ⟨_, rfl, ?_⟩
    refine q _ _ kvs1 xs.length p4 ?_ hk1 hm1
    rw [List.length_append]
    show xs1.length + 1 + sl ≤ _
    omega
abbrev s_Program___init__ : Stmt := inClass (topS 16) 0
theorem sc_Program___init__ : FnScope ["self", "lines", "worths", "cells", "ports"] ["self", "lines", "worths", "cells", "ports"] (defScope s_Program___init__) := ⟨rfl, rfl, rfl, by decide +kernel, rfl, by decide +kernel, by decide +kernel⟩
def spProgram (CP : Addr) : Sp := fun vs H Q _ => ∃ (l g dg ct pt : Addr) (wn : Int), vs = [.ref g, .ref l, .int wn, .ref ct, .ref pt] ∧ H g = some (.ins CP dg []) ∧
  ∀ (H' : Hp) (st ak : Addr), SameBut g H H' → H st = none → H ak = none → H' g = some (.ins CP dg [("lines", .ref l), ("worths", .int wn), ("cells", .ref ct), ("ports", .ref pt), ("steps", .ref st), ("asks", .ref ak), ("many", .int 0)]) → H' st = some (.lst []) → H' ak = some (.dK []) → Q .non H'
theorem put_app {f : Str} {v : V} {ns : List Str} : ∀ {fs : List (Str × V)}, fs.map (·.1) = ns → (∀ x ∈ ns, ¬ x = f) → putF f v fs = fs ++ [(f, v)]
  | [], _, _ => rfl
  | (g, x) :: r, e, h => by
    subst e
    rw [put_tl (h g (List.mem_cons_self ..)), put_app (fs := r) rfl fun y hy => h y (List.mem_cons_of_mem _ hy)]
    rfl
theorem fld_new {D : Ends} {σ : L2.St} {H : Hp} {f : Str} {v : V} {to tv : TE} {g C dg : Addr} {fs : List (Str × V)} (ns : List Str) (hv : Val tv σ H v) (ho : Val to σ H (.ref g)) (hg : H g = some (.ins C dg fs)) (cl : Cls K C) (na : NoAttr K C f) (hns : fs.map (·.1) = ns) (hf : ∀ x ∈ ns, ¬ x = f) (hl : ns.length ≤ 100)
    (k : ∀ H', SameBut g H H' → H' g = some (.ins C dg (fs ++ [(f, v)])) → D.nx σ H') : sFld K to tv f D σ H := by
  have e := put_app (v := v) hns hf
  have l : fs.length ≤ 100 := by
    have : fs.length = ns.length := by rw [← hns, List.length_map]
    omega
  refine hv _ (ho _ ⟨g, C, dg, fs, rfl, hg, cl, na, by omega, ?_⟩)
  rw [e]
  exact k _ (SameBut.upd g H _) upd_same
theorem ok_Program_init {f : Addr} {fd : FuncData} (C : ClP K CP) (F : Fun K "__init__" "Program.__init__" s_Program___init__ f fd) : FnOk P w K mg base CX0 1 f fd ["self", "lines", "worths", "cells", "ports"] (spProgram CP) := by
  refine F.ok sc_Program___init__ (fun vs H Q E h => ?_) (fun cdv A0 outer s H vs Q E hr h => ?_)
  · obtain ⟨l, g, dg, ct, pt, wn, rfl, _⟩ := h
    rfl
  · obtain ⟨l, g, dg, ct, pt, wn, rfl, hg, k⟩ := h
    have S := sc_Program___init__
    refine ⟨_, (pss_cons (ps_fld (pv 0) (pv 1) rfl)
      (pss_cons (ps_fld (pv 0) (pv 2) rfl)
      (pss_cons (ps_fld (pv 0) (pv 3) rfl)
      (pss_cons (ps_fld (pv 0) (pv 4) rfl)
      (pss_cons (ps_fld (pv 0) (pe_lst pa_nil) rfl)
      (pss_cons (ps_fld (pv 0) pe_dnewK rfl)
      (pss_one (ps_fld (pv 0) pe_int rfl)))))))), ?_⟩
    dsimp only [tSeq]
    refine fld_new [] (val_var rfl) (val_var rfl) hg C.cl C.lines rfl (by decide +kernel) (by decide) fun H1 s1 g1 => ?_
    refine fld_new ["lines"] (val_var rfl) (val_var rfl) g1 C.cl C.worths rfl (by decide +kernel) (by decide) fun H2 s2 g2 => ?_
    refine fld_new ["lines", "worths"] (val_var rfl) (val_var rfl) g2 C.cl C.cells rfl (by decide +kernel) (by decide) fun H3 s3 g3 => ?_
    refine fld_new ["lines", "worths", "cells"] (val_var rfl) (val_var rfl) g3 C.cl C.ports rfl (by decide +kernel) (by decide) fun H4 s4 g4 => ?_
    refine ⟨by show 0 ≤ sizeLine; decide, fun st nst => ?_⟩
    have s5 := same_upd (o := .lst []) nst
    have st5 : (upd H4 st (.lst [])) st = some (.lst []) := upd_same
    have g5 := s5 _ _ g4
    have nsg : st ≠ g := fun e => by rw [e, g4] at nst; exact nomatch nst
    have s04 := ((s1.trans s2).trans s3).trans s4
    have s05 := s04.trans (SameBut.of_same s5)
    have n0 : H st = none := by
      cases e : H st with
      | none => rfl
      | some o => exact absurd ((s04 _ _ nsg e).symm.trans nst) (fun z => nomatch z)
    generalize (upd H4 st (.lst [])) = H5 at s5 st5 g5 s05
    refine fld_new ["lines", "worths", "cells", "ports"] val_c (val_var rfl) g5 C.cl C.steps rfl (by decide +kernel) (by decide) fun H6 s6 g6 => ?_
    have st6 := s6 _ _ nsg st5
    refine fun ak nak => ?_
    have s7 := same_upd (o := .dK []) nak
    have ak7 : (upd H6 ak (.dK [])) ak = some (.dK []) := upd_same
    have g7 := s7 _ _ g6
    have nag : ak ≠ g := fun e => by rw [e, g6] at nak; exact nomatch nak
    have st7 := s7 _ _ st6
    have s06 := s05.trans s6
    have s07 := s06.trans (SameBut.of_same s7)
    have na0 : H ak = none := by
      cases e : H ak with
      | none => rfl
      | some o => exact absurd ((s06 _ _ nag e).symm.trans nak) (fun z => nomatch z)
    generalize (upd H6 ak (.dK [])) = H7 at s7 ak7 g7 st7 s07
    refine fld_new ["lines", "worths", "cells", "ports", "steps"] val_c (val_var rfl) g7 C.cl C.asks rfl (by decide +kernel) (by decide) fun H8 s8 g8 => ?_
    refine fld_new ["lines", "worths", "cells", "ports", "steps", "asks"] val_c (val_var rfl) g8 C.cl C.many rfl (by decide +kernel) (by decide) fun H9 s9 g9 => ?_
    exact k H9 st ak ((s07.trans s8).trans s9) n0 na0 g9 (s9 _ _ nsg (s8 _ _ nsg st7)) (s9 _ _ nag (s8 _ _ nag ak7))
end
end K5
namespace K5
open PySem PySem.Spec PyProof.Rows L2
/-! ### tuple(d.items()) -/
theorem paired_imp {α β : Type} {F G : α → β → Prop} (h : ∀ x y, F x y → G x y) : ∀ {xs : List α} {ys : List β}, Paired F xs ys → Paired G xs ys
  | _, _, .nil => .nil
  | _, _, .cons r t => .cons (h _ _ r) (paired_imp h t)
section
variable {prog : PySem.Program} {w : World} {A : Around} {E : Value → Shared → Prop} {s : Shared} {r d : Addr} {ep : Nat}
theorem made_tuple_items {kvs : List (Key × Value)} {Z : Value → Shared → Prop} (calm : A.handled = none) (view : s.heap.IsItemsView r d) (at' : s.heap.DictAt (mixKind prog w) d kvs ep) (few : kvs.length ≤ sizeLine)
    (then' : ∀ (h1 : Heap) (tk : Nat) (ts : List Addr), (∀ c u, s.heap.get? c = some u → h1.get? c = some u) → ts.length = kvs.length → PySem.W.KdxG (mixKind prog w) kvs s.heap.objs.size h1 ts →
      Z (.ref h1.objs.size) { s with heap := h1.push { cls := .type "tuple", data := .seq (ts.map Value.ref).toArray }, toks := tk }) :
    codeAny (model prog w) A (.call (.builtin "tuple.__new__") ⟨[.type "tuple", .ref r], []⟩) (wants Z E) s := by
  refine codeAny_of_tree ?_
  show wpAny _ A.in1 (do
    checkBuiltinCall "tuple.__new__" ⟨[.type "tuple", .ref r], []⟩
    again (.builtin "tuple.__new__" ⟨[.type "tuple", .ref r], []⟩)) _ _ s
  have pid := F.plain_tuple_new
  refine wpAny_bind (wpAny_of_eq (F.newCall_tuple_1 _) (wpAny_pure ⟨plainId_quiet pid _, codeAny_builtin F.entry_tuple_new ?_⟩))
  rw [Around.under_plainId pid _]
  have fj := sub_tuple_self
  have fk := init_tuple_lookup
  have fv := madeHere_tuple
  have f4 : s.TypeIs (.ref r) "dict_items" := by
    obtain ⟨ov, h1, h2, _⟩ := view
    exact ⟨ov, h1, h2⟩
  have f5 : A.in1.handled = none := calm
  wp_walk using wpAny_typeOf f4, PySem.W.kdx_collect (A := A.in1) (knd := mixKind prog w) f5 view at' few
  intro h1 tk ts keep hl hG
  show wpAny _ _ (Builtin.Tuple.tupleExact (ts.map Value.ref).toArray >>= fun x => ret x) _ _ _
  rw [Builtin.Tuple.tupleExact]
  refine wpAny_bind (wpAny_newObj_type ?_ (by show (ts.map Value.ref).toArray.size ≤ sizeLine; rw [List.size_toArray, List.length_map, hl]; exact few))
  exact wpAny_pure (then' h1 tk ts keep hl hG)
theorem called_tuple_items {kvs : List (Key × Value)} {Z : Value → Shared → Prop} (calm : A.handled = none) (view : s.heap.IsItemsView r d) (at' : s.heap.DictAt (mixKind prog w) d kvs ep) (few : kvs.length ≤ sizeLine)
    (then' : ∀ (h1 : Heap) (tk : Nat) (ts : List Addr), (∀ c u, s.heap.get? c = some u → h1.get? c = some u) → ts.length = kvs.length → PySem.W.KdxG (mixKind prog w) kvs s.heap.objs.size h1 ts →
      Z (.ref h1.objs.size) { s with heap := h1.push { cls := .type "tuple", data := .seq (ts.map Value.ref).toArray }, toks := tk }) :
    wpAny (model prog w) A (call (.type "tuple") [.ref r]) Z E s := by
  refine callType_codes (Q₁ := fun y s1 => s1.TypeIs y "tuple" ∧ Z y s1) F.called_tuple (F.typeCall_tuple_1 _) F.entry_object_init
    (made_tuple_items (A := A.in1) calm view at' few fun h1 tk ts k1 k2 k3 => ⟨⟨_, Heap.get?_push_size _ rfl, rfl⟩, then' h1 tk ts k1 k2 k3⟩) fun y s1 z => ?_
  exact ⟨z.1, F.args_object_init_2 y _, object_init_meets F.called_tuple.init.lookup F.called_tuple.made (by decide) prog w A.in1 _ s1 ⟨z.1, rfl, z.2⟩⟩
end
/-- tuple(d.items()) -/
def tTupItems (te : TE) : TE := fun σ H Q => te σ H fun x H1 => ∃ (d : Addr) (kvs : List (Key × V)), x = .ref d ∧ H1 d = some (.dK kvs) ∧
  ∀ (H' : Hp) (p : Addr) (ts : List Addr), Same H1 H' → H1 p = none → H' p = some (.tup (ts.map V.ref)) → Paired (fun (t : Addr) (q : Key × V) => H' t = some (.tup [kV q.1, q.2])) ts kvs → Q (.ref p) H'
section
variable {X : Cx} {e : Expr} {te : TE} {p ap0 cp0 pos : Pos}
theorem pairs_laid {pins : List (Addr × Obj)} {σ : L2.St} {H : Hp} {s : Shared} {h1 : Heap} {tk : Nat} {kvs : List (Key × V)} {vs : List (Key × Value)} {ts : List Addr} (I : Inv X pins σ H s) (kv : KV kvs vs)
    (keep : ∀ c u, s.heap.get? c = some u → h1.get? c = some u) (hl : ts.length = vs.length) (hG : PySem.W.KdxG (mixKind X.prog X.w) vs s.heap.objs.size h1 ts) :
    ∃ H' : Hp, Same H H' ∧ Paired (fun (t : Addr) (q : Key × V) => H' t = some (.tup [kV q.1, q.2])) ts kvs ∧ Inv X pins σ H' { s with heap := h1, toks := tk } := by
  have lenEq : kvs.length = vs.length := Paired.length kv
  have nd : ts.Nodup := List.Pairwise.imp (fun {a b} (z : a < b) => Nat.ne_of_lt z) hG.rise
  have fresh : ∀ t ∈ ts, H t = none := fun t z => I.hok.fresh (Nat.le_of_lt (hG.above t z))
  have atP := LiI.putT_at ts kvs H (by omega) nd
  have off : ∀ c, c ∉ ts → LiI.putT H ts kvs c = H c := fun c z => LiI.putT_off ts kvs H z
  have low : ∀ c u, s.heap.get? c = some u → c ∉ ts := fun c u e z => absurd (Heap.lt_size e) (Nat.not_lt.mpr (Nat.le_of_lt (hG.above c z)))
  have kp : ∀ c u, H c = some u → (LiI.putT H ts kvs) c = some u := fun c u e => by
    rw [off c fun z => by rw [fresh c z] at e; cases e]
    exact e
  refine ⟨LiI.putT H ts kvs, kp, atP, ?_⟩
  refine I.call' (ch := []) rfl ⟨fun c o q _ _ _ => keep c o q, fun c o q _ _ _ => ⟨o.slots, keep c o q⟩, fun c o q n _ => ?_, fun c o q _ => ⟨o, keep c o q⟩, fun c xs q => kp c _ q, fun c o u q => kp c _ q, fun c ps q => ⟨#[], by rw [kp c _ q]; simp⟩⟩ (fun c u q => ?_) I.bare fun c z => by simp at z
  · rw [off c (low c o q)]
    exact n
  · by_cases hc : c ∈ ts
    · obtain ⟨j, pk, e1, e2, e3⟩ := LiI.paired_ix atP hc
      rw [e3] at q
      cases q
      obtain ⟨key, k, x, fj, fk, fv⟩ := hG.pairs j c e1
      obtain ⟨qv, g1, g2, gv⟩ := LiI.paired_get kv e2
      rw [fj] at g1
      cases g1
      have rKey : RelV (kV pk.1) key := by
        rw [g2]
        exact relV_key (show keyIs k key = true from fk)
      exact ⟨by show 2 ≤ sizeLine; decide, [key, x], .cons rKey (.cons gv .nil), ⟨_, fv, rfl, _, rfl⟩⟩
    · rw [off c hc] at q
      exact (I.hok c u q).stay (fun d v _ y => keep d v y) (fun d y => kp d _ y) fun d xs y => kp d _ y
theorem pe_tupItems (hc : X.calm = true) (he : PE X e te) (hg : Gl X "tuple") (hm : X.mg "tuple" = none) (base1 : attributeBase e "items" X.env (eval e X.env) = eval e X.env := by rfl) (line1 : (ap0.endLine == cp0.line) = true := by rfl)
    (star1 : starEach [.Call (.Attribute e "items" ap0) [] [] cp0] X.env = (false, eval (.Call (.Attribute e "items" ap0) [] [] cp0) X.env) :: starEach [] X.env := by rfl) :
    PE X (.Call (.Name "tuple" p) [.Call (.Attribute e "items" ap0) [] [] cp0] [] pos) (tTupItems te) := by
  refine ⟨fun pins s σ H Q I hh0 => ?_⟩
  refine wpAny_Call_Name_kw (ld_blt I hg hm boot_tuple ?_)
  refine PyProof.Rows.callWith_type1 ?_ star1 rfl
  rw [star1]
  show wpAny _ _ (spliced ((false, eval (.Call (.Attribute e "items" ap0) [] [] cp0) X.env) :: backTo pos (starEach [] X.env))) _ _ s
  refine Calls.spliced_cons ?_
  refine wpAny_Call_method (T := "dict") (id := "dict.items") base1 rfl line1 F.plainAttrs_dict F.slot_dict_items F.type_dict_items (thn (he.run pins s σ H _ I hh0) fun u s1 ⟨x, H1, IA, rx, d, kvs, ex, hd, q⟩ => ?_)
  subst ex
  obtain rfl : u = Value.ref d := rx
  obtain ⟨hz, lo0, vs, kv, dOf1⟩ := IA.hok d _ hd
  obtain ⟨ep, dAt1⟩ := dOf1.dictAt
  have lenEq : kvs.length = vs.length := Paired.length kv
  have IB : Inv X pins σ H1 { s1 with heap := s1.heap.push { cls := .type "dict_items", data := .fields #[.ref d] } } := IA.kept (t' := s1.toks) fun c ob q => Heap.get?_push_of_some _ q
  refine ⟨dOf1.typeIs, dOf1.mapOf.noDict, ?_⟩
  show wpAny _ _ (callWith cp0 (.builtin "dict.items") [.ref d] [] []) _ X.xe s1
  refine method_meetsIn F.slot_dict_items F.entry_dict_items rfl (PySem.evalArgs_none ⟨rfl, dOf1.typeIs, F.args_dict_items_1 _, _, meets_dict_items (mixKind X.prog X.w) d lo0, ⟨vs, dOf1⟩, ?_⟩)
  refine Calls.spliced_nil ?_
  refine called_tuple_items (kvs := vs) (ep := ep) (IA.ok.hd hc) ⟨_, Heap.get?_push_size _ rfl, rfl, rfl⟩ (dAt1.push _) (by omega) fun h1 tk ts keep hl hG => ?_
  obtain ⟨H', k1, k2, J⟩ := pairs_laid (tk := tk) IB kv keep hl hG
  have J2 : Inv X pins σ (upd H' h1.objs.size (.tup (ts.map V.ref))) { s1 with heap := h1.push { cls := .type "tuple", data := .seq (ts.map Value.ref).toArray }, toks := tk } :=
    J.laid (t' := tk) (fun c o e => Heap.get?_push_of_some _ e) (Nat.le_refl _) (show ObjOk X.prog X.w _ _ _ (.tup (ts.map V.ref)) from ⟨by rw [List.length_map]; omega, ts.map Value.ref, LiI.vals_refs ts, IsTup.new _ _⟩)
  have nf : H' h1.objs.size = none := J.hok.fresh (Nat.le_refl _)
  have s3 := same_upd (o := .tup (ts.map V.ref)) nf
  refine ⟨.ref h1.objs.size, _, J2, rfl, q _ _ ts (fun c u e => s3 _ _ (k1 c u e)) ?_ upd_same ?_⟩
  · cases e : H1 h1.objs.size with
    | none => rfl
    | some o => exact absurd ((k1 _ _ e).symm.trans nf) (fun z => nomatch z)
  · exact paired_imp (fun t q e => s3 _ _ e) k2
end
end K5
namespace K5
open PySem PySem.Spec PyProof.Rows L2
/-! ### the heads of a text -/
def RK {β : Type} (r : Except Nat (Nat × β)) (q : Nat → β → Prop) (e : Nat → Prop) : Prop := match r with
  | .ok (a, b) => q a b
  | .error n => e n
theorem RK.mono {β : Type} {r : Except Nat (Nat × β)} {q q' : Nat → β → Prop} {e e' : Nat → Prop} (h : RK r q e) (hq : ∀ a b, q a b → q' a b) (he : ∀ n, e n → e' n) : RK r q' e' := by
  match r, h with
  | .ok (a, b), h => exact hq a b h
  | .error n, h => exact he n h
def portsR (rows : List Str) : Nat → Nat → List Str → Except Nat (Nat × List Str)
  | 0, n, _ => .error n
  | f + 1, n, ps =>
    if decide ((wordsAt rows n 0).take 1 = (["port"] : List Str)) = true then
      if (decide ((wordsAt rows n 0).length = 2) && decide (ps.length < 2)) = true then
        if (isName ((wordsAt rows n 0).getD 1 "") && !decide ((wordsAt rows n 0).getD 1 "" ∈ ps)) = true then portsR rows f (n + 1) (ps ++ [(wordsAt rows n 0).getD 1 ""])
        else .error n
      else .error n
    else .ok (n, ps)
/-- what the readers of heads ask -/
structure En4 (P : Program) (w : World) (K : PySem.W.Frag) (mg : Str → Option Value) (base : Heap) (CL CT : Addr) (fBegins fWords fStep fNeed fName fDoor fNum : Addr) (dBegins dWords dStep dNeed dName dDoor dNum : FuncData) : Prop where
  B : Bt mg
  L : ClL K CL
  Mb : Mf K CL "begins" "Lines.begins" s_Lines_begins fBegins dBegins ["self", "word"]
  Gb : FnOk P w K mg base CX0 2 fBegins dBegins ["self", "word"] (spBegins CL)
  Mw : Mf K CL "words" "Lines.words" s_Lines_words fWords dWords ["self", "depth"]
  Gw : FnOk P w K mg base CX0 1 fWords dWords ["self", "depth"] (spWords CL)
  Ms : Mf K CL "step" "Lines.step" s_Lines_step fStep dStep ["self"]
  Gs : FnOk P w K mg base CX0 1 fStep dStep ["self"] (spStep CL)
  Mn : Mf K CL "need" "Lines.need" s_Lines_need fNeed dNeed ["self", "right"]
  Gn : FnOk P w K mg base (L2.CX P w) 4 fNeed dNeed ["self", "right"] (spNeed K CL CT)
  Da : Df K mg "is_name" s_is_name fName dName ["value"]
  Ga : FnOk P w K mg base CX0 1 fName dName ["value"] spIsName
  Dd : Df K mg "is_door" s_is_door fDoor dDoor ["value"]
  Gd : FnOk P w K mg base CX0 2 fDoor dDoor ["value"] spIsDoor
  Du : Df K mg "number" s_number fNum dNum ["word", "many"]
  Gu : FnOk P w K mg base CX0 1 fNum dNum ["word", "many"] spNumber
  cP : ∃ t, mg "MOST_PORTS" = some (.int 2 t)
  cC : ∃ t, mg "MOST_CELLS" = some (.int 3 t)
  cD : ∃ t, mg "MOST_DOORS" = some (.int 3 t)
  cB : ∃ b, mg "BARRED_CELLS" = some (.ref b) ∧ ∀ H : Hp, SqT K H b ((["it", "got", "lost", "busy"] : List Str).map V.str)
abbrev s_read_cells : Stmt := topS 23
theorem sc_read_cells : FnScope ["lines", "worths", "cells", "words"] ["lines", "worths"] (defScope s_read_cells) := ⟨rfl, rfl, rfl, by decide +kernel, rfl, by decide +kernel, by decide +kernel⟩
abbrev s_read_ports : Stmt := topS 24
theorem sc_read_ports : FnScope ["lines", "ports", "words"] ["lines"] (defScope s_read_ports) := ⟨rfl, rfl, rfl, by decide +kernel, rfl, by decide +kernel, by decide +kernel⟩
abbrev s_read_doors : Stmt := topS 25
theorem sc_read_doors : FnScope ["lines", "program", "starts", "words"] ["lines", "program"] (defScope s_read_doors) := ⟨rfl, rfl, rfl, by decide +kernel, rfl, by decide +kernel, by decide +kernel⟩
def spPorts (CL CT : Addr) : Sp := fun vs H Q E => ∃ (H0 : Hp) (l dl r : Addr) (rows : List Str) (n : Nat), vs = [.ref l] ∧ Same H0 H ∧ H0 l = none ∧ LinesAt CL H l dl r rows n ∧ Sz rows ∧
  RK (portsR rows 3 n []) (fun n' ps => ∀ (H' : Hp) (p : Addr), Same H0 H' → LinesAt CL H' l dl r rows n' → H0 p = none → H' p = some (.tup (ps.map V.str)) → ps.length ≤ 2 → Q (.ref p) H') fun e => ErrK CT (.int e) H0 E
/-- before each turn -/
structure PW1 (CL CT : Addr) (H0 : Hp) (l dl r : Addr) (rows : List Str) (Q : Nat → List Str → Prop) (E : XK) (f : Nat) (σ : L2.St) (H : Hp) (n : Nat) (ps : List Str) (pl : Addr) : Prop where
  f3 : f + ps.length = 3
  le : ps.length ≤ 2
  st : ∃ y, σ = [some (.ref l), some (.ref pl), y]
  s0 : Same H0 H
  p0 : H0 pl = none
  rp : r ≠ pl
  li : LinesAt CL H l dl r rows n
  hp : H pl = some (.lst (ps.map V.str))
  k : RK (portsR rows f n ps) Q fun e => ErrK CT (.int e) H0 E
theorem inV_notS {K : PySem.W.Frag} {ta tb : TE} {σ : L2.St} {H : Hp} {p : Addr} {z : Str} {l : List Str} (ha : Val ta σ H (.str z)) (hb : Val tb σ H (.ref p)) (hS : SqL K H p (l.map V.str) ∨ SqT K H p (l.map V.str)) : Val (tOp (rIn K true) ta tb) σ H (.bl (!decide (z ∈ l))) :=
  val_op ha hb fun Q q => ⟨p, _, rfl, hS, rfl, flat_strs l, by
    show Q (.bl (!inV (.str z) (l.map V.str))) H
    rw [inV_strs]
    exact q⟩
section
variable {P : Program} {w : World} {K : PySem.W.Frag} {mg : Str → Option Value} {base : Heap} {CL CT : Addr} {fBegins fWords fStep fNeed fName fDoor fNum : Addr} {dBegins dWords dStep dNeed dName dDoor dNum : FuncData}
theorem ok_read_ports {f : Addr} {fd : FuncData} (N : En4 P w K mg base CL CT fBegins fWords fStep fNeed fName fDoor fNum dBegins dWords dStep dNeed dName dDoor dNum) (D : Df K mg "read_ports" s_read_ports f fd ["lines"]) :
    FnOk P w K mg base (L2.CX P w) 5 f fd ["lines"] (spPorts CL CT) := by
  obtain ⟨tP, gP⟩ := N.cP
  refine D.F.okX sc_read_ports (fun vs H Q E h => ?_) (fun cdv A0 outer s H vs Q E hr h => ?_)
  · obtain ⟨H0, l, dl, r, rows, n, rfl, _⟩ := h
    rfl
  · obtain ⟨H0, l, dl, r, rows, n, rfl, s0, l0, hl, sz, k⟩ := h
    have S := sc_read_ports
    refine ⟨_, (pss_cons (ps_set (i := 1) S.nd rfl (.inl rfl) (pe_lst pa_nil))
      (pss_cons (ps_while (passes_of rfl) (pt_val (pe_meth (pv 0) N.L.cl N.Mb.m N.Gb (hr.mono (by decide)) N.Mb.b .nil pass0 (pa_cons pe_str pa_nil)))
        (pss_cons (ps_set (i := 2) S.nd rfl (.inl rfl) (pe_meth (pv 0) N.L.cl N.Mw.m N.Gw (hr.mono (by decide)) N.Mw.b .nil pass0 (pa_cons pe_int pa_nil)))
        (pss_cons (ps_expr (pe_meth (pv 0) N.L.cl N.Mn.m N.Gn (hr.mono (by decide)) N.Mn.b .nil (pxp rfl rfl rfl rfl) (pa_cons (pe_and (pe_cmpR op_eq (pe_callB call_len_seq (by rfl) N.B.m_len PySem.boot_len (pa_cons (pv 2) pa_nil)) pe_int (nomark _)) (pe_one (pe_cmpR op_lt (pe_callB call_len_seq (by rfl) N.B.m_len PySem.boot_len (pa_cons (pv 1) pa_nil)) (pe_glob (v := .int 2) (by rfl) gP ⟨_, rfl⟩) (nomark _)))) pa_nil)))
        (pss_cons (ps_expr (pe_meth (pv 0) N.L.cl N.Mn.m N.Gn (hr.mono (by decide)) N.Mn.b .nil (pxp rfl rfl rfl rfl) (pa_cons (pe_and (pe_call N.Ga (hr.mono (by decide)) (by rfl) N.Da.g N.Da.F.kp N.Da.b .nil pass0 (pa_cons (pe_ix ix_list (pv 2) pe_int (fun _ _ => rfl)) pa_nil)) (pe_one (pe_cmpR op_notIn_seq (pe_ix ix_list (pv 2) pe_int (fun _ _ => rfl)) (pv 1) (by rfl)))) pa_nil)))
        (pss_cons (ps_expr (pe_bm PySem.F.plainAttrs_list PySem.F.slot_list_append PySem.F.type_list_append mt_append (pv 1) (pa_cons (pe_ix ix_list (pv 2) pe_int (fun _ _ => rfl)) pa_nil)))
        (pss_one (ps_expr (pe_meth0 (pv 0) N.L.cl N.Ms.m N.Gs (hr.mono (by decide)) N.Ms.b .nil pass0))))))))
      (pss_one (ps_ret (pe_tupleOf (by rfl) N.B.m_tuple (pv 1)))))), ?_⟩
    dsimp only [tNext, tSeq, tAsg, tRet]
    refine ⟨by show 0 ≤ sizeLine; decide, fun pl npl => ?_⟩
    dsimp only [gName]
    have s1 := same_upd (o := .lst []) npl
    refine ⟨fun f σ H => ∃ n ps pl, PW1 CL CT H0 l dl r rows (fun n' ps => ∀ (H' : Hp) (p : Addr), Same H0 H' → LinesAt CL H' l dl r rows n' → H0 p = none → H' p = some (.tup (ps.map V.str)) → ps.length ≤ 2 → Q (.ref p) H') E f σ H n ps pl, ⟨3, n, [], pl, rfl, Nat.zero_le _, ⟨_, rfl⟩, s0.trans s1, s0.free npl, ne_of_none hl.r npl, hl.mono s1, upd_same, k⟩, fun f σ H h => ?_⟩
    obtain ⟨n, ps, pl, f3, le, ⟨y, rfl⟩, s0, p0, rp, li, hp, k⟩ := h
    refine meth_run (val_var rfl) li.o (lf_no (by decide +kernel) (by decide +kernel)) ?_
    refine ⟨l, dl, r, rows, n, "port", rfl, li, sz, by decide +kernel, fun H1 s1 => ⟨_, rfl, ?_⟩⟩
    have li := li.mono s1
    have hp := s1 _ _ hp
    have s0 := s0.trans s1
    clear s1
    cases f with
    | zero => omega
    | succ f =>
      unfold portsR at k
      cases c : decide ((wordsAt rows n 0).take 1 = (["port"] : List Str)) with
      | false =>
        rw [c, if_neg Bool.false_ne_true] at k
        refine iteF ?_
        refine ⟨_, rfl, .inl ⟨pl, _, rfl, SqL.of hp, fun q nq => ?_⟩⟩
        have s2 := same_upd (o := .tup (ps.map V.str)) nq
        exact k _ q (s0.trans s2) (li.mono s2) (s0.free nq) upd_same le
      | true =>
        rw [c, if_pos rfl] at k
        refine iteT ⟨fun σ' H' => ∃ n ps pl, PW1 CL CT H0 l dl r rows (fun n' ps => ∀ (H' : Hp) (p : Addr), Same H0 H' → LinesAt CL H' l dl r rows n' → H0 p = none → H' p = some (.tup (ps.map V.str)) → ps.length ≤ 2 → Q (.ref p) H') E f σ' H' n ps pl, fun σ' H' h => ⟨f, Nat.lt_succ_self f, h⟩, ?_⟩
        have hwn : wordsAt rows n 0 ≠ [] := fun e => by
          rw [e] at c
          exact absurd (of_decide_eq_true c) (fun z => nomatch z)
        have hn := wordsAt_lt hwn
        dsimp only [tDrop]
        refine meth_run (val_var rfl) li.o (lf_no (by decide +kernel) (by decide +kernel)) ?_
        refine ⟨l, dl, r, rows, n, 0, rfl, li, sz, by decide, fun H2 wp s2 nw hw => ?_⟩
        have li := li.mono s2
        have hp := s2 _ _ hp
        have s0 := s0.trans s2
        have wz := words_ok (n := n) (dp := 0) sz
        generalize wordsAt rows n 0 = ws at k hw wz
        dsimp only [gName]
        refine meth_run (val_var rfl) li.o (lf_no (by decide +kernel) (by decide +kernel)) ?_
        have v1 : Val (tOp rEq (tCB (rLenSq K) (tCons (tVar 2) tNil)) (tC (.int 2))) [some (.ref l), some (.ref pl), some (.ref wp)] H2 (.bl (decide (ws.length = 2))) := fun Q q => by
          refine (val_op (z := .bl (decide (V.int ((ws.map V.str).length : Nat) = V.int 2))) (val_lenL (val_var rfl) (SqL.of hw)) val_c fun Q q => ⟨rfl, q⟩) _ ?_
          rw [show (2 : Int) = ((2 : Nat) : Int) from rfl, dec_len, List.length_map]
          exact q
        have v2 : Val (tOp (rI0 fun i j => .bl (decide (i < j))) (tCB (rLenSq K) (tCons (tVar 1) tNil)) (tC (.int 2))) [some (.ref l), some (.ref pl), some (.ref wp)] H2 (.bl (decide (ps.length < 2))) := fun Q q => by
          refine (val_i0b (val_lenL (val_var rfl) (SqL.of hp)) val_c) _ ?_
          rw [show decide ((((ps.map V.str).length : Nat) : Int) < 2) = decide (ps.length < 2) from decide_eq_decide.mpr ⟨fun e => by rw [List.length_map] at e; omega, fun e => by rw [List.length_map]; omega⟩]
          exact q
        refine (val_andV v1 fun _ => v2) _ ?_
        refine ⟨l, dl, r, rows, n, _, _, rfl, li, rfl, fun e => ?_, fun e => ErrK.mono ?_ s0⟩
        · rw [if_pos e] at k
          rw [Bool.and_eq_true] at e
          obtain ⟨a, z, rfl⟩ : ∃ a z, ws = [a, z] := by
            match ws, of_decide_eq_true e.1 with
            | [a, z], _ => exact ⟨a, z, rfl⟩
          have e2 := of_decide_eq_true e.2
          have gz : ([a, z] : List Str).getD 1 "" = z := rfl
          rw [gz] at k
          have hz := (wz z (by simp)).2
          refine meth_run (val_var rfl) li.o (lf_no (by decide +kernel) (by decide +kernel)) ?_
          have vz : Val (tOp (rIxL K) (tVar 2) (tC (.int 1))) [some (.ref l), some (.ref pl), some (.ref wp)] H2 (.str z) := val_ixL (val_var rfl) val_c (SqL.of hw) (atI_nat (j := 1) rfl)
          refine (val_andV (val_call (va_cons vz va_nil) fun Q q => ⟨z, rfl, by omega, q⟩) fun _ => inV_notS vz (val_var rfl) (.inl (SqL.of hp))) _ ?_
          refine ⟨l, dl, r, rows, n, _, _, rfl, li, rfl, fun e => ?_, fun e => ErrK.mono ?_ s0⟩
          · rw [if_pos e] at k
            refine bm_run (x := .ref pl) (val_var rfl) (.inl ⟨rfl, _, SqL.of hp⟩) ?_
            refine vz _ ?_
            refine ⟨pl, _, _, rfl, rfl, hp, by rw [List.length_map]; exact small1000 (by omega), ?_⟩
            have li3 : LinesAt CL (upd H2 pl (.lst (ps.map V.str ++ [.str z]))) l dl r rows n := ⟨at_but li.o (by rw [hp]; exact fun e => nomatch e), by rw [upd_ne rp]; exact li.r, li.le⟩
            have s3 : Same H0 (upd H2 pl (.lst (ps.map V.str ++ [.str z]))) := fun c o e => by
              rw [upd_ne (ne_of_none e p0)]
              exact s0 c o e
            have hp3 : (upd H2 pl (.lst (ps.map V.str ++ [.str z]))) pl = some (.lst ((ps ++ [z]).map V.str)) := by
              rw [upd_same, List.map_append]
              rfl
            generalize (upd H2 pl (.lst (ps.map V.str ++ [.str z]))) = H3 at li3 s3 hp3
            refine meth0_run (val_var rfl) li3.o (lf_no (by decide +kernel) (by decide +kernel)) ?_
            refine ⟨l, dl, r, rows, n, rfl, li3, hn, fun H4 sb li4 => ?_⟩
            refine ⟨n + 1, ps ++ [z], pl, ?_, ?_, ⟨_, rfl⟩, fun c o e => sb c o (ne_of_none e l0) (s3 c o e), p0, rp, li4, sb _ _ (ne_of hp3 li3.o (fun e => nomatch e)) hp3, k⟩
            · rw [List.length_append]
              show f + (ps.length + 1) = 3
              omega
            · rw [List.length_append]
              show ps.length + 1 ≤ 2
              omega
          · rw [e, if_neg Bool.false_ne_true] at k
            exact k
        · rw [e, if_neg Bool.false_ne_true] at k
          exact k
end
end K5
namespace K5
open PySem PySem.Spec PyProof.Rows L2
/-! ### dicts by texts -/
def rLenD : List V → Hp → VK → Prop := fun xs H Q => ∃ (d : Addr) (kvs : List (Key × V)), xs = [.ref d] ∧ H d = some (.dK kvs) ∧ Q (.int kvs.length) H
theorem call_lenD {X : Cx} : CallR X (.builtin "len") rLenD := by
  intro pins s σ H xs us Q I r h
  obtain ⟨d, kvs, rfl, hd, q⟩ := h
  obtain ⟨u, rfl, rx⟩ := r.one
  cases rx
  exact d_len I (.inl hd) fun t s' I' => ⟨.int kvs.length, H, I', ⟨t, rfl⟩, q⟩
theorem val_lenD {ta : TE} {σ : L2.St} {H : Hp} {d : Addr} {kvs : List (Key × V)} (h : Val ta σ H (.ref d)) (hd : H d = some (.dK kvs)) : Val (tCB rLenD (tCons ta tNil)) σ H (.int kvs.length) := fun Q q => h _ ⟨d, kvs, rfl, hd, q⟩
def dOf {β : Type} (g : β → V) (cs : List (Str × β)) : List (Key × V) := cs.map fun c => (.inr c.1, g c.2)
theorem dOf_none {β : Type} {g : β → V} {z : Str} : ∀ {cs : List (Str × β)}, z ∉ cs.map (·.1) → valV (dOf g cs) (.inr z) = none
  | [], _ => rfl
  | (y, i) :: r, h => by
    have h1 : ¬ (Sum.inr y : Key) = .inr z := fun e => by
      injection e with e
      exact h (by simp [e])
    exact (valV_neg (p := ((Sum.inr y : Key), g i)) (r := dOf g r) h1).trans (dOf_none (cs := r) fun e => h (List.mem_cons_of_mem _ e))
theorem dOf_some {β : Type} {g : β → V} {z : Str} : ∀ {cs : List (Str × β)}, z ∈ cs.map (·.1) → (valV (dOf g cs) (.inr z)).isSome = true
  | (y, i) :: r, h => by
    by_cases e : y = z
    · rw [show valV (dOf g ((y, i) :: r)) (.inr z) = some (g i) from valV_pos (p := ((Sum.inr y : Key), g i)) (r := dOf g r) (by rw [e])]
      rfl
    · have h1 : ¬ (Sum.inr y : Key) = .inr z := fun q => by
        injection q with q
        exact e q
      rw [show valV (dOf g ((y, i) :: r)) (.inr z) = valV (dOf g r) (.inr z) from valV_neg (p := ((Sum.inr y : Key), g i)) (r := dOf g r) h1]
      refine dOf_some ?_
      rcases List.mem_cons.mp h with q | q
      · exact absurd q.symm e
      · exact q
theorem dOf_has {β : Type} {g : β → V} {z : Str} {cs : List (Str × β)} : (valV (dOf g cs) (.inr z)).isSome = decide (z ∈ cs.map (·.1)) := by
  by_cases h : z ∈ cs.map (·.1)
  · rw [dOf_some h, decide_eq_true h]
  · rw [dOf_none h, decide_eq_false h]
    rfl
theorem dOf_put {β : Type} {g : β → V} {z : Str} {i : β} {cs : List (Str × β)} (h : z ∉ cs.map (·.1)) : putK (dOf g cs) (.inr z) (g i) = dOf g (cs ++ [(z, i)]) := by
  unfold putK
  rw [valV_any, dOf_none h]
  show dOf g cs ++ [(.inr z, g i)] = _
  unfold dOf
  rw [List.map_append]
  rfl
def cellsR (rows : List Str) (wn : Int) : Nat → Nat → List (Str × Int) → Except Nat (Nat × List (Str × Int))
  | 0, n, _ => .error n
  | f + 1, n, cs =>
    if decide ((wordsAt rows n 0).take 1 = (["cell"] : List Str)) = true then
      if (decide ((wordsAt rows n 0).length = 3) && decide (cs.length < 3)) = true then
        if (isName ((wordsAt rows n 0).getD 1 "") && (!decide ((wordsAt rows n 0).getD 1 "" ∈ (["it", "got", "lost", "busy"] : List Str)) && !decide ((wordsAt rows n 0).getD 1 "" ∈ cs.map (·.1)))) = true then
          if decide (0 ≤ numOf ((wordsAt rows n 0).getD 2 "") wn) = true then cellsR rows wn f (n + 1) (cs ++ [((wordsAt rows n 0).getD 1 "", numOf ((wordsAt rows n 0).getD 2 "") wn)])
          else .error n
        else .error n
      else .error n
    else .ok (n, cs)
def spCells (CL CT : Addr) : Sp := fun vs H Q E => ∃ (H0 : Hp) (l dl r : Addr) (rows : List Str) (n : Nat) (wn : Int), vs = [.ref l, .int wn] ∧ Same H0 H ∧ H0 l = none ∧ LinesAt CL H l dl r rows n ∧ Sz rows ∧
  RK (cellsR rows wn 4 n []) (fun n' cs => ∀ (H' : Hp) (p : Addr) (ts : List Addr), Same H0 H' → LinesAt CL H' l dl r rows n' → H0 p = none → H' p = some (.tup (ts.map V.ref)) → Paired (fun (t : Addr) (q : Str × Int) => H' t = some (.tup [.str q.1, .int q.2])) ts cs → cs.length ≤ 3 → Q (.ref p) H') fun e => ErrK CT (.int e) H0 E
structure CW (CL CT : Addr) (H0 : Hp) (l dl r : Addr) (rows : List Str) (wn : Int) (Q : Nat → List (Str × Int) → Prop) (E : XK) (f : Nat) (σ : L2.St) (H : Hp) (n : Nat) (cs : List (Str × Int)) (pl : Addr) : Prop where
  f4 : f + cs.length = 4
  le : cs.length ≤ 3
  st : ∃ y, σ = [some (.ref l), some (.int wn), some (.ref pl), y]
  s0 : Same H0 H
  p0 : H0 pl = none
  li : LinesAt CL H l dl r rows n
  hp : H pl = some (.dK (dOf V.int cs))
  k : RK (cellsR rows wn f n cs) Q fun e => ErrK CT (.int e) H0 E
theorem paired_dOf {H : Hp} : ∀ {ts : List Addr} {cs : List (Str × Int)}, Paired (fun (t : Addr) (q : Key × V) => H t = some (.tup [kV q.1, q.2])) ts (dOf V.int cs) → Paired (fun (t : Addr) (q : Str × Int) => H t = some (.tup [.str q.1, .int q.2])) ts cs
  | _, [], .nil => .nil
  | _, c :: r, .cons h t => .cons h (paired_dOf t)
section
variable {P : Program} {w : World} {K : PySem.W.Frag} {mg : Str → Option Value} {base : Heap} {CL CT : Addr} {fBegins fWords fStep fNeed fName fDoor fNum : Addr} {dBegins dWords dStep dNeed dName dDoor dNum : FuncData}
theorem ok_read_cells {f : Addr} {fd : FuncData} (N : En4 P w K mg base CL CT fBegins fWords fStep fNeed fName fDoor fNum dBegins dWords dStep dNeed dName dDoor dNum) (D : Df K mg "read_cells" s_read_cells f fd ["lines", "worths"]) :
    FnOk P w K mg base (L2.CX P w) 5 f fd ["lines", "worths"] (spCells CL CT) := by
  obtain ⟨tC', gC⟩ := N.cC
  obtain ⟨bb, gB, hB⟩ := N.cB
  refine D.F.okX sc_read_cells (fun vs H Q E h => ?_) (fun cdv A0 outer s H vs Q E hr h => ?_)
  · obtain ⟨H0, l, dl, r, rows, n, wn, rfl, _⟩ := h
    rfl
  · obtain ⟨H0, l, dl, r, rows, n, wn, rfl, s0, l0, hl, sz, k⟩ := h
    have S := sc_read_cells
    refine ⟨_, (pss_cons (ps_set (i := 2) S.nd rfl (.inl rfl) pe_dnewK)
      (pss_cons (ps_while (passes_of rfl) (pt_val (pe_meth (pv 0) N.L.cl N.Mb.m N.Gb (hr.mono (by decide)) N.Mb.b .nil pass0 (pa_cons pe_str pa_nil)))
        (pss_cons (ps_set (i := 3) S.nd rfl (.inl rfl) (pe_meth (pv 0) N.L.cl N.Mw.m N.Gw (hr.mono (by decide)) N.Mw.b .nil pass0 (pa_cons pe_int pa_nil)))
        (pss_cons (ps_expr (pe_meth (pv 0) N.L.cl N.Mn.m N.Gn (hr.mono (by decide)) N.Mn.b .nil (pxp rfl rfl rfl rfl) (pa_cons (pe_and (pe_cmpR op_eq (pe_callB call_len_seq (by rfl) N.B.m_len PySem.boot_len (pa_cons (pv 3) pa_nil)) pe_int (nomark _)) (pe_one (pe_cmpR op_lt (pe_callB call_lenD (by rfl) N.B.m_len PySem.boot_len (pa_cons (pv 2) pa_nil)) (pe_glob (v := .int 3) (by rfl) gC ⟨_, rfl⟩) (nomark _)))) pa_nil)))
        (pss_cons (ps_expr (pe_meth (pv 0) N.L.cl N.Mn.m N.Gn (hr.mono (by decide)) N.Mn.b .nil (pxp rfl rfl rfl rfl) (pa_cons (pe_and (pe_call N.Ga (hr.mono (by decide)) (by rfl) N.Da.g N.Da.F.kp N.Da.b .nil pass0 (pa_cons (pe_ix ix_list (pv 3) pe_int (fun _ _ => rfl)) pa_nil)) (pe_and (pe_cmpR op_notIn_seq (pe_ix ix_list (pv 3) pe_int (fun _ _ => rfl)) (pe_glob (v := .ref bb) (by rfl) gB rfl) (by rfl)) (pe_one (pe_cmp (pc_dnotin (hu_of hr) (pe_ix ix_list (pv 3) pe_int (fun _ _ => rfl)) (pv 2)) rfl)))) pa_nil)))
        (pss_cons (ps_dput (hu_of hr) (pv 2) (pe_ix ix_list (pv 3) pe_int (fun _ _ => rfl)) (pe_call N.Gu (hr.mono (by decide)) (by rfl) N.Du.g N.Du.F.kp N.Du.b .nil pass0 (pa_cons (pe_ix ix_list (pv 3) pe_int (fun _ _ => rfl)) (pa_cons (pv 1) pa_nil))) rfl)
        (pss_cons (ps_expr (pe_meth (pv 0) N.L.cl N.Mn.m N.Gn (hr.mono (by decide)) N.Mn.b .nil (pxp rfl rfl rfl rfl) (pa_cons (pe_cmpR op_ge (pe_dget (hu_of hr) (pv 2) (pe_ix ix_list (pv 3) pe_int (fun _ _ => rfl)) (fun _ _ => rfl)) pe_int (nomark _)) pa_nil)))
        (pss_one (ps_expr (pe_meth0 (pv 0) N.L.cl N.Ms.m N.Gs (hr.mono (by decide)) N.Ms.b .nil pass0)))))))))
      (pss_one (ps_ret (pe_tupItems rfl (pv 2) (by rfl) N.B.m_tuple))))), ?_⟩
    dsimp only [tNext, tSeq, tAsg, tRet]
    refine fun pl npl => ?_
    dsimp only [gName]
    have s1 := same_upd (o := .dK []) npl
    refine ⟨fun f σ H => ∃ n cs pl, CW CL CT H0 l dl r rows wn (fun n' cs => ∀ (H' : Hp) (p : Addr) (ts : List Addr), Same H0 H' → LinesAt CL H' l dl r rows n' → H0 p = none → H' p = some (.tup (ts.map V.ref)) → Paired (fun (t : Addr) (q : Str × Int) => H' t = some (.tup [.str q.1, .int q.2])) ts cs → cs.length ≤ 3 → Q (.ref p) H') E f σ H n cs pl, ⟨4, n, [], pl, rfl, Nat.zero_le _, ⟨_, rfl⟩, s0.trans s1, s0.free npl, hl.mono s1, upd_same, k⟩, fun f σ H h => ?_⟩
    obtain ⟨n, cs, pl, f4, le, ⟨y, rfl⟩, s0, p0, li, hp, k⟩ := h
    refine meth_run (val_var rfl) li.o (lf_no (by decide +kernel) (by decide +kernel)) ?_
    refine ⟨l, dl, r, rows, n, "cell", rfl, li, sz, by decide +kernel, fun H1 s1 => ⟨_, rfl, ?_⟩⟩
    have li := li.mono s1
    have hp := s1 _ _ hp
    have s0 := s0.trans s1
    clear s1
    cases f with
    | zero => omega
    | succ f =>
      unfold cellsR at k
      cases c : decide ((wordsAt rows n 0).take 1 = (["cell"] : List Str)) with
      | false =>
        rw [c, if_neg Bool.false_ne_true] at k
        refine iteF ?_
        refine ⟨_, rfl, pl, _, rfl, hp, fun H2 q ts s2 nq hq hts => ?_⟩
        refine k _ q ts (s0.trans s2) (li.mono s2) (s0.free nq) hq ?_ le
        exact paired_dOf hts
      | true =>
        rw [c, if_pos rfl] at k
        refine iteT ⟨fun σ' H' => ∃ n cs pl, CW CL CT H0 l dl r rows wn (fun n' cs => ∀ (H' : Hp) (p : Addr) (ts : List Addr), Same H0 H' → LinesAt CL H' l dl r rows n' → H0 p = none → H' p = some (.tup (ts.map V.ref)) → Paired (fun (t : Addr) (q : Str × Int) => H' t = some (.tup [.str q.1, .int q.2])) ts cs → cs.length ≤ 3 → Q (.ref p) H') E f σ' H' n cs pl, fun σ' H' h => ⟨f, Nat.lt_succ_self f, h⟩, ?_⟩
        have hwn : wordsAt rows n 0 ≠ [] := fun e => by
          rw [e] at c
          exact absurd (of_decide_eq_true c) (fun z => nomatch z)
        have hn := wordsAt_lt hwn
        dsimp only [tDrop]
        refine meth_run (val_var rfl) li.o (lf_no (by decide +kernel) (by decide +kernel)) ?_
        refine ⟨l, dl, r, rows, n, 0, rfl, li, sz, by decide, fun H2 wp s2 nw hw => ?_⟩
        have li := li.mono s2
        have hp := s2 _ _ hp
        have s0 := s0.trans s2
        have wz := words_ok (n := n) (dp := 0) sz
        generalize wordsAt rows n 0 = ws at k hw wz
        dsimp only [gName]
        refine meth_run (val_var rfl) li.o (lf_no (by decide +kernel) (by decide +kernel)) ?_
        have v1 : Val (tOp rEq (tCB (rLenSq K) (tCons (tVar 3) tNil)) (tC (.int 3))) [some (.ref l), some (.int wn), some (.ref pl), some (.ref wp)] H2 (.bl (decide (ws.length = 3))) := fun Q q => by
          refine (val_op (z := .bl (decide (V.int ((ws.map V.str).length : Nat) = V.int 3))) (val_lenL (val_var rfl) (SqL.of hw)) val_c fun Q q => ⟨rfl, q⟩) _ ?_
          rw [show (3 : Int) = ((3 : Nat) : Int) from rfl, dec_len, List.length_map]
          exact q
        have v2 : Val (tOp (rI0 fun i j => .bl (decide (i < j))) (tCB rLenD (tCons (tVar 2) tNil)) (tC (.int 3))) [some (.ref l), some (.int wn), some (.ref pl), some (.ref wp)] H2 (.bl (decide (cs.length < 3))) := fun Q q => by
          refine (val_i0b (val_lenD (val_var rfl) hp) val_c) _ ?_
          have eL : (dOf V.int cs).length = cs.length := List.length_map ..
          rw [eL, show decide (((cs.length : Nat) : Int) < 3) = decide (cs.length < 3) from decide_eq_decide.mpr ⟨fun e => by omega, fun e => by omega⟩]
          exact q
        refine (val_andV v1 fun _ => v2) _ ?_
        refine ⟨l, dl, r, rows, n, _, _, rfl, li, rfl, fun e => ?_, fun e => ErrK.mono ?_ s0⟩
        · rw [if_pos e] at k
          rw [Bool.and_eq_true] at e
          obtain ⟨a, z, z2, rfl⟩ : ∃ a z z2, ws = [a, z, z2] := by
            match ws, of_decide_eq_true e.1 with
            | [a, z, z2], _ => exact ⟨a, z, z2, rfl⟩
          have e2 := of_decide_eq_true e.2
          have gz : ([a, z, z2] : List Str).getD 1 "" = z := rfl
          have gz2 : ([a, z, z2] : List Str).getD 2 "" = z2 := rfl
          rw [gz, gz2] at k
          have hz := (wz z (by simp)).2
          have hz2 := (wz z2 (by simp)).2
          refine meth_run (val_var rfl) li.o (lf_no (by decide +kernel) (by decide +kernel)) ?_
          have vz : ∀ {H' : Hp}, Same H2 H' ∨ SameBut pl H2 H' → Val (tOp (rIxL K) (tVar 3) (tC (.int 1))) [some (.ref l), some (.int wn), some (.ref pl), some (.ref wp)] H' (.str z) := fun s => val_ixL (val_var rfl) val_c (SqL.of (by
            rcases s with s | s
            · exact s _ _ hw
            · exact s _ _ (ne_of hw hp (fun e => nomatch e)) hw)) (atI_nat (j := 1) rfl)
          have v3 : Val (tDNotIn (tOp (rIxL K) (tVar 3) (tC (.int 1))) (tVar 2)) [some (.ref l), some (.int wn), some (.ref pl), some (.ref wp)] H2 (.bl (!decide (z ∈ cs.map (·.1)))) := fun Q q => by
            refine vz (.inl (Same.refl _)) _ ((val_var rfl) _ ⟨pl, _, rfl, DGet.k (k := .inr z) hp, ?_⟩)
            rw [dOf_has]
            exact q
          refine (val_andV (val_call (va_cons (vz (.inl (Same.refl _))) va_nil) fun Q q => ⟨z, rfl, by omega, q⟩) fun _ => val_andV (inV_notS (vz (.inl (Same.refl _))) val_c (.inr (hB _))) fun _ => v3) _ ?_
          refine ⟨l, dl, r, rows, n, _, _, rfl, li, rfl, fun e => ?_, fun e => ErrK.mono ?_ s0⟩
          · rw [if_pos e] at k
            rw [Bool.and_eq_true, Bool.and_eq_true] at e
            have hnew : z ∉ cs.map (·.1) := fun q => by
              have := e.2.2
              rw [decide_eq_true q] at this
              exact absurd this Bool.false_ne_true
            have vz2 : Val (tOp (rIxL K) (tVar 3) (tC (.int 2))) [some (.ref l), some (.int wn), some (.ref pl), some (.ref wp)] H2 (.str z2) := val_ixL (val_var rfl) val_c (SqL.of hw) (atI_nat (j := 2) rfl)
            refine (val_call (va_cons vz2 (va_cons (val_var rfl) va_nil)) fun Q q => ⟨z2, wn, rfl, by omega, q⟩) _ ?_
            refine (val_var rfl) _ (vz (.inl (Same.refl _)) _ ?_)
            refine ⟨pl, _, rfl, DPut.k (k := .inr z) hp (by rw [show (dOf V.int cs).length = cs.length from List.length_map ..]; exact Nat.lt_of_lt_of_le (show cs.length < 4 by omega) (by decide)), ?_⟩
            rw [show putK (dOf V.int cs) (.inr z) (V.int (numOf z2 wn)) = dOf V.int (cs ++ [(z, numOf z2 wn)]) from dOf_put hnew]
            have sb3 := SameBut.upd pl H2 (.dK (dOf V.int (cs ++ [(z, numOf z2 wn)])))
            have li3 : LinesAt CL (upd H2 pl (.dK (dOf V.int (cs ++ [(z, numOf z2 wn)])))) l dl r rows n := ⟨sb3 _ _ (ne_of li.o hp (fun e => nomatch e)) li.o, sb3 _ _ (ne_of li.r hp (fun e => nomatch e)) li.r, li.le⟩
            have s3 : Same H0 (upd H2 pl (.dK (dOf V.int (cs ++ [(z, numOf z2 wn)])))) := fun c o e => sb3 c o (ne_of_none e p0) (s0 c o e)
            have hp3 : (upd H2 pl (.dK (dOf V.int (cs ++ [(z, numOf z2 wn)])))) pl = some (.dK (dOf V.int (cs ++ [(z, numOf z2 wn)]))) := upd_same
            generalize (upd H2 pl (.dK (dOf V.int (cs ++ [(z, numOf z2 wn)])))) = H3 at li3 s3 hp3 sb3
            refine meth_run (val_var rfl) li3.o (lf_no (by decide +kernel) (by decide +kernel)) ?_
            have v4 : Val (tDGet (tVar 2) (tOp (rIxL K) (tVar 3) (tC (.int 1)))) [some (.ref l), some (.int wn), some (.ref pl), some (.ref wp)] H3 (.int (numOf z2 wn)) := fun Q q => by
              refine (val_var rfl) _ (vz (.inr sb3) _ ⟨pl, _, rfl, ?_, q⟩)
              have g := DGet.k (k := .inr z) hp3
              rw [← dOf_put hnew, valV_put, if_pos rfl] at g
              exact g
            refine (val_i0b v4 val_c) _ ?_
            refine ⟨l, dl, r, rows, n, _, _, rfl, li3, rfl, fun e5 => ?_, fun e5 => ErrK.mono ?_ s3⟩
            · rw [if_pos e5] at k
              refine meth0_run (val_var rfl) li3.o (lf_no (by decide +kernel) (by decide +kernel)) ?_
              refine ⟨l, dl, r, rows, n, rfl, li3, hn, fun H4 sb li4 => ?_⟩
              refine ⟨n + 1, cs ++ [(z, numOf z2 wn)], pl, ?_, ?_, ⟨_, rfl⟩, fun c o e => sb c o (ne_of_none e l0) (s3 c o e), p0, li4, sb _ _ (ne_of hp3 li3.o (fun e => nomatch e)) hp3, k⟩
              · rw [List.length_append]
                show f + (cs.length + 1) = 4
                omega
              · rw [List.length_append]
                show cs.length + 1 ≤ 3
                omega
            · rw [e5, if_neg Bool.false_ne_true] at k
              exact k
          · rw [e, if_neg Bool.false_ne_true] at k
            exact k
        · rw [e, if_neg Bool.false_ne_true] at k
          exact k
end
end K5
namespace K5
open PySem PySem.Spec PyProof.Rows L2
/-! ### the doors -/
def doorsR (T : Tx) : Nat → Nat → Nat → List Str → Except Nat (Nat × List Str)
  | 0, n, _, _ => .error n
  | f + 1, n, m, ds =>
    if (decide ((wordsAt T.rows n 0).take 1 = (["door"] : List Str)) || decide (ds = [])) = true then
      if (decide ((wordsAt T.rows n 0).take 1 = (["door"] : List Str)) && (decide ((wordsAt T.rows n 0).length = 2) && decide (ds.length < 3))) = true then
        if (isDoor ((wordsAt T.rows n 0).getD 1 "") && !decide ((wordsAt T.rows n 0).getD 1 "" ∈ ds)) = true then
          match blk T 2 false (n + 1) m with
          | .ok (n1, m1) => doorsR T f n1 m1 (ds ++ [(wordsAt T.rows n 0).getD 1 ""])
          | .error e => .error e
        else .error n
      else .error n
    else .ok (n, ds)
def DsQ (CL CP : Addr) (A : Ad) (T : Tx) (H0 : Hp) (Q : VK) (n : Nat) (ds : List Str) : Prop :=
  ∀ (H' : Hp) (m : Nat) (xs : List V) (kvs : List (Key × V)) (p : Addr) (cs : List (Str × Int)), Wd CL CP A T H0 H' n m xs kvs → xs.length ≤ 200 → H0 p = none → H' p = some (.dK (dOf V.int cs)) → cs.map (·.1) = ds → ds.length ≤ 3 → p ≠ A.ak → Q (.ref p) H'
def spDoors (CL CP CT : Addr) : Sp := fun vs H Q E => ∃ (A : Ad) (T : Tx) (H0 : Hp) (n : Nat), vs = [.ref A.l, .ref A.g] ∧ Wd CL CP A T H0 H n 0 [] [] ∧ TxOk T ∧
  RK (doorsR T 4 n 0 []) (DsQ CL CP A T H0 Q) fun e => ErrK CT (.int e) H0 E
structure DW (CL CP CT : Addr) (A : Ad) (T : Tx) (H0 : Hp) (Q : VK) (E : XK) (f : Nat) (σ : L2.St) (H : Hp) (n m : Nat) (xs : List V) (kvs : List (Key × V)) (pl : Addr) (cs : List (Str × Int)) : Prop where
  f4 : f + cs.length = 4
  le : cs.length ≤ 3
  st : ∃ y, σ = [some (.ref A.l), some (.ref A.g), some (.ref pl), y]
  pw : Wd CL CP A T H0 H n m xs kvs
  p0 : H0 pl = none
  pa : pl ≠ A.ak
  hp : H pl = some (.dK (dOf V.int cs))
  lx : xs.length + (4 - cs.length) ≤ 2 * m + 100
  lk : kvs.length ≤ m + 100
  hm : m ≤ 24
  k : RK (doorsR T f n m (cs.map (·.1))) (DsQ CL CP A T H0 Q) fun e => ErrK CT (.int e) H0 E
section
variable {CL CP : Addr} {A : Ad} {T : Tx} {H0 H : Hp} {n m : Nat} {xs : List V} {kvs : List (Key × V)}
/-- what stands elsewhere is kept by all that follows -/
theorem Wd.pinO (p : Wd CL CP A T H0 H n m xs kvs) {a : Addr} {u : HO} (h : H a = some u) (n1 : a ≠ A.l) (n2 : a ≠ A.g) (n3 : a ≠ A.st) (n4 : a ≠ A.ak) : Wd CL CP A T (upd H0 a u) H n m xs kvs ∧ Same H0 (upd H0 a u) := by
  have s1 : Same (upd H0 a u) H := fun b o e => by
    by_cases c : b = a
    · subst c
      rw [upd_same] at e
      rw [← e]
      exact h
    · rw [upd_ne c] at e
      exact p.s0 b o e
  refine ⟨{ p with s0 := s1, l0 := by rw [upd_ne n1.symm]; exact p.l0, g0 := by rw [upd_ne n2.symm]; exact p.g0, st0 := by rw [upd_ne n3.symm]; exact p.st0, ak0 := by rw [upd_ne n4.symm]; exact p.ak0 }, fun b o e => ?_⟩
  by_cases c : b = a
  · subst c
    rw [upd_same]
    exact h.symm.trans (p.s0 b o e)
  · rw [upd_ne c]
    exact e
/-- a thing of the side is changed -/
theorem Wd.side (p : Wd CL CP A T H0 H n m xs kvs) {a : Addr} {cs : List (Key × V)} {u : HO} (h : H a = some (.dK cs)) (h0 : H0 a = none) (n4 : a ≠ A.ak) : Wd CL CP A T H0 (upd H a u) n m xs kvs where
  s0 := fun b o e => by rw [upd_ne (ne_of_none e h0)]; exact p.s0 b o e
  l0 := p.l0
  g0 := p.g0
  st0 := p.st0
  ak0 := p.ak0
  lg := p.lg
  li := ⟨at_but p.li.o (by rw [h]; exact fun e => nomatch e), at_but p.li.r (by rw [h]; exact fun e => nomatch e), p.li.le⟩
  pg := at_but p.pg (by rw [h]; exact fun e => nomatch e)
  ct := p.ct.but fun _ _ => by rw [h]; exact fun e => nomatch e
  pt := at_but p.pt (by rw [h]; exact fun e => nomatch e)
  st := at_but p.st (by rw [h]; exact fun e => nomatch e)
  sx := fun y z => (p.sx y z).but fun _ => by rw [h]; exact fun e => nomatch e
  ak := by rw [upd_ne n4.symm]; exact p.ak
  rst := p.rst
end
section
variable {P : Program} {w : World} {K : PySem.W.Frag} {mg : Str → Option Value} {base : Heap} {CL CP CT : Addr} {fBegins fWords fStep fNeed fName fDoor fNum : Addr} {dBegins dWords dStep dNeed dName dDoor dNum : FuncData}
theorem ok_read_doors {f fR : Addr} {fd dR : FuncData} (N : En4 P w K mg base CL CT fBegins fWords fStep fNeed fName fDoor fNum dBegins dWords dStep dNeed dName dDoor dNum) (C : ClP K CP) (D : Df K mg "read_doors" s_read_doors f fd ["lines", "program"])
    (Mr : Mf K CP "read_door" "Program.read_door" s_Program_read_door fR dR ["self"]) (Gr : FnOk P w K mg base (L2.CX P w) 20 fR dR ["self"] (spReadDoor CL CP CT)) :
    FnOk P w K mg base (L2.CX P w) 21 f fd ["lines", "program"] (spDoors CL CP CT) := by
  obtain ⟨tD, gD⟩ := N.cD
  refine D.F.okX sc_read_doors (fun vs H Q E h => ?_) (fun cdv A0 outer s H vs Q E hr h => ?_)
  · obtain ⟨A, T, H0, n, rfl, _⟩ := h
    rfl
  · obtain ⟨A, T, H0, n, rfl, pw, tx, k⟩ := h
    have S := sc_read_doors
    refine ⟨_, (pss_cons (ps_set (i := 2) S.nd rfl (.inl rfl) pe_dnewK)
      (pss_cons (ps_while (passes_of rfl) (PW.pt (pw_or (pt_val (pe_meth (pv 0) N.L.cl N.Mb.m N.Gb (hr.mono (by decide)) N.Mb.b .nil pass0 (pa_cons pe_str pa_nil))) (pw_or1 (pt_not (pt_truth (pv 2) (by intro _; rfl))))))
        (pss_cons (ps_set (i := 3) S.nd rfl (.inl rfl) (pe_meth (pv 0) N.L.cl N.Mw.m N.Gw (hr.mono (by decide)) N.Mw.b .nil pass0 (pa_cons pe_int pa_nil)))
        (pss_cons (ps_expr (pe_meth (pv 0) N.L.cl N.Mn.m N.Gn (hr.mono (by decide)) N.Mn.b .nil (pxp rfl rfl rfl rfl) (pa_cons (pe_and (pe_cmpR (op_eqD (by have := hr.units; exact this)) (pe_slice sl_list (pv 3) po_none (po_some pe_int)) (pe_lst (pa_cons pe_str pa_nil)) (nomark _)) (pe_and (pe_cmpR op_eq (pe_callB call_len_seq (by rfl) N.B.m_len PySem.boot_len (pa_cons (pv 3) pa_nil)) pe_int (nomark _)) (pe_one (pe_cmpR op_lt (pe_callB call_lenD (by rfl) N.B.m_len PySem.boot_len (pa_cons (pv 2) pa_nil)) (pe_glob (v := .int 3) (by rfl) gD ⟨_, rfl⟩) (nomark _))))) pa_nil)))
        (pss_cons (ps_expr (pe_meth (pv 0) N.L.cl N.Mn.m N.Gn (hr.mono (by decide)) N.Mn.b .nil (pxp rfl rfl rfl rfl) (pa_cons (pe_and (pe_call N.Gd (hr.mono (by decide)) (by rfl) N.Dd.g N.Dd.F.kp N.Dd.b .nil pass0 (pa_cons (pe_ix ix_list (pv 3) pe_int (fun _ _ => rfl)) pa_nil)) (pe_one (pe_cmp (pc_dnotin (hu_of hr) (pe_ix ix_list (pv 3) pe_int (fun _ _ => rfl)) (pv 2)) rfl))) pa_nil)))
        (pss_cons (ps_expr (pe_meth0 (pv 0) N.L.cl N.Ms.m N.Gs (hr.mono (by decide)) N.Ms.b .nil pass0))
        (pss_one (ps_dput (hu_of hr) (pv 2) (pe_ix ix_list (pv 3) pe_int (fun _ _ => rfl)) (pe_meth0 (pv 1) C.cl Mr.m Gr (hr.mono (by decide)) Mr.b .nil (pxp rfl rfl rfl rfl)) rfl)))))))
      (pss_one (ps_ret (pv 2))))), ?_⟩
    dsimp only [tNext, tSeq, tAsg, tRet]
    refine fun pl npl => ?_
    dsimp only [gName]
    have s1 := same_upd (o := .dK []) npl
    refine ⟨fun f σ H => ∃ n m xs kvs pl cs, DW CL CP CT A T H0 Q E f σ H n m xs kvs pl cs, ⟨4, n, 0, [], [], pl, [], rfl, Nat.zero_le _, ⟨_, rfl⟩, pw.mono s1, pw.s0.free npl, (ne_of_none pw.ak npl).symm, upd_same, by decide, by decide, by decide, k⟩, fun f σ H h => ?_⟩
    obtain ⟨n, m, xs, kvs, pl, cs, f4, le, ⟨y, rfl⟩, pw, p0, pa, hp, lx, lk, hm, k⟩ := h
    refine meth_run (val_var rfl) pw.li.o (lf_no (by decide +kernel) (by decide +kernel)) ?_
    refine ⟨A.l, A.dl, A.r, T.rows, n, "door", rfl, pw.li, tx.sz, by decide +kernel, fun H1 s1 => ⟨_, rfl, ?_⟩⟩
    have pw := pw.mono s1
    have hp := s1 _ _ hp
    clear s1
    cases f with
    | zero => omega
    | succ f =>
      unfold doorsR at k
      have test : ∀ Q2 : Bool → Hp → Prop, Q2 (decide ((wordsAt T.rows n 0).take 1 = (["door"] : List Str)) || decide (cs.map (·.1) = [])) H1 → (if decide ((wordsAt T.rows n 0).take 1 = (["door"] : List Str)) = true then Q2 true H1 else tNot (fun σ H Q => tVar 2 σ H fun x H' => ∃ k, TruV K x H' k ∧ Q k H') [some (.ref A.l), some (.ref A.g), some (.ref pl), y] H1 Q2) := fun Q2 q => by
        cases c : decide ((wordsAt T.rows n 0).take 1 = (["door"] : List Str)) with
        | true =>
          rw [c] at q
          exact iteT q
        | false =>
          rw [c] at q
          refine iteF ⟨_, rfl, !(dOf V.int cs).isEmpty, .inr (.inr ⟨_, hp, rfl⟩), ?_⟩
          have e : (!(!(dOf V.int cs).isEmpty)) = (false || decide (cs.map (·.1) = [])) := by
            cases cs with
            | nil => rfl
            | cons c r => rfl
          show Q2 (!(!(dOf V.int cs).isEmpty)) H1
          rw [e]
          exact q
      refine test _ ?_
      cases c : (decide ((wordsAt T.rows n 0).take 1 = (["door"] : List Str)) || decide (cs.map (·.1) = [])) with
      | false =>
        rw [c, if_neg Bool.false_ne_true] at k
        refine iteF ?_
        refine ⟨_, rfl, ?_⟩
        exact k H1 m xs kvs pl cs pw (by omega) p0 hp rfl (by rw [List.length_map]; exact le) pa
      | true =>
        rw [c, if_pos rfl] at k
        refine iteT ⟨fun σ' H' => ∃ n m xs kvs pl cs, DW CL CP CT A T H0 Q E f σ' H' n m xs kvs pl cs, fun σ' H' h => ⟨f, Nat.lt_succ_self f, h⟩, ?_⟩
        dsimp only [tDrop]
        refine meth_run (val_var rfl) pw.li.o (lf_no (by decide +kernel) (by decide +kernel)) ?_
        refine ⟨A.l, A.dl, A.r, T.rows, n, 0, rfl, pw.li, tx.sz, by decide, fun H2 wp s2 nw hw => ?_⟩
        have wst : wp ≠ A.st := (ne_of_none pw.st nw).symm
        have wr : wp ≠ A.r := (ne_of_none pw.li.r nw).symm
        have pw := pw.mono s2
        have hp := s2 _ _ hp
        have wz := words_ok (n := n) (dp := 0) tx.sz
        have hnl : wordsAt T.rows n 0 ≠ [] → n < T.rows.length := wordsAt_lt
        generalize wordsAt T.rows n 0 = ws at k hw wz hnl
        dsimp only [gName]
        refine meth_run (val_var rfl) pw.li.o (lf_no (by decide +kernel) (by decide +kernel)) ?_
        refine ⟨_, rfl, 1, rfl, wp, _, rfl, SqL.of hw, fun q nq => ?_⟩
        refine ⟨by show 1 ≤ sizeLine; decide, fun o no => ?_⟩
        have s3 : Same H2 (upd H2 q (.lst (cutV (ws.map V.str) none (some 1)))) := same_upd nq
        have s4 := same_upd (H := upd H2 q (.lst (cutV (ws.map V.str) none (some 1)))) (o := .lst [V.str "door"]) no
        have ec : cutV (ws.map V.str) none (some 1) = (ws.take 1).map V.str := by
          unfold cutV
          rw [show HT.sIx (ws.map V.str).length (ws.map V.str).length (some 1) = min 1 (ws.map V.str).length from HT.sIx_nat _ _ 1, HT.sIx_none, List.drop_zero, Nat.sub_zero, List.map_take]
          exact List.take_eq_take_min.symm
        have hq : SqL K (upd (upd H2 q (.lst (cutV (ws.map V.str) none (some 1)))) o (.lst [V.str "door"])) q ((ws.take 1).map V.str) := by
          rw [← ec]
          exact SqL.of (s4 _ _ upd_same)
        refine ⟨.list ((ws.take 1).map PyData.str), .list ([("door" : Str)].map PyData.str), .lst hq (dpAll_strs _), .lst (SqL.of upd_same) (dpAll_strs ["door"]), shaped_strs fun y hy => (wz y (List.mem_of_mem_take hy)).1, by decide +kernel, ?_⟩
        have e1 : PyData.eqv (.list ((ws.take 1).map PyData.str)) (.list ([("door" : Str)].map PyData.str)) = decide (ws.take 1 = [("door" : Str)]) := by
          rw [PyData.eqv]
          exact eqv_strs _ _
        rw [e1]
        have s34 := s3.trans s4
        have pw := pw.mono s34
        have hp := s34 _ _ hp
        have hw := s34 _ _ hw
        generalize (upd (upd H2 q (.lst (cutV (ws.map V.str) none (some 1)))) o (.lst [V.str "door"])) = H3 at pw hp hw
        have v1 : Val (tOp rEq (tCB (rLenSq K) (tCons (tVar 3) tNil)) (tC (.int 2))) [some (.ref A.l), some (.ref A.g), some (.ref pl), some (.ref wp)] H3 (.bl (decide (ws.length = 2))) := fun Q q => by
          refine (val_op (z := .bl (decide (V.int ((ws.map V.str).length : Nat) = V.int 2))) (val_lenL (val_var rfl) (SqL.of hw)) val_c fun Q q => ⟨rfl, q⟩) _ ?_
          rw [show (2 : Int) = ((2 : Nat) : Int) from rfl, dec_len, List.length_map]
          exact q
        have v2 : Val (tOp (rI0 fun i j => .bl (decide (i < j))) (tCB rLenD (tCons (tVar 2) tNil)) (tC (.int 3))) [some (.ref A.l), some (.ref A.g), some (.ref pl), some (.ref wp)] H3 (.bl (decide ((cs.map (·.1)).length < 3))) := fun Q q => by
          refine (val_i0b (val_lenD (val_var rfl) hp) val_c) _ ?_
          have eL : (dOf V.int cs).length = (cs.map (·.1)).length := by rw [List.length_map]; exact List.length_map ..
          rw [eL, show decide ((((cs.map (·.1)).length : Nat) : Int) < 3) = decide ((cs.map (·.1)).length < 3) from decide_eq_decide.mpr ⟨fun e => by omega, fun e => by omega⟩]
          exact q
        have v0 : ∀ (b : Bool) (Q : VK), Q (.bl (b && (decide (ws.length = 2) && decide ((cs.map (·.1)).length < 3)))) H3 → ∃ c, V.bl b = .bl c ∧ if c = true then tAndV (tOp rEq (tCB (rLenSq K) (tCons (tVar 3) tNil)) (tC (.int 2))) (tOp (rI0 fun i j => .bl (decide (i < j))) (tCB rLenD (tCons (tVar 2) tNil)) (tC (.int 3))) [some (.ref A.l), some (.ref A.g), some (.ref pl), some (.ref wp)] H3 Q else Q (.bl false) H3 := fun b Q q => ⟨b, rfl, by
          cases b with
          | true => exact iteT ((val_andV v1 fun _ => v2) _ q)
          | false => exact iteF q⟩
        refine v0 _ _ ?_
        refine ⟨A.l, A.dl, A.r, T.rows, n, _, _, rfl, pw.li, rfl, fun e => ?_, fun e => ErrK.mono ?_ pw.s0⟩
        · rw [if_pos e] at k
          rw [Bool.and_eq_true, Bool.and_eq_true] at e
          obtain ⟨a, z, rfl⟩ : ∃ a z, ws = [a, z] := by
            match ws, of_decide_eq_true e.2.1 with
            | [a, z], _ => exact ⟨a, z, rfl⟩
          have hn := hnl (fun e => nomatch e)
          have e2 := of_decide_eq_true e.2.2
          rw [List.length_map] at e2
          have gz : ([a, z] : List Str).getD 1 "" = z := rfl
          rw [gz] at k
          have hz := (wz z (by simp)).2
          refine meth_run (val_var rfl) pw.li.o (lf_no (by decide +kernel) (by decide +kernel)) ?_
          have vz : ∀ {H' : Hp}, H' wp = some (.lst (([a, z] : List Str).map V.str)) → Val (tOp (rIxL K) (tVar 3) (tC (.int 1))) [some (.ref A.l), some (.ref A.g), some (.ref pl), some (.ref wp)] H' (.str z) := fun h => val_ixL (val_var rfl) val_c (SqL.of h) (atI_nat (j := 1) rfl)
          have v3 : Val (tDNotIn (tOp (rIxL K) (tVar 3) (tC (.int 1))) (tVar 2)) [some (.ref A.l), some (.ref A.g), some (.ref pl), some (.ref wp)] H3 (.bl (!decide (z ∈ cs.map (·.1)))) := fun Q q => by
            refine vz hw _ ((val_var rfl) _ ⟨pl, _, rfl, DGet.k (k := .inr z) hp, ?_⟩)
            rw [dOf_has]
            exact q
          refine (val_andV (val_call (va_cons (vz hw) va_nil) fun Q q => ⟨z, rfl, by omega, q⟩) fun _ => v3) _ ?_
          refine ⟨A.l, A.dl, A.r, T.rows, n, _, _, rfl, pw.li, rfl, fun e => ?_, fun e => ErrK.mono ?_ pw.s0⟩
          · rw [if_pos e] at k
            rw [Bool.and_eq_true] at e
            have hnew : z ∉ cs.map (·.1) := fun q => by
              have := e.2
              rw [decide_eq_true q] at this
              exact absurd this Bool.false_ne_true
            refine meth0_run (val_var rfl) pw.li.o (lf_no (by decide +kernel) (by decide +kernel)) ?_
            refine ⟨A.l, A.dl, A.r, T.rows, n, rfl, pw.li, hn, fun H4 sb li4 => ?_⟩
            have hp4 := sb _ _ (ne_of hp pw.li.o (fun e => nomatch e)) hp
            have hw4 := sb _ _ (ne_of hw pw.li.o (fun e => nomatch e)) hw
            have p4 := pw.step sb li4
            obtain ⟨p5, s05⟩ := p4.pinO hp4 (ne_of hp4 p4.li.o (fun e => nomatch e)) (ne_of hp4 p4.pg (fun e => nomatch e)) (ne_of hp4 p4.st (fun e => nomatch e)) pa
            obtain ⟨p6, s06⟩ := p5.pinO hw4 (ne_of hw4 p4.li.o (fun e => nomatch e)) (ne_of hw4 p4.pg (fun e => nomatch e)) wst (ne_of hw4 p4.ak (fun e => nomatch e))
            have s7 := s05.trans s06
            have k1 : (blk T 2 false (n + 1) m).K (fun n1 m1 => RK (doorsR T f n1 m1 (cs.map (·.1) ++ [z])) (DsQ CL CP A T H0 Q) fun e => ErrK CT (.int e) H0 E) fun e => ErrK CT (.int e) H0 E := by
              revert k
              match blk T 2 false (n + 1) m with
              | .ok (n1, m1) => exact fun k => k
              | .error e => exact fun k => k
            refine meth0_run (val_var rfl) p4.pg (pf_no (by decide +kernel)) ?_
            refine ⟨A, T, _, n + 1, m, xs, kvs, 3 - cs.length, rfl, p6, tx, by omega, lk, hm, ?_⟩
            refine Res.K.mono k1 (fun n1 m1 q H8 xs8 kvs8 i8 p8 hl8 hk8 hm8 => ?_) fun e h => h.mono s7
            have hp8 : H8 pl = some (.dK (dOf V.int cs)) := p8.s0 _ _ (s06 _ _ upd_same)
            have hw8 : H8 wp = some (.lst (([a, z] : List Str).map V.str)) := p8.s0 _ _ upd_same
            have p8 := p8.weak s7
            refine (val_var rfl) _ (vz hw8 _ ?_)
            refine ⟨pl, _, rfl, DPut.k (k := .inr z) hp8 (by rw [show (dOf V.int cs).length = cs.length from List.length_map ..]; exact Nat.lt_of_lt_of_le (show cs.length < 4 by omega) (by decide)), ?_⟩
            rw [show putK (dOf V.int cs) (.inr z) (V.int i8) = dOf V.int (cs ++ [(z, (i8 : Int))]) from dOf_put hnew]
            refine ⟨n1, m1, xs8, kvs8, pl, cs ++ [(z, (i8 : Int))], ?_, ?_, ⟨_, rfl⟩, p8.side hp8 p0 pa, p0, pa, upd_same, ?_, hk8, hm8, ?_⟩
            · rw [List.length_append]
              show f + (cs.length + 1) = 4
              omega
            · rw [List.length_append]
              show cs.length + 1 ≤ 3
              omega
            · rw [List.length_append]
              show xs8.length + (4 - (cs.length + 1)) ≤ _
              omega
            · rw [List.map_append]
              exact q
          · rw [e, if_neg Bool.false_ne_true] at k
            exact k
        · rw [e, if_neg Bool.false_ne_true] at k
          exact k
end
end K5
namespace K5
open PySem PySem.Spec PyProof.Rows L2
/-! ### tuple(a for a, b in a tuple of pairs) -/
section
variable {prog : PySem.Program} {w : World} {A : Around} {E : Value → Shared → Prop} {s : Shared}
theorem go_tupiter {es : List Expr} {kk : Nat} {pos : Pos} {it yl tt : Addr} {i : Nat} {Q : Unit → Shared → Prop} (at1 : s.heap.IsTupleIter it yl i) (next : Q () s) :
    wpAny (model prog w) A (letOwnedTupleGo (.Tuple es kk pos) (.ref it) (.ref tt)) Q E s := by
  obtain ⟨ob, h1, h2, h3⟩ := at1
  unfold letOwnedTupleGo
  refine wpAny_bind (wpAny_load h1 ?_)
  rw [h2, h3]
  show wpAny _ A (if ((["enumerate", "zip", "dict_itemiterator", "dict_reverseitemiterator", "odict_iterator", "itertools.zip_longest", "itertools.pairwise"].contains "tuple_iterator") && ((#[.ref yl, .int i 0] : Array Value)[0]? == some (rawInt tt))) = true then _ else _) Q E s
  rw [if_neg (by
    rw [show (["enumerate", "zip", "dict_itemiterator", "dict_reverseitemiterator", "odict_iterator", "itertools.zip_longest", "itertools.pairwise"].contains "tuple_iterator") = false from by decide, Bool.false_and]
    exact Bool.false_ne_true)]
  exact wpAny_pure next
end
theorem walk_pairs {prog : PySem.Program} {w : World} {A : Around} (calm : A.handled = none) (it yl : Addr) (ne : yl ≠ it) (items : Array Value) (tt : Nat → Addr) (vals : Nat → Array Value)
    (at1 : ∀ j, j < items.size → items[j]? = some (.ref (tt j))) (ne2 : ∀ j, j < items.size → tt j ≠ it) :
    WalksU prog w A it (it :: yl :: (List.range items.size).map tt) [it] items.size (fun j v => v = vals j)
      (fun j h => h.IsTupleIter it yl j ∧ h.IsTuple yl items ∧ ∀ k, k < items.size → h.IsTuple (tt k) (vals k))
      (fun j a h => (j < items.size ∧ a = tt j) ∧ h.IsTupleIter it yl (j + 1) ∧ h.IsTuple yl items ∧ ∀ k, k < items.size → h.IsTuple (tt k) (vals k)) where
  sub := fun c hc => by simp at hc; simp [hc]
  frame := fun _ _ _ z keep => ⟨z.1.at fun o e => keep it (by simp) o e, z.2.1.at fun o e => keep yl (by simp) o e,
    fun k lt => (z.2.2 k lt).at fun o e => keep (tt k) (List.mem_cons_of_mem _ (List.mem_cons_of_mem _ (List.mem_map.mpr ⟨k, List.mem_range.mpr lt, rfl⟩))) o e⟩
  item := fun i s Q E lt z next => by
    refine wpAny_pyNext_tuple_item z.1 z.2.1 (x := .ref (tt i)) (at1 i lt) fun h1 i1 sb => ?_
    have all : ∀ k, k < items.size → h1.IsTuple (tt k) (vals k) := fun k l2 => (z.2.2 k l2).extBut sb.extBut (ne2 k l2)
    exact next (tt i) (vals i) h1 s.toks rfl (all i lt) ⟨⟨lt, rfl⟩, i1, z.2.1.extBut sb.extBut ne, all⟩ fun c o nc e => sb.extBut c o (fun q => nc (by simp [q])) e
  go := fun _ _ _ _ _ s Q _ z next => go_tupiter z.2.1 (next s.heap z.2 fun _ _ _ e => e)
  apart := fun j a _ z q => by
    rcases List.mem_cons.mp q with e | e
    · exact ne2 j z.1.1 (z.1.2 ▸ e)
    · cases e
  done := fun s Q E z next => wpAny_pyNext_tuple_end calm z.1 z.2.1 (by simp) fun h1 ex => next h1 s.toks fun c o nc e => ex c o (fun q => nc (by simp [q])) e
  self := fun _ _ _ _ z next => wpAny_pyIter_tupleiter z.1 next
end K5
namespace K5
open PySem PySem.Spec PyProof.Rows L2
def seqOf (h : Heap) (a : Addr) : Array Value := match h.get? a with
  | some ⟨_, _, .seq vs _, _⟩ => vs
  | _ => #[]
theorem seqOf_at {h : Heap} {a : Addr} {vs : Array Value} (x : IsTup h a vs) : seqOf h a = vs := by
  obtain ⟨o, h1, h2, n, hC⟩ := x
  unfold seqOf
  rw [h1]
  cases o
  cases hC
  rfl
section
variable {X : Cx} {pins : List (Addr × Obj)} {σ : L2.St} {H : Hp} {s : Shared}
/-- the generator g over the first things of the pairs cs -/
def ReadyP (X : Cx) (pins : List (Addr × Obj)) (σ : L2.St) (H1 : Hp) (P : Addr) (cs : List (Str × Int)) (g : Addr) (s5 : Shared) : Prop :=
  ∃ (fps wrs : List Addr) (G : Array GenState → Array GenState → Prop) (F : Nat → Value → Prop) (St : Nat → Shared → Prop),
    WalksS X.prog X.w X.A.in1.in1.in1 g fps wrs G cs.length F St ∧ St 0 s5 ∧ (∀ c ∈ fps, c < s5.heap.objs.size) ∧ g ∈ fps ∧ (∀ i sS, St i sS → sS.TypeIs (.ref g) "generator") ∧
    (∀ j v, F j v → ∃ (q : Str × Int) (t : Tok), cs[j]? = some q ∧ v = .str q.1 t) ∧
    ∀ s', Moved wrs G s5 s' → ∃ H2, GxR.Tabbed P H1 H2 ∧ Inv X pins σ H2 s'
def Pairs (H : Hp) (ts : List Addr) (cs : List (Str × Int)) : Prop := Paired (fun (t : Addr) (q : Str × Int) => H t = some (.tup [.str q.1, .int q.2])) ts cs
theorem Pairs.get {H : Hp} {ts : List Addr} {cs : List (Str × Int)} (h : Pairs H ts cs) {j : Nat} (lt : j < cs.length) : ∃ t q, ts[j]? = some t ∧ cs[j]? = some q ∧ H t = some (.tup [.str q.1, .int q.2]) := by
  have e : ts.length = cs.length := Paired.length h
  have e1 : ts[j]? = some (ts[j]'(by omega)) := List.getElem?_eq_getElem _
  obtain ⟨q, h1, h2⟩ := LiI.paired_get h e1
  exact ⟨_, q, e1, h1, h2⟩
theorem vals_ref : ∀ {ts : List Addr} {us : List Value}, Vals (ts.map V.ref) us → us = ts.map Value.ref
  | [], _, .nil => rfl
  | t :: r, _, .cons a b => by
    rw [vals_ref b, show _ = Value.ref t from a]
    rfl
theorem gen_pairs {c P : Addr} {iter : Expr} {xa xb : Str} {px pa pb pt gpos : Pos} {kt : Nat} {scope : Scope} {te : TE} {k : Nat} {Z : Value → Shared → Prop} {R : List (Str × Int) → Hp → Prop}
    (hr : Room k X.A) (TB : GxR.TabB X.base X.mg c P) (code1 : X.env.code = .ref c) (S : GxR.GenS X.env scope xa) (loc2 : scope.names.lookup xb = some .local) (ab : xa ≠ xb) (nd : (xa == ("__debug__" : Str)) = false) (it : PE X iter te)
    (fold : ∀ v, genFold iter X.env v = pure v) (I : Inv X pins σ H s) (h : te σ H fun v H1 => ∃ (yl : Addr) (ts : List Addr) (cs : List (Str × Int)), v = .ref yl ∧ H1 yl = some (.tup (ts.map V.ref)) ∧ Pairs H1 ts cs ∧ GxR.TabG H1 P ∧ R cs H1)
    (hZ : ∀ cs H1 g s5, R cs H1 → ReadyP X pins σ H1 P cs g s5 → Z (.ref g) s5) :
    wpAny (model X.prog X.w) X.A (eval (.GeneratorExp (.Name xa px) [⟨.Tuple [.Name xa pa, .Name xb pb] kt pt, iter, [], 0⟩] scope gpos) X.env) Z X.xe s := by
  refine wpAny_GeneratorExp_walksQT hr.hd S.co (closure_ok S.free) S.cell S.dot S.loc loc2 ab S.kind (by have := hr.dp; omega) ?_ fold
  refine thn (it.run pins s σ H _ I h) fun xv sA ⟨v, H1, IA, r1, q1⟩ => ?_
  obtain ⟨yl, ts, cs, rfl, hy, prs, ⟨tb0, hP, ht⟩, q1⟩ := q1
  obtain rfl : xv = Value.ref yl := r1
  obtain ⟨its, rv, pl, hz⟩ := IA.tuple (SqT.of hy)
  obtain rfl := vals_ref rv
  have lts : ts.length = cs.length := Paired.length prs
  have n1 : (ts.map Value.ref).toArray.size = cs.length := by rw [List.size_toArray, List.length_map, lts]
  have tat : ∀ j, j < cs.length → ∃ (q : Str × Int) (t u : Tok), ts[j]? = some (ts.getD j 0) ∧ cs[j]? = some q ∧ IsTup sA.heap (ts.getD j 0) #[.str q.1 t, .int q.2 u] := fun j lt => by
    obtain ⟨a, q, e1, e2, e3⟩ := prs.get lt
    obtain ⟨us, r2, p2, _⟩ := IA.tuple (SqT.of e3)
    have ed : ts.getD j 0 = a := by rw [List.getD_eq_getElem?_getD, e1]; rfl
    cases r2 with
    | cons ra rb =>
      cases rb with
      | cons rb rc =>
        cases rc
        obtain ⟨t, rfl⟩ := ra
        obtain ⟨u, rfl⟩ := rb
        exact ⟨q, t, u, by rw [ed]; exact e1, e2, by rw [ed]; exact p2⟩
  have ylt : yl < sA.heap.objs.size := IsTup.lt pl
  refine wpAny_pyIter_tuple pl ?_
  generalize ho : ({ cls := .type "tuple_iterator", data := .fields #[.ref yl, .int 0 0] } : Obj) = o
  have itr : (sA.heap.push o).IsTupleIter sA.heap.objs.size yl 0 := by
    subst ho
    exact ⟨_, Heap.get?_push_size _ rfl, rfl, rfl⟩
  have tabS : sA.heap.get? P = some { cls := .none, data := .fields tb0 } := IA.hok P _ hP
  have Plt : P < sA.heap.objs.size := Heap.lt_size tabS
  have tabS2 : (sA.heap.push o).get? P = some { cls := .none, data := .fields tb0 } := Heap.get?_push_of_some _ tabS
  have cdh : PySem.W.CodeHd (sA.heap.push o) c P := TB.code.keeps fun b u e => Heap.get?_push_of_some _ (IA.bk b u e)
  have limA : (sA.heap.push o).NoLimit := IA.nolimit.push o
  refine ⟨limA, ?_⟩
  have goOn : ∀ (code : Value) (hC : Heap) (tk : Nat) (tb1 : Array Value), Heap.ExtBut P (sA.heap.push o) hC → (sA.heap.push o).objs.size ≤ hC.objs.size → hC.get? P = some { cls := .none, data := .fields tb1 } → (∃ more, tb1 = tb0 ++ more) → TriplesOk tb1.toList →
      wpAny (model X.prog X.w) X.A (builtinsFor X.env.globals X.env.builtins) (fun bi sQ =>
        ∃ I fps wrs n₀ Pt St₀ Mid pz F, Value.ref sA.heap.objs.size = .ref I ∧ (∀ A' : Around, A'.handled = none → WalksU X.prog X.w A' I fps wrs n₀ Pt St₀ Mid) ∧ (∀ i vals, Pt i vals → ∃ va vb, vals = #[va, vb]) ∧ St₀ 0 sQ.heap ∧ (∀ b ∈ fps, b < sQ.heap.objs.size) ∧ sQ.heap.NoLimit ∧ cStatics ∉ wrs ∧
          (∀ hRef : Heap, (∀ b o, sQ.heap.get? b = some o → hRef.get? b = some o) →
            QuietGenT X.prog X.w (genEnv scope (cloFrom X.env.cells scope.names []) sQ.heap.objs.size code bi X.env) xa xb [] (.Name xa px) (List.range sQ.heap.objs.size) wrs Pt pz F hRef) ∧
          (∀ a hR tk gN, gN.bare = true → sQ.heap.objs.size < a → hR.objs.size = a + 1 → (∀ b o, sQ.heap.get? b = some o → hR.get? b = some o) →
            WalksS X.prog X.w X.A.in4 a (a :: sQ.heap.objs.size :: List.range sQ.heap.objs.size) (sQ.heap.objs.size :: wrs) (GenOnlyQ sQ.gens.size) (passing pz n₀ 0).length
              (fun j y => ∃ i, (passing pz n₀ 0)[j]? = some i ∧ F i y) (GenAt X.prog X.w X.A.in4 a sQ.gens.size sQ.heap.objs.size (List.range sQ.heap.objs.size) wrs pz n₀ F) →
            GenAt X.prog X.w X.A.in4 a sQ.gens.size sQ.heap.objs.size (List.range sQ.heap.objs.size) wrs pz n₀ F 0 { sQ with gens := sQ.gens.push gN, toks := tk, heap := hR } →
            Z (.ref a) { sQ with gens := sQ.gens.push gN, toks := tk, heap := hR })) X.xe { sA with heap := hC, toks := tk } := by
    intro code hC tk tb1 hx hsz tabC moreP triC
    obtain ⟨mm, mo, e1, e2, e3, q4, q5, e6, e7, e8⟩ := TB.bm
    have nP : cStatics ≠ P := fun e => by
      obtain ⟨_, nsx, _⟩ := IA.nolimit
      obtain ⟨o', es, ep, ho, hd, _⟩ := nsx
      rw [e, tabS] at ho
      cases ho
      cases hd
    have stl : cStatics < sA.heap.objs.size := let ⟨_, nsx, _⟩ := IA.nolimit; nsx.lt
    have szA : (sA.heap.push o).objs.size = sA.heap.objs.size + 1 := Heap.size_push ..
    have kC : ∀ b u, b ≠ P → sA.heap.get? b = some u → hC.get? b = some u := fun b u inb e => hx b u inb (Heap.get?_push_of_some _ e)
    refine wpAny_builtinsFor (m := X.mg) (by rw [IA.ok.glob]; exact ((IA.mod.glob.keeps IA.bk).push o).extBut hx TB.gP) e1 e2 (kC _ _ q4 (IA.bk _ _ q5)) e6 e7 e8 ?_
    have tupP : ∀ {a : Addr} {vs : Array Value}, IsTup sA.heap a vs → a ≠ P := fun y z => by
      obtain ⟨_, e, hc1, _, hd1⟩ := y
      rw [z, tabS] at e
      cases e
      cases hd1
    have tup3 : ∀ {a : Addr} {vs : Array Value}, IsTup sA.heap a vs → hC.IsTuple a vs := fun y => by
      have np := tupP y
      obtain ⟨u, e, rr⟩ := y
      exact ⟨u, kC _ _ np e, rr⟩
    have itr3 : hC.IsTupleIter sA.heap.objs.size yl 0 := itr.at fun u e => hx _ u (Nat.ne_of_gt Plt) e
    have tl : ∀ j, j < cs.length → ts.getD j 0 < sA.heap.objs.size := fun j lt => by
      obtain ⟨q, t, u, _, _, z⟩ := tat j lt
      exact IsTup.lt z
    have Wk : ∀ A' : Around, A'.handled = none → WalksU X.prog X.w A' sA.heap.objs.size (sA.heap.objs.size :: yl :: (List.range (ts.map Value.ref).toArray.size).map fun j => ts.getD j 0) [sA.heap.objs.size] (ts.map Value.ref).toArray.size
        (fun j v => v = if j < cs.length then seqOf sA.heap (ts.getD j 0) else #[.none, .none])
        (fun j h => h.IsTupleIter sA.heap.objs.size yl j ∧ h.IsTuple yl (ts.map Value.ref).toArray ∧ ∀ k, k < (ts.map Value.ref).toArray.size → h.IsTuple (ts.getD k 0) (if k < cs.length then seqOf sA.heap (ts.getD k 0) else #[.none, .none]))
        (fun j a h => (j < (ts.map Value.ref).toArray.size ∧ a = ts.getD j 0) ∧ h.IsTupleIter sA.heap.objs.size yl (j + 1) ∧ h.IsTuple yl (ts.map Value.ref).toArray ∧ ∀ k, k < (ts.map Value.ref).toArray.size → h.IsTuple (ts.getD k 0) (if k < cs.length then seqOf sA.heap (ts.getD k 0) else #[.none, .none])) := fun A' hA => by
      refine walk_pairs hA _ _ (Nat.ne_of_lt ylt) _ (fun j => ts.getD j 0) (fun j => if j < cs.length then seqOf sA.heap (ts.getD j 0) else #[.none, .none]) (fun j lt => ?_) fun j lt => ?_
      · obtain ⟨q, t, u, e9, _⟩ := tat j (by omega)
        rw [List.getElem?_toArray, List.getElem?_map, e9]
        rfl
      · exact Nat.ne_of_lt (tl j (by omega))
    refine ⟨sA.heap.objs.size, _, [sA.heap.objs.size], _, _, _, _, (fun _ => true), (fun i y => i < cs.length → ∃ (q : Str × Int) (t : Tok), cs[i]? = some q ∧ y = .str q.1 t), rfl, Wk, fun i vals hv => ?_, ?_, ?_, limA.extBut hx nP, ?_, ?_, ?_⟩
    · rw [hv]
      by_cases lt : i < cs.length
      · obtain ⟨q, t, u, _, _, z⟩ := tat i lt
        rw [if_pos lt, seqOf_at z]
        exact ⟨_, _, rfl⟩
      · rw [if_neg lt]
        exact ⟨_, _, rfl⟩
    · refine ⟨itr3, tup3 pl, fun k lt => ?_⟩
      have lt2 : k < cs.length := by omega
      obtain ⟨q, t, u, _, _, z⟩ := tat k lt2
      rw [if_pos lt2, seqOf_at z]
      exact tup3 z
    · intro b inb
      show b < hC.objs.size
      have z3 : sA.heap.objs.size < hC.objs.size := by omega
      rcases List.mem_cons.mp inb with z | z
      · rw [z]
        exact z3
      · rcases List.mem_cons.mp z with z | z
        · rw [z]
          exact Nat.lt_trans ylt z3
        · obtain ⟨j, ltJ, e9⟩ := List.mem_map.mp z
          have z4 := tl j (by have := List.mem_range.mp ltJ; omega)
          rw [← e9]
          exact Nat.lt_trans z4 z3
    · intro z
      rcases List.mem_cons.mp z with z | z
      · exact Nat.ne_of_lt stl z
      · cases z
    · intro hRef keepR
      refine ⟨fun A' E' i va vb s₂ m₂ hA hPv hn hm hm2 hk => ?_, fun A' E' i va vb s₂ m₂ hA hPv hp hn hm hm2 hk => ?_⟩
      · simp only [List.forIn_nil]
        exact wpAny_pure ⟨rfl, GxR.keeps_refl _⟩
      · refine wpAny_Name (wpAny_loadName_local S.kind S.loc hn hm ?_) nd
        refine ⟨fun lt => ?_, GxR.keeps_refl _⟩
        obtain ⟨q, t, u, _, e9, z⟩ := tat i lt
        rw [if_pos lt, seqOf_at z] at hPv
        refine ⟨q, t, e9, ?_⟩
        injection hPv with e10
        injection e10 with e10
    · intro g hD tkD gN bareG ltG szD kpD WD atG
      simp only [GxR.passing_true, List.length_range] at WD
      rw [n1] at WD atG
      refine hZ cs H1 g _ q1 ⟨_, _, _, _, _, WD.in4_3, atG, ?_, List.mem_cons_self, fun i sS zS => ?_, ?_, fun s' hm => ?_⟩
      · intro b inb
        show b < hD.objs.size
        have y5 : hD.objs.size = g + 1 := szD
        have y8 : hC.objs.size < g := ltG
        rw [y5]
        rcases List.mem_cons.mp inb with z | z
        · rw [z]
          exact Nat.lt_succ_self g
        · rcases List.mem_cons.mp z with z | z
          · rw [z]
            exact Nat.lt_succ_of_lt y8
          · have y7 : b < hC.objs.size := List.mem_range.mp z
            exact Nat.lt_succ_of_lt (Nat.lt_trans y7 y8)
      · obtain ⟨z, _⟩ := zS
        exact z.typeIs
      · intro j v hv
        obtain ⟨i, atI1, e9⟩ := hv
        obtain ⟨ltJ, atE⟩ := List.getElem?_eq_some_iff.mp atI1
        rw [List.getElem_range] at atE
        subst atE
        exact e9 (by rw [List.length_range] at ltJ; exact ltJ)
      · obtain ⟨more, eM⟩ := moreP
        have nowr : ∀ b u, sA.heap.get? b = some u → b ∉ hC.objs.size :: [sA.heap.objs.size] := fun b u e inb => by
          have hl := Heap.lt_size e
          have z3 : sA.heap.objs.size < hC.objs.size := by omega
          rcases List.mem_cons.mp inb with z | z
          · rw [z] at hl
            exact Nat.lt_irrefl _ (Nat.lt_trans hl z3)
          · rcases List.mem_cons.mp z with z | z
            · rw [z] at hl
              exact Nat.lt_irrefl _ hl
            · cases z
        have J := GxR.inv_tab (more := more) (h' := s'.heap) (g' := s'.gens) (d' := s'.drawn) (t' := s'.toks) IA hP (fun b u nb e => hm.heap b u (nowr b u e) (kpD b u (kC b u nb e)))
          (by rw [← eM]; exact hm.heap P _ (nowr P _ tabS) (kpD P _ tabC)) (AllBare.movedS (IA.bare.push bareG) hm)
        rw [GxR.sh_eta sA s' hm.os] at J
        exact ⟨upd H1 P (.tbl (tb0 ++ more)), ⟨⟨tb0 ++ more, upd_same, by rw [← eM]; exact triC⟩, fun b nb => upd_ne nb⟩, J⟩
  cases hf : codeAmong gpos tb0.toList with
  | none =>
    refine wpAny_genexprCodeX code1 (cdh.code tabS2 ht) (cdh.tab tabS2) hf fun c' h' tk hx hge hlt cob _ ctab _ => ?_
    obtain ⟨o1, vs, f1, tf, fl, tg, inq, tx, tt, op, _, _, _, _, _, _, _, _, _, trp, _⟩ := cob
    exact goOn _ h' tk _ hx (Nat.le_trans hge (Nat.le_of_lt hlt)) ctab.2 ⟨_, rfl⟩ trp
  | some cv =>
    refine wpAny_genexprCode_hit code1 (cdh.code tabS2 ht) hf ?_
    exact goOn cv (sA.heap.push o) sA.toks tb0 (Heap.ExtBut.refl _ _) (Nat.le_refl _) tabS2 ⟨#[], by simp⟩ ht
/-- tuple(a for a, b in te) -/
def tTupPairs (P : Addr) (te : TE) : TE := fun σ H Q => te σ H fun v H1 => ∃ (yl : Addr) (ts : List Addr) (cs : List (Str × Int)), v = .ref yl ∧ H1 yl = some (.tup (ts.map V.ref)) ∧ Pairs H1 ts cs ∧ GxR.TabG H1 P ∧
  cs.length ≤ 1000 ∧ ∀ (H2 H3 : Hp) (p : Addr), GxR.Tabbed P H1 H2 → Same H2 H3 → H2 p = none → FT H3 p (cs.map fun q => V.str q.1) → Q (.ref p) H3
end
end K5
namespace K5
open PySem PySem.Spec PyProof.Rows L2
section
variable {X : Cx}
/-- tuple(d) of a dict -/
def tTupKeys (te : TE) : TE := fun σ H Q => te σ H fun x H1 => ∃ (d : Addr) (kvs : List (Key × V)), x = .ref d ∧ H1 d = some (.dK kvs) ∧ ∀ p, H1 p = none → Q (.ref p) (upd H1 p (.tup (kvs.map fun q => kV q.1)))
section
variable {prog : PySem.Program} {w : World} {A : Around} {E : Value → Shared → Prop} {s : Shared} {d : Addr} {ep : Nat}
theorem made_tuple_keys {kvs : List (Key × Value)} {Z : Value → Shared → Prop} (calm : A.handled = none) (lo : (d == sysModules) = false) (at' : s.heap.DictAt (mixKind prog w) d kvs ep) (few : kvs.length ≤ sizeLine)
    (then' : ∀ (h1 : Heap) (tk : Nat) (acc : Array Value), (∀ c u, s.heap.get? c = some u → h1.get? c = some u) → ItemsOf (fun i v => ∃ k x, kvs[i]? = some (k, x) ∧ (mixKind prog w).is k v = true) acc kvs.length →
      Z (.ref h1.objs.size) { s with heap := h1.push { cls := .type "tuple", data := .seq acc }, toks := tk }) :
    codeAny (model prog w) A (.call (.builtin "tuple.__new__") ⟨[.type "tuple", .ref d], []⟩) (wants Z E) s := by
  refine codeAny_of_tree ?_
  show wpAny _ A.in1 (do
    checkBuiltinCall "tuple.__new__" ⟨[.type "tuple", .ref d], []⟩
    again (.builtin "tuple.__new__" ⟨[.type "tuple", .ref d], []⟩)) _ _ s
  have pid := F.plain_tuple_new
  refine wpAny_bind (wpAny_of_eq (F.newCall_tuple_1 _) (wpAny_pure ⟨plainId_quiet pid _, codeAny_builtin F.entry_tuple_new ?_⟩))
  rw [Around.under_plainId pid _]
  have f1 := sub_tuple_self
  have f2 := init_tuple_lookup
  have f3 := madeHere_tuple
  have f4 : s.TypeIs (.ref d) "dict" := at'.dictOf.typeIs
  have f5 : A.in1.handled = none := calm
  wp_walk using wpAny_typeOf f4, PySem.W.kdu_collect (A := A.in1) (PySem.W.kdl_dict (knd := mixKind prog w) (kvs := kvs) (ep := ep) lo) f5 at' few
  intro h1 tk acc keep hio
  show wpAny _ _ (Builtin.Tuple.tupleExact acc.toList.toArray >>= fun x => ret x) _ _ _
  rw [Builtin.Tuple.tupleExact]
  refine wpAny_bind (wpAny_newObj_type ?_ (by show acc.toList.toArray.size ≤ sizeLine; rw [Array.toArray_toList, hio.1]; exact few))
  refine wpAny_pure ?_
  rw [Array.toArray_toList]
  exact then' h1 tk acc keep hio
theorem called_tuple_keys {kvs : List (Key × Value)} {Z : Value → Shared → Prop} (calm : A.handled = none) (lo : (d == sysModules) = false) (at' : s.heap.DictAt (mixKind prog w) d kvs ep) (few : kvs.length ≤ sizeLine)
    (then' : ∀ (h1 : Heap) (tk : Nat) (acc : Array Value), (∀ c u, s.heap.get? c = some u → h1.get? c = some u) → ItemsOf (fun i v => ∃ k x, kvs[i]? = some (k, x) ∧ (mixKind prog w).is k v = true) acc kvs.length →
      Z (.ref h1.objs.size) { s with heap := h1.push { cls := .type "tuple", data := .seq acc }, toks := tk }) :
    wpAny (model prog w) A (call (.type "tuple") [.ref d]) Z E s := by
  refine callType_codes (Q₁ := fun y s1 => s1.TypeIs y "tuple" ∧ Z y s1) F.called_tuple (F.typeCall_tuple_1 _) F.entry_object_init
    (made_tuple_keys (A := A.in1) calm lo at' few fun h1 tk acc k1 k2 => ⟨⟨_, Heap.get?_push_size _ rfl, rfl⟩, then' h1 tk acc k1 k2⟩) fun y s1 z => ?_
  exact ⟨z.1, F.args_object_init_2 y _, object_init_meets F.called_tuple.init.lookup F.called_tuple.made (by decide) prog w A.in1 _ s1 ⟨z.1, rfl, z.2⟩⟩
end
theorem pe_tupKeys {e : Expr} {te : TE} {p pos : Pos} (hc : X.calm = true) (hg : Gl X "tuple") (hm : X.mg "tuple" = none) (he : PE X e te) (na : starEach [e] X.env = (false, eval e X.env) :: starEach [] X.env := by rfl) :
    PE X (.Call (.Name "tuple" p) [e] [] pos) (tTupKeys te) := by
  refine ⟨fun pins s σ H Q I hh0 => ?_⟩
  refine Call_ (ld_blt I hg hm boot_tuple (PyProof.Rows.callWith_type1 (one_arg he I hh0 (fun v s2 x H2 I2 r z => ?_) na) na))
  obtain ⟨d, kvs, rfl, hk, q⟩ := z
  obtain rfl : v = Value.ref d := r
  obtain ⟨zz, lo, vs, rKey, hd⟩ := (show ObjOk X.prog X.w H2 s2.heap d (.dK kvs) from I2.hok d _ hk)
  obtain ⟨ep, hat⟩ := hd.dictAt
  have lenEq : kvs.length = vs.length := Paired.length rKey
  refine called_tuple_keys (kvs := vs) (ep := ep) (I2.ok.hd hc) lo hat (by rw [← lenEq]; exact zz) fun h1 tk acc keep hio => ?_
  have I3 : Inv X pins σ H2 { s2 with heap := h1, toks := tk } := I2.kept (t' := tk) keep
  have rv : Vals (kvs.map fun q => kV q.1) acc.toList := by
    refine vals_of_at (by rw [List.length_map]; exact lenEq.trans hio.1.symm) fun j x w2 e1 e2 => ?_
    obtain ⟨k, y, e3, e4⟩ := hio.2 j w2 (by rw [← Array.getElem?_toList]; exact e2)
    have e5 : (kvs.map (·.1))[j]? = some k := by
      rw [KV.keys rKey, List.getElem?_map, e3]
      rfl
    rw [show (kvs.map fun q => kV q.1) = (kvs.map (·.1)).map kV by rw [List.map_map]; rfl, List.getElem?_map, e5] at e1
    cases e1
    exact keyIs_rel e4
  refine ⟨.ref h1.objs.size, _, I3.laid (t' := tk) (o := .tup (kvs.map fun q => kV q.1)) (fun c o e => Heap.get?_push_of_some _ e) (Nat.le_refl _) ⟨by rw [List.length_map]; exact zz, acc.toList, rv, ?_⟩, rfl, q _ (I3.hok.fresh (Nat.le_refl _))⟩
  rw [Array.toArray_toList]
  exact IsTup.new _ _
theorem pe_tupPairs {c P : Addr} {iter : Expr} {xa xb : Str} {px pa pb pt gpos p pos : Pos} {kt : Nat} {scope : Scope} {te : TE} {k : Nat}
    (hr : Room k X.A) (TB : GxR.TabB X.base X.mg c P) (code1 : X.env.code = .ref c) (S : GxR.GenS X.env scope xa) (loc2 : scope.names.lookup xb = some .local) (ab : xa ≠ xb) (nd : (xa == ("__debug__" : Str)) = false) (it : PE X iter te)
    (fold : ∀ v, genFold iter X.env v = pure v) (hg : Gl X "tuple") (hm : X.mg "tuple" = none)
    (star1 : starEach [.GeneratorExp (.Name xa px) [⟨.Tuple [.Name xa pa, .Name xb pb] kt pt, iter, [], 0⟩] scope gpos] X.env = (false, eval (.GeneratorExp (.Name xa px) [⟨.Tuple [.Name xa pa, .Name xb pb] kt pt, iter, [], 0⟩] scope gpos) X.env) :: starEach [] X.env := by rfl) :
    PE X (.Call (.Name "tuple" p) [.GeneratorExp (.Name xa px) [⟨.Tuple [.Name xa pa, .Name xb pb] kt pt, iter, [], 0⟩] scope gpos] [] pos) (tTupPairs P te) := by
  refine ⟨fun pins s σ H Q I hh0 => ?_⟩
  refine wpAny_Call_Name_kw (ld_blt I hg hm boot_tuple ?_)
  refine PyProof.Rows.callWith_type1 ?_ star1 rfl
  rw [star1]
  show wpAny _ _ (spliced ((false, eval (.GeneratorExp (.Name xa px) [⟨.Tuple [.Name xa pa, .Name xb pb] kt pt, iter, [], 0⟩] scope gpos) X.env) :: backTo pos (starEach [] X.env))) _ _ s
  refine Calls.spliced_cons (gen_pairs (R := fun cs H1 => cs.length ≤ 1000 ∧ ∀ (H2 H3 : Hp) (p : Addr), GxR.Tabbed P H1 H2 → Same H2 H3 → H2 p = none → FT H3 p (cs.map fun (q : Str × Int) => V.str q.1) → Q (.ref p) H3) hr TB code1 S loc2 ab nd it fold I hh0 fun cs H1 g s5 hR hG => ?_)
  refine Calls.spliced_nil ?_
  obtain ⟨fp, wr, G, F, St, W, hst, hfp, hgf, hT, hF, hinv⟩ := hG
  obtain ⟨few, q⟩ := hR
  have few2 : cs.length ≤ sizeLine := Nat.le_trans few (by decide)
  refine call_tuple_gen (n := cs.length) W hT hst hfp hgf (fun s' acc hm2 hio => ?_) (hsz := few2)
  obtain ⟨H2, tb, J⟩ := hinv s' hm2
  have rv : Vals (cs.map fun q => V.str q.1) acc.toList := by
    refine vals_of_at (by rw [List.length_map, Array.length_toList]; exact hio.1.symm) fun j x u e1 e2 => ?_
    obtain ⟨q0, t, e3, e4⟩ := hF j u (hio.2 j u (by rw [← Array.getElem?_toList]; exact e2))
    rw [List.getElem?_map, e3] at e1
    cases e1
    exact ⟨t, e4⟩
  have nf : H2 s'.heap.objs.size = none := J.hok.fresh (Nat.le_refl _)
  have new : Inv X pins σ (upd H2 s'.heap.objs.size (.frz { cls := .type "tuple", data := .seq acc } (.tup (cs.map fun q => V.str q.1)))) { s' with heap := s'.heap.push { cls := .type "tuple", data := .seq acc } } := by
    refine J.laid (t' := s'.toks) (fun c o e => Heap.get?_push_of_some _ e) (Nat.le_refl _) ⟨Heap.get?_push_size _ rfl, ?_⟩
    refine ⟨by rw [List.length_map]; exact few2, acc.toList, rv, ?_⟩
    rw [Array.toArray_toList]
    exact IsTup.new _ _
  exact ⟨.ref s'.heap.objs.size, _, new, rfl, q _ _ _ tb (same_upd nf) nf ⟨_, upd_same, rfl⟩⟩
end
end K5
namespace K5
open PySem PySem.Spec PyProof.Rows L2
abbrev s_Part___init__ : Stmt := inClass (topS 22) 0
theorem sc_Part___init__ : FnScope ["self", "worths", "text", "lines", "program", "name", "_"] ["self", "worths", "text"] (defScope s_Part___init__) := ⟨rfl, rfl, rfl, by decide +kernel, rfl, by decide +kernel, by decide +kernel⟩
/-- a def whose code object is at c -/
structure FunT (K : PySem.W.Frag) (x qual : Str) (st : Stmt) (f : Addr) (fd : FuncData) (c : Addr) : Prop where
  ex : ∃ (oc : Value) (od : Option Addr) (kV doc pm : Value) (an : Option Addr) (ct : Value) (osl : Array (Option Value)),
    fd = PySem.W.fnOf x qual (defArgs st) (defBody st) (defScope st) .none kV doc pm an (.ref c) ct ∧ K.lookup f = some ⟨oc, od, .func fd, osl⟩ ∧ PySem.W.codeIn K (.ref c) qual = true
  kp : PySem.W.keepIn K (.ref f) = true
theorem FunT.okC {P : Program} {w : World} {K : PySem.W.Frag} {mg : Str → Option Value} {base : Heap} {x qual : Str} {st : Stmt} {f c : Addr} {fd : FuncData} {N ps : List Str} {k : Nat} {sp : Sp} (F : FunT K x qual st f fd c) (S : FnScope N ps (defScope st)) (len : ∀ vs H Q E, sp vs H Q E → vs.length = ps.length)
    (hbody : ∀ (A : Around) (outer : List Env) (s : Shared) (H : Hp) (vs : List V) (Q : VK) (E : XK), Room k (A.deeper (envOfC qual (defScope st) s.heap.objs.size f (.ref c))) → sp vs H Q E →
      ∃ t, PSs (cxOf (L2.CX P w) P w K mg base N qual (defScope st) f (.ref c) A outer s H E) (defBody st) t ∧ t { nx := fun _ H' => Q .non H', rt := Q } (start N vs) H) : FnOk P w K mg base (L2.CX P w) (k + 1) f fd ps sp := by
  obtain ⟨oc, od, kV, doc, pm, an, ct, osl, e, l1, l2⟩ := F.ex
  subst e
  exact fn_of l1 l2 S len hbody
/-! ### a part -/
def partR (wn : Int) (rows : List Str) : Except Nat (List (Str × Int) × List Str × List Str) :=
  match cellsR rows wn 4 0 [] with
  | .error n => .error n
  | .ok (n1, cs) => match portsR rows 3 n1 [] with
    | .error n => .error n
    | .ok (n2, ps) => match doorsR ⟨rows, wn, cs.map (·.1), ps⟩ 4 n2 0 [] with
      | .error n => .error n
      | .ok (n3, ds) => if n3 = rows.length then .ok (cs, ps, ds) else .error n3
def KeepP (a P : Addr) (H H' : Hp) : Prop := ∀ b o, b ≠ P → b ≠ a → H b = some o → H' b = some o
def ErrP (a P C : Addr) (v : V) (H : Hp) (E : XK) : Prop := ∀ (d : Addr) (H' : Hp), KeepP a P H H' → GxR.TabG H' P → H' d = some (.xd [(("value" : Str), v)]) → E (.ref C) (some d) H'
def partF (x y : V) (ct pt sd dt stp ak : Addr) : List (Str × V) := [("worths", x), ("text", y), ("cells", .ref ct), ("ports", .ref pt), ("starts", .ref sd), ("doors", .ref dt), ("steps", .ref stp), ("asks", .ref ak)]
def OkP (a P C da : Addr) (x y : V) (cs : List (Str × Int)) (ps ds : List Str) (H : Hp) (Q : VK) : Prop := ∀ (H' : Hp) (ct pt sd dt stp ak : Addr) (ts : List Addr), KeepP a P H H' → GxR.TabG H' P → H' a = some (.ins C da (partF x y ct pt sd dt stp ak)) →
  H' ct = some (.tup (ts.map V.ref)) → Pairs H' ts cs → H' pt = some (.tup (ps.map V.str)) → H' dt = some (.tup (ds.map V.str)) → Q .non H'
def spPart (P C CT CW : Addr) : Sp := fun vs H Q E => ∃ (a da : Addr) (x y : V) (Tx Ty : String), vs = [.ref a, x, y] ∧ H a = some (.ins C da []) ∧ Kd H x Tx ∧ Kd H y Ty ∧ GxR.TabG H P ∧ a ≠ P ∧
  (worthsOk x = false → ErrP a P CW x H E) ∧ ∀ wn : Int, x = .int wn → worthsOk x = true → (isS y = false → ErrP a P CT (.int (-1)) H E) ∧ ∀ z : Str, y = .str z → z.length ≤ 10000 ∧ PyData.strOk z = true ∧
    match partR wn (rowsOf z) with
    | .ok (cs, ps, ds) => OkP a P C da x y cs ps ds H Q
    | .error n => ErrP a P CT (.int n) H E
def hide (H : Hp) (L : List Addr) : Hp := fun b => if b ∈ L then none else H b
theorem hide_in {H : Hp} {L : List Addr} {b : Addr} (h : b ∈ L) : hide H L b = none := if_pos h
theorem hide_out {H : Hp} {L : List Addr} {b : Addr} (h : b ∉ L) : hide H L b = H b := if_neg h
theorem hide_same {H : Hp} {L : List Addr} : Same (hide H L) H := fun b o e => by
  by_cases h : b ∈ L
  · rw [hide_in h] at e
    cases e
  · rw [hide_out h] at e
    exact e
theorem errOf {a P C : Addr} {v : V} {H Hk : Hp} {E : XK} {L : List Addr} (h : ErrP a P C v H E) (keep : KeepP a P H Hk) (tab : GxR.TabG Hk P) (hL : ∀ b ∈ L, b = a ∨ H b = none) (hP : P ∉ L) : ErrK C v (hide Hk L) E := fun d H' s _ hd => by
  refine h d H' (fun b o n1 n2 e => s b o ?_) ?_ hd
  · have nl : b ∉ L := fun z => by
      rcases hL b z with q | q
      · exact n2 q
      · rw [q] at e
        cases e
    rw [hide_out nl]
    exact keep b o n1 n2 e
  · obtain ⟨ps, h1, h2⟩ := tab
    exact ⟨ps, s _ _ (by rw [hide_out hP]; exact h1), h2⟩
theorem errOf0 {a P C : Addr} {v : V} {H Hk : Hp} {E : XK} (h : ErrP a P C v H E) (keep : KeepP a P H Hk) (tab : GxR.TabG Hk P) : ErrK C v Hk E := fun d H' s _ hd => by
  refine h d H' (fun b o n1 n2 e => s b o (keep b o n1 n2 e)) ?_ hd
  obtain ⟨ps, h1, h2⟩ := tab
  exact ⟨ps, s _ _ h1, h2⟩
theorem tup_ne {zs : List V} {C d : Addr} {f : List (Str × V)} : HO.tup zs ≠ .ins C d f := fun e => nomatch e
theorem pairs_to {H H' : Hp} {ts : List Addr} {cs : List (Str × Int)} (h : Pairs H ts cs) (k : ∀ b zs, H b = some (.tup zs) → H' b = some (.tup zs)) : Pairs H' ts cs := paired_imp (fun t q e => k t _ e) h
theorem fld_via {K : PySem.W.Frag} {D : Ends} {σ : L2.St} {H : Hp} {f : Str} {to te : TE} (h : te σ H fun v H' => sFld K to (tC v) f D σ H') : sFld K to te f D σ H := h
structure ClT (K : PySem.W.Frag) (C : Addr) : Prop where
  cl : Cls K C
  na : ∀ x ∈ (["worths", "text", "cells", "ports", "starts", "doors", "steps", "asks"] : List Str), NoAttr K C x
section
variable {P : Program} {w : World} {K : PySem.W.Frag} {mg : Str → Option Value} {base : Heap} {CL CP CT CW Pt c TB : Addr} {fBegins fWords fStep fNeed fName fDoor fNum : Addr} {dBegins dWords dStep dNeed dName dDoor dNum : FuncData}
theorem ok_Part_init {f fW fL fE fC fQ fG fD fN : Addr} {fd dW dL dE dC dQ dG dD dN : FuncData} (N : En4 P w K mg base CL CT fBegins fWords fStep fNeed fName fDoor fNum dBegins dWords dStep dNeed dName dDoor dNum) (C : ClP K CP) (CC : ClT K Pt) (F : FunT K "__init__" "Part.__init__" s_Part___init__ f fd c) (TB1 : GxR.TabB base mg c TB)
    (TW : Er K mg "BadWorths" CW fE) (GE : FnOk P w K mg base CX0 1 fE dE ["self", "value"] (spErr K)) (bE : Binds K dE ["self", "value"] [])
    (Dw : Df K mg "is_worths" s_is_worths fW dW ["value"]) (Gw : FnOk P w K mg base CX0 2 fW dW ["value"] spIsWorths)
    (ML : Mk K CL fL) (gL : mg "Lines" = some (.ref CL)) (bL : Binds K dL ["self", "text"] []) (GL : FnOk P w K mg base (L2.CX P w) 4 fL dL ["self", "text"] (spLinesInit CL CT))
    (Dc : Df K mg "read_cells" s_read_cells fC dC ["lines", "worths"]) (Gc : FnOk P w K mg base (L2.CX P w) 5 fC dC ["lines", "worths"] (spCells CL CT))
    (Dq : Df K mg "read_ports" s_read_ports fQ dQ ["lines"]) (Gq : FnOk P w K mg base (L2.CX P w) 5 fQ dQ ["lines"] (spPorts CL CT))
    (MG : Mk K CP fG) (gG : mg "Program" = some (.ref CP)) (bG : Binds K dG ["self", "lines", "worths", "cells", "ports"] []) (GG : FnOk P w K mg base CX0 1 fG dG ["self", "lines", "worths", "cells", "ports"] (spProgram CP))
    (Dd : Df K mg "read_doors" s_read_doors fD dD ["lines", "program"]) (Gd : FnOk P w K mg base (L2.CX P w) 21 fD dD ["lines", "program"] (spDoors CL CP CT))
    (Me : Mf K CL "need_end" "Lines.need_end" s_Lines_need_end fN dN ["self"]) (Ge : FnOk P w K mg base (L2.CX P w) 5 fN dN ["self"] (spNeedEnd CL CT)) :
    FnOk P w K mg base (L2.CX P w) 22 f fd ["self", "worths", "text"] (spPart TB Pt CT CW) := by
  refine F.okC sc_Part___init__ (fun vs H Q E h => ?_) (fun A0 outer s H vs Q E hr h => ?_)
  · obtain ⟨a, da, x, y, Tx, Ty, rfl, _⟩ := h
    rfl
  · obtain ⟨a, da, x, y, Tx, Ty, rfl, ha, hx, hy, tab, naP, kW, k⟩ := h
    have S := sc_Part___init__
    refine ⟨_, (pss_cons (ps_if (pt_not (pt_val (pe_call Gw (hr.mono (by decide)) (by rfl) Dw.g Dw.F.kp Dw.b .nil pass0 (pa_cons (pv 1) pa_nil))))
        (pss_one (ps_raise rfl (takes_of rfl rfl rfl rfl) (pmk_oex TW.O TW.iC TW.tI GE (hr.mono (by decide)) bE .nil pass0 (by rfl) TW.g (pa_cons (pv 1) pa_nil))))
        pss_nil)
      (pss_cons (ps_set (i := 3) S.nd rfl (.inl rfl) (pe_make ML GL (hr.mono (by decide)) (by rfl) gL bL .nil (pxp rfl rfl rfl rfl) (pa_cons (pv 2) pa_nil)))
      (pss_cons (ps_fld (pv 0) (pv 1) rfl)
      (pss_cons (ps_fld (pv 0) (pv 2) rfl)
      (pss_cons (ps_fld (pv 0) (pe_call Gc (hr.mono (by decide)) (by rfl) Dc.g Dc.F.kp Dc.b .nil (pxp rfl rfl rfl rfl) (pa_cons (pv 3) (pa_cons (pv 1) pa_nil))) rfl)
      (pss_cons (ps_fld (pv 0) (pe_call Gq (hr.mono (by decide)) (by rfl) Dq.g Dq.F.kp Dq.b .nil (pxp rfl rfl rfl rfl) (pa_cons (pv 3) pa_nil)) rfl)
      (pss_cons (ps_set (i := 4) S.nd rfl (.inl rfl) (pe_make MG GG (hr.mono (by decide)) (by rfl) gG bG .nil pass0 (pa_cons (pv 3) (pa_cons (pv 1) (pa_cons (pe_tupPairs hr TB1 rfl ⟨rfl, rfl, by decide +kernel, by decide +kernel, by decide +kernel, fun y hy e => absurd e ((show ∀ y ∈ ([(".0", .local), ("name", .local), ("_", .local)] : List (Str × NameKind)), y.2 ≠ .free by decide +kernel) y hy)⟩ (by decide +kernel) (by decide +kernel) (by decide +kernel) (pe_fld (pv 0) rfl) (fun _ => rfl) (by rfl) N.B.m_tuple) (pa_cons (pe_fld (pv 0) rfl) pa_nil))))))
      (pss_cons (ps_fld (pv 0) (pe_call Gd (hr.mono (by decide)) (by rfl) Dd.g Dd.F.kp Dd.b .nil (pxp rfl rfl rfl rfl) (pa_cons (pv 3) (pa_cons (pv 4) pa_nil))) rfl)
      (pss_cons (ps_expr (pe_meth0 (pv 3) N.L.cl Me.m Ge (hr.mono (by decide)) Me.b .nil (pxp rfl rfl rfl rfl)))
      (pss_cons (ps_fld (pv 0) (pe_tupKeys rfl (by rfl) N.B.m_tuple (pe_fld (pv 0) rfl)) rfl)
      (pss_cons (ps_fld (pv 0) (pe_tupleOf (by rfl) N.B.m_tuple (pe_fld (pv 4) rfl)) rfl)
      (pss_one (ps_fld (pv 0) (pe_fld (pv 4) rfl) rfl))))))))))))), ?_⟩
    have na : ∀ n : Str, n ∈ (["worths", "text", "cells", "ports", "starts", "doors", "steps", "asks"] : List Str) → NoAttr K Pt n := CC.na
    refine (val_call (va_cons (val_var rfl) va_nil) fun Q q => ⟨x, Tx, rfl, hx, q⟩) _ ⟨_, rfl, ?_⟩
    cases hw : worthsOk x with
    | false =>
      refine iteT ?_
      exact raise_run TW.O TW.nv (val_var rfl) (errOf0 (kW hw) (fun b o _ _ e => e) tab)
    | true =>
      refine iteF ?_
      obtain ⟨wn, rfl⟩ : ∃ wn, x = .int wn := by
        cases hx with
        | int i => exact ⟨i, rfl⟩
        | _ => exact absurd (show false = true from hw) Bool.false_ne_true
      obtain ⟨kS, kz⟩ := k wn rfl hw
      dsimp only [tNext, tSeq, tAsg, tDrop]
      refine (val_var rfl) _ ?_
      refine fun l dl nl ndl ne => ?_
      have n0 : (upd H dl (.own l)) l = none := by
        rw [upd_ne ne.symm]
        exact nl
      have sL : Same H (upd (upd H dl (.own l)) l (.ins CL dl [])) := (same_upd ndl).trans (same_upd n0)
      have hlL : (upd (upd H dl (.own l)) l (.ins CL dl [])) l = some (.ins CL dl []) := upd_same
      generalize (upd (upd H dl (.own l)) l (.ins CL dl [])) = HL at sL hlL
      have tabL : GxR.TabG HL TB := by
        obtain ⟨q, h1, h2⟩ := tab
        exact ⟨q, sL _ _ h1, h2⟩
      refine ⟨l, dl, y, Ty, rfl, hlL, hy.mono sL, fun z ez => ?_, fun e => errOf0 (kS e) (fun b o _ _ e => sL b o e) tabL⟩
      obtain ⟨hz, hok, kk⟩ := kz z ez
      refine ⟨hz, fun H1 r sb1 _ li1 => ⟨rfl, ?_⟩⟩
      have s01 : Same H H1 := fun b o e => sb1 b o (ne_of_none e nl) (sL b o e)
      have sz : Sz (rowsOf z) := sz_rows hz hok
      have nla : l ≠ a := (ne_of_none ha nl).symm
      have nlT : l ≠ TB := fun e => by
        obtain ⟨q, h1, _⟩ := tab
        rw [← e, nl] at h1
        cases h1
      dsimp only [gName]
      -- worths, text
      refine fld_new [] (val_var rfl) (val_var rfl) (s01 _ _ ha) CC.cl (na _ (by decide +kernel)) rfl (by decide +kernel) (by decide) fun H2 sb2 a2 => ?_
      refine fld_new ["worths"] (val_var rfl) (val_var rfl) a2 CC.cl (na _ (by decide +kernel)) rfl (by decide +kernel) (by decide) fun H3 sb3 a3 => ?_
      have sb13 := sb2.trans sb3
      have nra : r ≠ a := ne_of li1.r (s01 _ _ ha) (fun e => nomatch e)
      have li3 : LinesAt CL H3 l dl r (rowsOf z) 0 := ⟨sb13 _ _ nla li1.o, sb13 _ _ nra li1.r, li1.le⟩
      have k3 : KeepP a TB H H3 := fun b o _ n2 e => sb13 b o n2 (s01 b o e)
      have tab3 : GxR.TabG H3 TB := by
        obtain ⟨q, h1, h2⟩ := tab
        exact ⟨q, sb13 _ _ naP.symm (s01 _ _ h1), h2⟩
      -- cells
      unfold partR at kk
      dsimp only [tSeq]
      refine fld_via ?_
      dsimp only [tCall, tCons, tNil]
      refine (val_var rfl) _ ?_
      refine (val_var rfl) _ ?_
      refine ⟨hide H3 [l], l, dl, r, rowsOf z, 0, wn, rfl, hide_same, hide_in (by simp), li3, sz, ?_⟩
      cases ec : cellsR (rowsOf z) wn 4 0 [] with
      | error n =>
        rw [ec] at kk
        exact errOf kk k3 tab3 (fun b hb => .inr (by rw [List.mem_singleton.mp hb]; exact nl)) (fun hb => nlT (List.mem_singleton.mp hb).symm)
      | ok p =>
        obtain ⟨n1, cs⟩ := p
        rw [ec] at kk
        dsimp only at kk
        intro H4 ct ts s4 li4 _ hct hts lcs
        have f4 : ∀ b o, b ≠ l → H3 b = some o → H4 b = some o := fun b o n e => s4 b o (by rw [hide_out (fun q => n (List.mem_singleton.mp q))]; exact e)
        refine fld_new ["worths", "text"] val_c (val_var rfl) (f4 _ _ nla.symm a3) CC.cl (na _ (by decide +kernel)) rfl (by decide +kernel) (by decide) fun H5 sb5 a5 => ?_
        have k5 : KeepP a TB H H5 := fun b o n1 n2 e => sb5 b o n2 (f4 b o (ne_of_none e nl) (k3 b o n1 n2 e))
        have tab5 : GxR.TabG H5 TB := by
          obtain ⟨q, h1, h2⟩ := tab3
          exact ⟨q, sb5 _ _ naP.symm (f4 _ _ nlT.symm h1), h2⟩
        have f4b : ∀ b o, H4 b = some o → (∀ d f, o ≠ .ins Pt d f) → H5 b = some o := fun b o e n => sb5 b o (ne_of e (f4 _ _ nla.symm a3) fun q => n _ _ q) e
        have hct5 := f4b _ _ hct (fun d f e => nomatch e)
        have hts5 : Pairs H5 ts cs := pairs_to hts fun b zs e => f4b _ _ e (fun d f => tup_ne)
        have li5 : LinesAt CL H5 l dl r (rowsOf z) n1 := ⟨sb5 _ _ nla li4.o, sb5 _ _ nra li4.r, li4.le⟩
        clear hct hts li4 f4b
        -- ports
        dsimp only [tSeq]
        refine fld_via ?_
        dsimp only [tCall, tCons, tNil]
        refine (val_var rfl) _ ?_
        refine ⟨hide H5 [l], l, dl, r, rowsOf z, n1, rfl, hide_same, hide_in (by simp), li5, sz, ?_⟩
        cases ep : portsR (rowsOf z) 3 n1 [] with
        | error n =>
          rw [ep] at kk
          exact errOf kk k5 tab5 (fun b hb => .inr (by rw [List.mem_singleton.mp hb]; exact nl)) (fun hb => nlT (List.mem_singleton.mp hb).symm)
        | ok p =>
          obtain ⟨n2, ps⟩ := p
          rw [ep] at kk
          dsimp only at kk
          intro H6 pt s6 li6 _ hpt lps
          have f6 : ∀ b o, b ≠ l → H5 b = some o → H6 b = some o := fun b o n e => s6 b o (by rw [hide_out (fun q => n (List.mem_singleton.mp q))]; exact e)
          refine fld_new ["worths", "text", "cells"] val_c (val_var rfl) (f6 _ _ nla.symm a5) CC.cl (na _ (by decide +kernel)) rfl (by decide +kernel) (by decide) fun H7 sb7 a7 => ?_
          have k7 : KeepP a TB H H7 := fun b o n1 n2 e => sb7 b o n2 (f6 b o (ne_of_none e nl) (k5 b o n1 n2 e))
          have f6b : ∀ b o, H6 b = some o → (∀ d f, o ≠ .ins Pt d f) → H7 b = some o := fun b o e n => sb7 b o (ne_of e (f6 _ _ nla.symm a5) fun q => n _ _ q) e
          have f6c : ∀ b o, H5 b = some o → (∀ d f, o ≠ .ins Pt d f) → (∀ d f, o ≠ .ins CL d f) → H7 b = some o := fun b o e n n2 => f6b b o (f6 b o (ne_of e li5.o fun q => n2 _ _ q) e) n
          have tab7 : GxR.TabG H7 TB := by
            obtain ⟨q, h1, h2⟩ := tab5
            exact ⟨q, f6c _ _ h1 (fun d f e => nomatch e) (fun d f e => nomatch e), h2⟩
          have hct7 := f6c _ _ hct5 (fun d f e => nomatch e) (fun d f e => nomatch e)
          have hts7 : Pairs H7 ts cs := pairs_to hts5 fun b zs e => f6c _ _ e (fun d f => tup_ne) (fun d f => tup_ne)
          have hpt7 := f6b _ _ hpt (fun d f e => nomatch e)
          have li7 : LinesAt CL H7 l dl r (rowsOf z) n2 := ⟨sb7 _ _ nla li6.o, sb7 _ _ nra li6.r, li6.le⟩
          clear hct5 hts5 hpt li6 f6b f6c
          -- the program
          dsimp only [tSeq]
          dsimp only [tAsg, tMake, tCall, tCons, tNil]
          refine (val_var rfl) _ ?_
          refine (val_var rfl) _ ?_
          have a7' : H7 a = some (.ins Pt da [("worths", .int wn), ("text", y), ("cells", .ref ct), ("ports", .ref pt)]) := a7
          refine (val_fld (val_var rfl) a7' CC.cl (na "cells" (by decide +kernel)) ((lk_tl (by decide +kernel)).trans ((lk_tl (by decide +kernel)).trans lk_hd))) _ ?_
          refine ⟨ct, ts, cs, rfl, hct7, hts7, tab7, Nat.le_trans lcs (by decide), fun H8 H9 nt tb8 s89 _ ft9 => ?_⟩
          have f79 : ∀ b o, H7 b = some o → (∀ q, o ≠ .tbl q) → H9 b = some o := fun b o e n => by
            have nb : b ≠ TB := fun q => by
              obtain ⟨qq, h1, _⟩ := tab7
              rw [q, h1] at e
              exact n _ (Option.some.inj e).symm
            refine s89 _ _ ?_
            rw [tb8.2 b nb]
            exact e
          have k9 : KeepP a TB H H9 := fun b o n1 n2 e => s89 _ _ (by rw [tb8.2 b n1]; exact k7 b o n1 n2 e)
          have tab9 : GxR.TabG H9 TB := by
            obtain ⟨⟨q, h1, h2⟩, _⟩ := tb8
            exact ⟨q, s89 _ _ h1, h2⟩
          have a9 := f79 _ _ a7' (fun q e => nomatch e)
          have hct9 := f79 _ _ hct7 (fun q e => nomatch e)
          have hpt9 := f79 _ _ hpt7 (fun q e => nomatch e)
          have hts9 : Pairs H9 ts cs := pairs_to hts7 fun b zs e => f79 _ _ e (fun q e => nomatch e)
          have li9 : LinesAt CL H9 l dl r (rowsOf z) n2 := ⟨f79 _ _ li7.o (fun q e => nomatch e), f79 _ _ li7.r (fun q e => nomatch e), li7.le⟩
          clear hct7 hpt7 hts7 li7 f79 a7 a7'
          refine (val_fld (val_var rfl) a9 CC.cl (na "ports" (by decide +kernel)) ((lk_tl (by decide +kernel)).trans ((lk_tl (by decide +kernel)).trans ((lk_tl (by decide +kernel)).trans lk_hd)))) _ ?_
          refine fun g dg ng ndg neg => ?_
          have g0 : (upd H9 dg (.own g)) g = none := by
            rw [upd_ne neg.symm]
            exact ng
          have sG : Same H9 (upd (upd H9 dg (.own g)) g (.ins CP dg [])) := (same_upd ndg).trans (same_upd g0)
          have hgG : (upd (upd H9 dg (.own g)) g (.ins CP dg [])) g = some (.ins CP dg []) := upd_same
          generalize (upd (upd H9 dg (.own g)) g (.ins CP dg [])) = HG at sG hgG
          refine ⟨l, g, dg, nt, pt, wn, rfl, hgG, fun H10 st ak sb10 nst nak hg10 hst10 hak10 => ⟨rfl, ?_⟩⟩
          dsimp only [gName]
          have f10 : ∀ b o, H9 b = some o → H10 b = some o := fun b o e => sb10 b o (ne_of_none e ng) (sG b o e)
          have ng9 : ∀ b o, H9 b = some o → b ≠ l → b ∉ [l, g, st, ak] := fun b o e nl hb => by
            simp only [List.mem_cons, List.not_mem_nil, or_false] at hb
            rcases hb with q | q | q | q
            · exact nl q
            · exact ne_of_none e ng q
            · exact ne_of_none (sG _ _ e) nst q
            · exact ne_of_none (sG _ _ e) nak q
          have ft10 := ft9.mono f10
          have li10 : LinesAt CL H10 l dl r (rowsOf z) n2 := li9.mono f10
          have e1 : (cs.map fun (q : Str × Int) => V.str q.1) = (cs.map (·.1)).map V.str := by
            rw [List.map_map]
            rfl
          rw [e1] at ft10
          have pw : Wd CL CP ⟨l, dl, r, g, dg, nt, pt, st, ak⟩ ⟨rowsOf z, wn, cs.map (·.1), ps⟩ (hide H10 [l, g, st, ak]) H10 n2 0 [] [] := {
            s0 := hide_same
            l0 := hide_in (by simp)
            g0 := hide_in (by simp)
            st0 := hide_in (by simp)
            ak0 := hide_in (by simp)
            lg := ne_of_none li9.o ng
            li := li10
            pg := hg10
            ct := ft10
            pt := f10 _ _ hpt9
            st := hst10
            sx := fun x hx => nomatch hx
            ak := hak10
            rst := ne_of_none (sG _ _ li9.r) nst }
          have k10 : KeepP a TB H H10 := fun b o n1 n2 e => f10 _ _ (k9 b o n1 n2 e)
          have tab10 : GxR.TabG H10 TB := by
            obtain ⟨q, h1, h2⟩ := tab9
            exact ⟨q, f10 _ _ h1, h2⟩
          have tb9 := tab9
          -- the doors
          dsimp only [tSeq]
          refine fld_via ?_
          dsimp only [tCall, tCons, tNil]
          refine (val_var rfl) _ ?_
          refine (val_var rfl) _ ?_
          refine ⟨⟨l, dl, r, g, dg, nt, pt, st, ak⟩, ⟨rowsOf z, wn, cs.map (·.1), ps⟩, hide H10 [l, g, st, ak], n2, rfl, pw, ⟨sz, by rw [List.length_map]; exact lcs, lps⟩, ?_⟩
          have hL : ∀ b ∈ [l, g, st, ak], b = a ∨ H b = none := fun b hb => by
            cases e : H b with
            | none => exact .inr rfl
            | some o =>
              by_cases c1 : b = a
              · exact .inl c1
              · by_cases c2 : b = TB
                · obtain ⟨q, h1, _⟩ := tb9
                  rw [← c2] at h1
                  exact absurd hb (ng9 b _ h1 (fun z => by rw [z, nl] at e; cases e))
                · exact absurd hb (ng9 b _ (k9 b o c2 c1 e) (fun z => by rw [z, nl] at e; cases e))
          have hP : TB ∉ [l, g, st, ak] := by
            obtain ⟨q, h1, _⟩ := tb9
            exact ng9 _ _ h1 nlT.symm
          cases ed : doorsR ⟨rowsOf z, wn, cs.map (·.1), ps⟩ 4 n2 0 [] with
          | error n =>
            rw [ed] at kk
            exact errOf kk k10 tab10 hL hP
          | ok p =>
            obtain ⟨n3, ds⟩ := p
            rw [ed] at kk
            dsimp only at kk
            intro H11 m xs kvs sd cs2 p11 lxs _ hsd hds lds _
            have f11 : ∀ b o, b ≠ l → H9 b = some o → H11 b = some o := fun b o nl2 e => p11.s0 _ _ (by rw [hide_out (ng9 b o e nl2)]; exact f10 _ _ e)
            have a11 := f11 _ _ nla.symm a9
            have gna : g ≠ a := (ne_of_none a9 ng).symm
            have hds2 : (dOf V.int cs2).map (fun q => kV q.1) = ds.map V.str := by
              rw [← hds]
              unfold dOf
              rw [List.map_map, List.map_map]
              rfl
            refine fld_new ["worths", "text", "cells", "ports"] val_c (val_var rfl) a11 CC.cl (na _ (by decide +kernel)) rfl (by decide +kernel) (by decide) fun H12 sb12 a12 => ?_
            have li12 : LinesAt CL H12 l dl r (rowsOf z) n3 := ⟨sb12 _ _ nla p11.li.o, sb12 _ _ nra p11.li.r, p11.li.le⟩
            have k11 : KeepP a TB H H11 := fun b o n1 n2 e => f11 _ _ (fun q => by rw [q, nl] at e; cases e) (k9 b o n1 n2 e)
            have tab11 : GxR.TabG H11 TB := by
              obtain ⟨q, h1, h2⟩ := tb9
              exact ⟨q, f11 _ _ nlT.symm h1, h2⟩
            dsimp only [tSeq, tDrop]
            refine meth0_run (val_var rfl) li12.o (lf_no (by decide +kernel) (by decide +kernel)) ?_
            refine ⟨l, dl, r, rowsOf z, n3, rfl, li12, fun e => ?_, fun e => ?_⟩
            · rw [if_pos e] at kk
              refine fld_via ?_
              have a12' : H12 a = some (.ins Pt da [("worths", .int wn), ("text", y), ("cells", .ref ct), ("ports", .ref pt), ("starts", .ref sd)]) := a12
              refine (val_fld (val_var rfl) a12' CC.cl (na "starts" (by decide +kernel)) ((lk_tl (by decide +kernel)).trans ((lk_tl (by decide +kernel)).trans ((lk_tl (by decide +kernel)).trans ((lk_tl (by decide +kernel)).trans lk_hd))))) _ ?_
              refine ⟨sd, _, rfl, sb12 _ _ (ne_of hsd a11 (fun e => nomatch e)) hsd, fun dt ndt => ?_⟩
              rw [hds2]
              have s13 := same_upd (o := .tup (ds.map V.str)) ndt
              have dt13 : (upd H12 dt (.tup (ds.map V.str))) dt = some (.tup (ds.map V.str)) := upd_same
              generalize (upd H12 dt (.tup (ds.map V.str))) = H13 at s13 dt13
              have nda : dt ≠ a := (ne_of_none a12' ndt).symm
              refine fld_new ["worths", "text", "cells", "ports", "starts"] val_c (val_var rfl) (s13 _ _ a12') CC.cl (na _ (by decide +kernel)) rfl (by decide +kernel) (by decide) fun H14 sb14 a14 => ?_
              have f14 : ∀ b o, b ≠ a → H11 b = some o → H14 b = some o := fun b o n e => sb14 b o n (s13 _ _ (sb12 b o n e))
              dsimp only [tSeq]
              refine fld_via ?_
              refine (val_fld (val_var rfl) (f14 _ _ gna p11.pg) C.cl C.steps pf_steps) _ ?_
              refine .inl ⟨st, xs, rfl, SqL.of (f14 _ _ (ne_of p11.st a11 (fun e => nomatch e)) p11.st), fun q nq => ?_⟩
              have s15 := same_upd (o := .tup xs) nq
              generalize (upd H14 q (.tup xs)) = H15 at s15
              refine fld_new ["worths", "text", "cells", "ports", "starts", "doors"] val_c (val_var rfl) (s15 _ _ a14) CC.cl (na _ (by decide +kernel)) rfl (by decide +kernel) (by decide) fun H16 sb16 a16 => ?_
              have f16 : ∀ b o, b ≠ a → H11 b = some o → H16 b = some o := fun b o n e => sb16 b o n (s15 _ _ (f14 b o n e))
              refine fld_new ["worths", "text", "cells", "ports", "starts", "doors", "steps"] (val_fld (val_var rfl) (f16 _ _ gna p11.pg) C.cl C.asks pf_asks) (val_var rfl) a16 CC.cl (na _ (by decide +kernel)) rfl (by decide +kernel) (by decide) fun H17 sb17 a17 => ?_
              have f17 : ∀ b o, b ≠ a → H11 b = some o → H17 b = some o := fun b o n e => sb17 b o n (f16 b o n e)
              have t17 : ∀ b zs, H9 b = some (.tup zs) → H17 b = some (.tup zs) := fun b zs e => f17 b _ (ne_of e a9 tup_ne) (f11 _ _ (ne_of e li9.o tup_ne) e)
              refine kk H17 ct pt sd dt q ak ts (fun b o n1 n2 e => f17 b o n2 (k11 b o n1 n2 e)) ?_ a17 (t17 _ _ hct9) (pairs_to hts9 t17) (t17 _ _ hpt9) ?_
              · obtain ⟨q2, h1, h2⟩ := tab11
                exact ⟨q2, f17 _ _ naP.symm h1, h2⟩
              · exact sb17 _ _ nda (sb16 _ _ nda (s15 _ _ (sb14 _ _ nda dt13)))
            · rw [if_neg e] at kk
              refine errOf0 kk (fun b o n1 n2 e => sb12 b o n2 (k11 b o n1 n2 e)) ?_
              obtain ⟨q2, h1, h2⟩ := tab11
              exact ⟨q2, sb12 _ _ naP.symm h1, h2⟩
end
end K5
namespace K5
open PySem PySem.Spec PyProof.Rows L2
/-! ### lists of texts that are built -/
def LsAt (H : Hp) (p : Addr) (ws : List Str) : Prop := H p = some (.lst (ws.map V.str))
/-- the list of texts ws is made, in whatever heap holds what H holds -/
def LV (te : TE) (σ : L2.St) (H : Hp) (ws : List Str) : Prop := ∀ (H1 : Hp) (Q : VK), Same H H1 → (∀ (H' : Hp) (p : Addr), Same H1 H' → LsAt H' p ws → Q (.ref p) H') → te σ H1 Q
/-- the text z, likewise -/
def SV (te : TE) (σ : L2.St) (H : Hp) (z : Str) : Prop := ∀ (H1 : Hp), Same H H1 → Val te σ H1 (.str z)
section
variable {K : PySem.W.Frag} {σ : L2.St} {H : Hp} {ta tb : TE} {ws us : List Str} {z y : Str} {p : Addr} {j : Nat}
theorem SV.c : SV (tC (.str z)) σ H z := fun H1 _ => val_c
theorem SV.v (h : σ[j]? = some (some (.str z))) : SV (tVar j) σ H z := fun H1 _ => val_var h
def rAddS : R2 := fun x y H Q => ∃ i j, x = .str i ∧ y = .str j ∧ i.length + j.length ≤ sizeLine ∧ Q (.str (i ++ j)) H
theorem SV.add (ha : SV ta σ H z) (hb : SV tb σ H y) (hz : z.length + y.length ≤ 10000000) : SV (tOp rAddS ta tb) σ H (z ++ y) := fun H1 s => val_op (ha H1 s) (hb H1 s) fun Q q => ⟨z, y, rfl, rfl, big_size hz, q⟩
theorem LV.v (h : σ[j]? = some (some (.ref p))) (hp : LsAt H p ws) : LV (tVar j) σ H ws := fun H1 Q s q => (val_var h) _ (q H1 p (Same.refl _) (s _ _ hp))
theorem LV.cat (ha : LV ta σ H ws) (hb : LV tb σ H us) (hz : ws.length + us.length ≤ 1000) : LV (tOp rCat ta tb) σ H (ws ++ us) := fun H1 Q s q => ha H1 _ s fun H2 p1 s2 h1 => hb H2 _ (s.trans s2) fun H3 p2 s3 h2 => by
  refine ⟨p1, p2, ws.map V.str, us.map V.str, rfl, rfl, s3 _ _ h1, h2, by rw [List.length_map, List.length_map]; exact Nat.le_trans hz (by decide), fun p np => q _ p ((s2.trans s3).trans (same_upd np)) ?_⟩
  unfold LsAt
  rw [upd_same, List.map_append]
theorem LV.rep {k : Nat} (ha : LV ta σ H ws) (hk : k ≤ 100) (hz : ws.length ≤ 100) : LV (tOp rRep ta (tC (.int k))) σ H (List.replicate k ws).flatten := fun H1 Q s q => ha H1 _ s fun H2 p1 s2 h1 => by
  refine ⟨p1, k, ws.map V.str, rfl, rfl, h1, by omega, by omega, ?_, fun p np => q _ p (s2.trans (same_upd np)) ?_⟩
  · rw [List.length_map, Int.toNat_natCast]
    exact Nat.le_trans (Nat.mul_le_mul hz hk) (by decide)
  · unfold LsAt
    rw [upd_same, List.map_flatten, List.map_replicate, Int.toNat_natCast]
def OV (t : TO) (σ : L2.St) (o : Option Int) : Prop := ∀ (H : Hp) (Q : Option Int → Hp → Prop), Q o H → t σ H Q
theorem OV.no : OV tNoPart σ none := fun _ _ q => q
theorem OV.yes {te : TE} {i : Int} (h : ∀ H : Hp, Val te σ H (.int i)) : OV (tPart te) σ (some i) := fun H Q q => (h H) _ ⟨i, rfl, q⟩
def cutL {α : Type} (xs : List α) (lo hi : Option Int) : List α := (xs.drop (HT.sIx xs.length 0 lo)).take (HT.sIx xs.length xs.length hi - HT.sIx xs.length 0 lo)
theorem cutV_map (lo hi : Option Int) : cutV (ws.map V.str) lo hi = (cutL ws lo hi).map V.str := by
  unfold cutV cutL
  rw [List.length_map, List.map_take, List.map_drop]
theorem LV.cut {lo hi : Option Int} {tl th : TO} (ha : LV ta σ H ws) (hl : OV tl σ lo) (hh : OV th σ hi) : LV (tSl (rSlL K) ta tl th) σ H (cutL ws lo hi) := fun H1 Q s q => ha H1 _ s fun H2 p1 s2 h1 => hl _ _ (hh _ _ ⟨p1, _, rfl, SqL.of h1, fun p np => q _ p (s2.trans (same_upd np)) (by
  unfold LsAt
  rw [upd_same, cutV_map])⟩)
/-- a text, and the line that is bad -/
def CsAt (H : Hp) (p : Addr) (c : List Str × Int) : Prop := ∃ b, H p = some (.tup [.ref b, .int c.2]) ∧ LsAt H b c.1
theorem CsAt.mono {H H' : Hp} {c : List Str × Int} (h : CsAt H p c) (s : Same H H') : CsAt H' p c := by
  obtain ⟨b, h1, h2⟩ := h
  exact ⟨b, s _ _ h1, s _ _ h2⟩
def CV (te : TE) (σ : L2.St) (H : Hp) (c : List Str × Int) : Prop := ∀ (H1 : Hp) (Q : VK), Same H H1 → (∀ (H' : Hp) (p : Addr), Same H1 H' → CsAt H' p c → Q (.ref p) H') → te σ H1 Q
theorem CV.mk {i : Int} (ha : LV ta σ H ws) (hb : ∀ H : Hp, Val tb σ H (.int i)) : CV (tTup (tCons ta (tCons tb tNil))) σ H (ws, i) := fun H1 Q s q => ha H1 _ s fun H2 b s2 h1 => (hb H2) _ ⟨by show 2 ≤ sizeLine; decide, fun p np => q _ p (s2.trans (same_upd np)) ⟨b, upd_same, (same_upd np) _ _ h1⟩⟩
/-- a list of such -/
def CsList (H : Hp) (xs : List V) (cs : List (List Str × Int)) : Prop := Paired (fun x c => ∃ p, x = V.ref p ∧ CsAt H p c) xs cs
theorem CsList.mono {H H' : Hp} {xs : List V} {cs : List (List Str × Int)} (h : CsList H xs cs) (s : Same H H') : CsList H' xs cs := paired_imp (fun x c ⟨p, e, h⟩ => ⟨p, e, h.mono s⟩) h
theorem LV.nil : LV (tLst tNil) σ H [] := fun H1 Q _ q => ⟨Nat.zero_le _, fun p np => q _ p (same_upd np) upd_same⟩
theorem LV.one (ha : SV ta σ H z) : LV (tLst (tCons ta tNil)) σ H [z] := fun H1 Q s q => (ha H1 s) _ ⟨by show 1 ≤ sizeLine; decide, fun p np => q _ p (same_upd np) upd_same⟩
theorem LV.two (ha : SV ta σ H z) (hb : SV tb σ H y) : LV (tLst (tCons ta (tCons tb tNil))) σ H [z, y] := fun H1 Q s q => (ha H1 s) _ ((hb H1 s) _ ⟨by show 2 ≤ sizeLine; decide, fun p np => q _ p (same_upd np) upd_same⟩)
end
end K5
namespace K5
open PySem PySem.Spec PyProof.Rows L2
/-! ### drawn blocks -/
inductive Sg
  | n (k : Nat)
  | w (z : Str)
def Sg.v : Sg → V
  | .n k => .int (k : Nat)
  | .w z => .str z
def Sg.t : Sg → Str
  | .n k => toString ((k : Nat) : Int)
  | .w z => z
inductive Bl
  | nil
  | pl (l : List Sg) (r : Bl)
  | wh (c : List Sg) (b r : Bl)
  | iff (c : List Sg) (b e r : Bl)
namespace Bl
def sz : Bl → Nat
  | nil => 0
  | pl _ r => 1 + r.sz
  | wh _ b r => 1 + b.sz + r.sz
  | iff _ b e r => 1 + b.sz + e.sz + r.sz
def len : Bl → Nat
  | nil => 0
  | pl _ r => 1 + r.len
  | wh _ _ r => 1 + r.len
  | iff _ _ _ r => 1 + r.len
def app : Bl → Bl → Bl
  | nil, s => s
  | pl l r, s => pl l (r.app s)
  | wh c b r, s => wh c b (r.app s)
  | iff c b e r, s => iff c b e (r.app s)
theorem sz_app : ∀ (a s : Bl), (a.app s).sz = a.sz + s.sz
  | nil, s => by simp [app, sz]
  | pl l r, s => by simp only [app, sz, sz_app r s]; omega
  | wh c b r, s => by simp only [app, sz, sz_app r s]; omega
  | iff c b e r, s => by simp only [app, sz, sz_app r s]; omega
theorem len_app : ∀ (a s : Bl), (a.app s).len = a.len + s.len
  | nil, s => by simp [app, len]
  | pl l r, s => by simp only [app, len, len_app r s]; omega
  | wh c b r, s => by simp only [app, len, len_app r s]; omega
  | iff c b e r, s => by simp only [app, len, len_app r s]; omega
end Bl
def TupK (H H' : Hp) : Prop := ∀ (a : Addr) (xs : List V), H a = some (.tup xs) → H' a = some (.tup xs)
def BlV (H : Hp) : Bl → List V → Prop
  | .nil, xs => xs = []
  | .pl l r, xs => ∃ (p : Addr) (ys : List V), xs = .ref p :: ys ∧ H p = some (.tup (l.map Sg.v)) ∧ BlV H r ys
  | .wh c b r, xs => ∃ (p q t : Addr) (zs ys : List V), xs = .ref p :: ys ∧ H p = some (.tup [.str "while", .ref q, .ref t]) ∧ H q = some (.tup (c.map Sg.v)) ∧ H t = some (.tup zs) ∧ BlV H b zs ∧ BlV H r ys
  | .iff c b e r, xs => ∃ (p q t u : Addr) (zs ws ys : List V), xs = .ref p :: ys ∧ H p = some (.tup [.str "if", .ref q, .ref t, .ref u]) ∧ H q = some (.tup (c.map Sg.v)) ∧ H t = some (.tup zs) ∧ H u = some (.tup ws) ∧ BlV H b zs ∧ BlV H e ws ∧ BlV H r ys
theorem BlV.mono {H H' : Hp} (k : TupK H H') : ∀ {B : Bl} {xs : List V}, BlV H B xs → BlV H' B xs
  | .nil, xs, h => h
  | .pl l r, xs, h => by
    obtain ⟨p, ys, e, h1, h2⟩ := h
    exact ⟨p, ys, e, k _ _ h1, h2.mono k⟩
  | .wh c b r, xs, h => by
    obtain ⟨p, q, t, zs, ys, e, h1, h2, h3, h4, h5⟩ := h
    exact ⟨p, q, t, zs, ys, e, k _ _ h1, k _ _ h2, k _ _ h3, h4.mono k, h5.mono k⟩
  | .iff c b e r, xs, h => by
    obtain ⟨p, q, t, u, zs, ws, ys, ex, h1, h2, h3, h4, h5, h6, h7⟩ := h
    exact ⟨p, q, t, u, zs, ws, ys, ex, k _ _ h1, k _ _ h2, k _ _ h3, k _ _ h4, h5.mono k, h6.mono k, h7.mono k⟩
theorem BlV.len {H : Hp} : ∀ {B : Bl} {xs : List V}, BlV H B xs → xs.length = B.len
  | .nil, xs, h => by rw [show xs = [] from h]; rfl
  | .pl l r, xs, h => by
    obtain ⟨p, ys, e, h1, h2⟩ := h
    rw [e, List.length_cons, h2.len, Bl.len, Nat.add_comm]
  | .wh c b r, xs, h => by
    obtain ⟨p, q, t, zs, ys, e, h1, h2, h3, h4, h5⟩ := h
    rw [e, List.length_cons, h5.len, Bl.len, Nat.add_comm]
  | .iff c b e r, xs, h => by
    obtain ⟨p, q, t, u, zs, ws, ys, ex, h1, h2, h3, h4, h5, h6, h7⟩ := h
    rw [ex, List.length_cons, h7.len, Bl.len, Nat.add_comm]
theorem BlV.app {H : Hp} {S : Bl} {us : List V} (hs : BlV H S us) : ∀ {B : Bl} {xs : List V}, BlV H B xs → BlV H (B.app S) (xs ++ us)
  | .nil, xs, h => by rw [show xs = [] from h]; exact hs
  | .pl l r, xs, h => by
    obtain ⟨p, ys, e, h1, h2⟩ := h
    exact ⟨p, ys ++ us, by rw [e]; rfl, h1, hs.app h2⟩
  | .wh c b r, xs, h => by
    obtain ⟨p, q, t, zs, ys, e, h1, h2, h3, h4, h5⟩ := h
    exact ⟨p, q, t, zs, ys ++ us, by rw [e]; rfl, h1, h2, h3, h4, hs.app h5⟩
  | .iff c b e r, xs, h => by
    obtain ⟨p, q, t, u, zs, ws, ys, ex, h1, h2, h3, h4, h5, h6, h7⟩ := h
    exact ⟨p, q, t, u, zs, ws, ys ++ us, by rw [ex]; rfl, h1, h2, h3, h4, h5, h6, hs.app h7⟩
/-! ### what a block of a part can have -/
def okSg (m : Nat) (cs : List Str) : Sg → Prop
  | .n k => k < m
  | .w z => z ∈ cs ∨ z = "it" ∨ z = "got"
def okC (m : Nat) (cs : List Str) (c : List Sg) : Prop := c = [.w "lost"] ∨ c = [.w "busy"] ∨ ∃ (o : Str) (a b : Sg), c = [.w o, a, b] ∧ (o = "=" ∨ o = "!=") ∧ okSg m cs a ∧ okSg m cs b
def okP (m : Nat) (cs ps : List Str) (l : List Sg) : Prop := (∃ (p d : Str) (s : Sg), l = [.w "ask", .w p, .w d, s] ∧ p ∈ ps ∧ (d = "get" ∨ d = "pay" ∨ d = "door") ∧ okSg m cs s) ∨
  (∃ (c : Str) (s : Sg), l = [.w "set", .w c, s] ∧ c ∈ cs ∧ okSg m cs s) ∨ (∃ (c : Str) (s : Sg), l = [.w "add", .w c, s] ∧ c ∈ cs ∧ okSg m cs s) ∨ (∃ c : Str, l = [.w "draw", .w c] ∧ c ∈ cs) ∨ l = [.w "fail"] ∨ ∃ s : Sg, l = [.w "answer", s] ∧ okSg m cs s
/-- a block whose statements stand at depth d -/
def okB (m : Nat) (cs ps : List Str) (d : Nat) : Bl → Prop
  | .nil => True
  | .pl l r => okP m cs ps l ∧ okB m cs ps d r
  | .wh c b r => d < 3 ∧ okC m cs c ∧ (∃ (p e : Str) (s : Sg) (b' : Bl), b = .pl [.w "ask", .w p, .w e, s] b') ∧ b.len ≤ 3 ∧ okB m cs ps (d + 1) b ∧ okB m cs ps d r
  | .iff c b e r => d < 3 ∧ okC m cs c ∧ 1 ≤ b.len ∧ b.len ≤ 3 ∧ e.len ≤ 2 ∧ okB m cs ps (d + 1) b ∧ okB m cs ps (d + 1) e ∧ okB m cs ps d r
theorem okB_app {m : Nat} {cs ps : List Str} {d : Nat} {S : Bl} (hs : okB m cs ps d S) : ∀ {B : Bl}, okB m cs ps d B → okB m cs ps d (B.app S)
  | .nil, h => hs
  | .pl l r, h => ⟨h.1, okB_app hs h.2⟩
  | .wh c b r, h => ⟨h.1, h.2.1, h.2.2.1, h.2.2.2.1, h.2.2.2.2.1, okB_app hs h.2.2.2.2.2⟩
  | .iff c b e r, h => ⟨h.1, h.2.1, h.2.2.1, h.2.2.2.1, h.2.2.2.2.1, h.2.2.2.2.2.1, h.2.2.2.2.2.2.1, okB_app hs h.2.2.2.2.2.2.2⟩
/-! ### what the draws hold -/
def NmOk (z : Str) : Prop := PyData.strOk z = true ∧ z.length ≤ 10 ∧ 32 ∉ z.cps.toList ∧ 10 ∉ z.cps.toList ∧ z ≠ ""
structure Gd where
  (b h cA pA : Addr) (q : Int) (m : Nat) (cs ps : List Str)
def hrD (A : Gd) (l : Nat) : List (Key × V) := [(.inr "worths", .int (A.m : Nat)), (.inr "cells", .ref A.cA), (.inr "ports", .ref A.pA), (.inr "left", .int (l : Nat))]
structure Gs (A : Gd) (H0 H : Hp) (n l : Nat) : Prop where
  k2 : ∀ x o, x ≠ A.b → x ≠ A.h → H0 x = some o → H x = some o
  bx : ∃ (p n' : Int), H A.b = some (.lst (bx p A.q n')) ∧ Box p A.q n' ∧ n' ≤ n
  he : H A.h = some (.dK (hrD A l))
  c : H A.cA = some (.lst (A.cs.map V.str))
  p : H A.pA = some (.lst (A.ps.map V.str))
  cb : A.cA ≠ A.b
  pb : A.pA ≠ A.b
  m4 : A.m ≤ 4
  c3 : A.cs.length ≤ 3
  p2 : A.ps.length ≤ 2
  ns : ∀ z, z ∈ A.cs ∨ z ∈ A.ps → NmOk z
section
variable {A : Gd} {H0 H H' : Hp} {n l n' l' : Nat}
theorem Gs.bh (g : Gs A H0 H n l) : A.b ≠ A.h := by
  obtain ⟨p, n', h, _⟩ := g.bx
  exact ne_of h g.he fun e => nomatch e
theorem Gs.ch (g : Gs A H0 H n l) : A.cA ≠ A.h := ne_of g.c g.he fun e => nomatch e
theorem Gs.ph (g : Gs A H0 H n l) : A.pA ≠ A.h := ne_of g.p g.he fun e => nomatch e
theorem Gs.start (g : Gs A H0 H n l) : Gs A H H n l := { g with k2 := fun _ _ _ _ e => e }
theorem Gs.trans (g : Gs A H0 H n l) (g' : Gs A H H' n' l') : Gs A H0 H' n' l' := { g' with k2 := fun x o n1 n2 e => g'.k2 x o n1 n2 (g.k2 x o n1 n2 e) }
theorem Gs.le (g : Gs A H0 H n l) (h : n ≤ n') : Gs A H0 H n' l := { g with
  bx := by
    obtain ⟨p, i, h1, h2, h3⟩ := g.bx
    exact ⟨p, i, h1, h2, by omega⟩ }
theorem Gs.mono (g : Gs A H0 H n l) (s : Same H H') : Gs A H0 H' n l := { g with
  k2 := fun x o n1 n2 e => s _ _ (g.k2 x o n1 n2 e)
  bx := by
    obtain ⟨p, n', h1, h2⟩ := g.bx
    exact ⟨p, n', s _ _ h1, h2⟩
  he := s _ _ g.he
  c := s _ _ g.c
  p := s _ _ g.p }
/-- the start's own b and h are no tuples -/
theorem Gs.tup (g : Gs A H H n l) (g' : Gs A H H' n' l') : TupK H H' := fun a xs e => by
  obtain ⟨p, i, h, _⟩ := g.bx
  exact g'.k2 a _ (ne_of e h (fun e => nomatch e)) (ne_of e g.he (fun e => nomatch e)) e
end
theorem kne {y z : Str} {v : V} (h : ¬ y = z) : ¬ ((Sum.inr y : Key), v).fst = Sum.inr z := fun e => h (Sum.inr.inj e)
theorem hr_w {A : Gd} {l : Nat} : valV (hrD A l) (.inr "worths") = some (.int (A.m : Nat)) := valV_pos rfl
theorem hr_c {A : Gd} {l : Nat} : valV (hrD A l) (.inr "cells") = some (.ref A.cA) := (valV_neg (kne (by decide +kernel))).trans (valV_pos rfl)
theorem hr_p {A : Gd} {l : Nat} : valV (hrD A l) (.inr "ports") = some (.ref A.pA) := (valV_neg (kne (by decide +kernel))).trans ((valV_neg (kne (by decide +kernel))).trans (valV_pos rfl))
theorem hr_l {A : Gd} {l : Nat} : valV (hrD A l) (.inr "left") = some (.int (l : Nat)) := (valV_neg (kne (by decide +kernel))).trans ((valV_neg (kne (by decide +kernel))).trans ((valV_neg (kne (by decide +kernel))).trans (valV_pos rfl)))
section
variable {A : Gd} {H0 H : Hp} {n l j : Nat} {σ : L2.St}
theorem Gs.vw (g : Gs A H0 H n l) (h : σ[j]? = some (some (.ref A.h))) : Val (tDGet (tVar j) (tC (.str "worths"))) σ H (.int (A.m : Nat)) := fun Q q => (val_var h) _ (val_c _ ⟨A.h, _, rfl, (hr_w (A := A) (l := l)) ▸ DGet.k (k := .inr "worths") g.he, q⟩)
theorem Gs.vc (g : Gs A H0 H n l) (h : σ[j]? = some (some (.ref A.h))) : Val (tDGet (tVar j) (tC (.str "cells"))) σ H (.ref A.cA) := fun Q q => (val_var h) _ (val_c _ ⟨A.h, _, rfl, (hr_c (A := A) (l := l)) ▸ DGet.k (k := .inr "cells") g.he, q⟩)
theorem Gs.vp (g : Gs A H0 H n l) (h : σ[j]? = some (some (.ref A.h))) : Val (tDGet (tVar j) (tC (.str "ports"))) σ H (.ref A.pA) := fun Q q => (val_var h) _ (val_c _ ⟨A.h, _, rfl, (hr_p (A := A) (l := l)) ▸ DGet.k (k := .inr "ports") g.he, q⟩)
theorem Gs.vl (g : Gs A H0 H n l) (h : σ[j]? = some (some (.ref A.h))) : Val (tDGet (tVar j) (tC (.str "left"))) σ H (.int (l : Nat)) := fun Q q => (val_var h) _ (val_c _ ⟨A.h, _, rfl, (hr_l (A := A) (l := l)) ▸ DGet.k (k := .inr "left") g.he, q⟩)
end
end K5
namespace K5
open PySem PySem.Spec PyProof.Rows L2
abbrev E0' : XK := E0
section
variable {A : Gd} {H0 H : Hp} {n l i : Nat} {σ : L2.St} {tm : TE} {m : Int} {Q : VK}
theorem Gs.take (g : Gs A H0 H n l) (hv : σ[i]? = some (some (.ref A.b))) (hm : Val tm σ H (.int m)) (m0 : 0 < m) (m1 : m < 1000000) (hn : n < 1000000)
    (k : ∀ (H' : Hp) (d : Int), 0 ≤ d → d < m → Gs A H0 H' (n + 1) l → SameBut A.b H H' → Q (.int d) H') : tCall spTake [] E0 (tCons (tVar i) (tCons tm tNil)) σ H Q := by
  obtain ⟨p, n', hb, B, le⟩ := g.bx
  dsimp only [tCall, tCons, tNil]
  refine (val_var hv) _ ?_
  refine hm _ ?_
  refine ⟨A.b, m, p, A.q, n', rfl, hb, B, by omega, m0, m1, fun d p' n'' d0 d1 B2 h2 => k _ d d0 d1 ?_ (SameBut.upd _ _ _)⟩
  have bh := g.bh
  refine { g with k2 := fun x o n1 n2 e => ?_, bx := ⟨p', n'', upd_same, B2, by omega⟩, he := ?_, c := ?_, p := ?_ }
  · rw [upd_ne n1]
    exact g.k2 x o n1 n2 e
  · rw [upd_ne bh.symm]
    exact g.he
  · rw [upd_ne g.cb]
    exact g.c
  · rw [upd_ne g.pb]
    exact g.p
end
/-! ### a drawn thing of a list -/
abbrev s__law_of : Stmt := topS 29
theorem sc__law_of : FnScope ["_law_box_here", "_law_some_here"] ["_law_box_here", "_law_some_here"] (defScope s__law_of) := ⟨rfl, rfl, rfl, by decide +kernel, rfl, by decide +kernel, by decide +kernel⟩
def spOf : Sp := fun vs H Q _ => ∃ (A : Gd) (n l : Nat) (p : Addr) (xs : List V), vs = [.ref A.b, .ref p] ∧ Gs A H H n l ∧ H p = some (.lst xs) ∧ p ≠ A.b ∧ 0 < xs.length ∧ xs.length ≤ 1000 ∧ n < 1000000 ∧
  ∀ (H' : Hp) (x : V), x ∈ xs → Gs A H H' (n + 1) l → SameBut A.b H H' → Q x H'
section
variable {P : Program} {w : World} {K : PySem.W.Frag} {mg : Str → Option Value} {base : Heap}
theorem ok_of {f fT : Addr} {fd fdT : FuncData} (B : Bt mg) (D : Df K mg "_law_of" s__law_of f fd ["_law_box_here", "_law_some_here"]) (D__law_take : Df K mg "_law_take" sTake fT fdT ["_law_box_here", "_law_many"]) :
    FnOk P w K mg base CX0 2 f fd ["_law_box_here", "_law_some_here"] spOf := by
  have G__law_take : FnOk P w K mg base CX0 1 fT fdT ["_law_box_here", "_law_many"] spTake := ok_take (CX := CX0) D__law_take.F B.m_int
  refine D.F.ok sc__law_of (fun vs H Q E h => ?_) (fun cdv A outer s H vs Q E hr h => ?_)
  · obtain ⟨A, n, l, p, xs, rfl, _⟩ := h
    rfl
  · obtain ⟨G, n, l, p, xs, rfl, g, hp, np, l0, l1, hn, k⟩ := h
    have S := sc__law_of
    refine ⟨_, (pss_one (ps_ret (pe_ix ix_list (pv 1) (pe_call G__law_take (hr.mono (by decide)) (by rfl) D__law_take.g D__law_take.F.kp D__law_take.b .nil pass0 (pa_cons (pv 0) (pa_cons (pe_callB call_len_seq (by rfl) B.m_len PySem.boot_len (pa_cons (pv 1) pa_nil)) pa_nil))) (fun _ _ => rfl)))), ?_⟩
    dsimp only [tRet, tOp]
    refine (val_var rfl) _ ?_
    refine g.take rfl (val_lenL (val_var rfl) (SqL.of hp)) (by omega) (by omega) hn fun H' d d0 d1 g' sb => ?_
    have hj : d.toNat < xs.length := by omega
    exact ⟨p, xs, d, xs[d.toNat], rfl, rfl, SqL.of (sb _ _ np hp), at_of (j := d.toNat) (by omega) (List.getElem?_eq_getElem hj), k H' _ (List.getElem_mem hj) g' sb⟩
end
section
variable {A : Gd} {H0 H : Hp} {n l i : Nat} {σ : L2.St} {te : TE} {p : Addr} {xs : List V} {Q : VK}
/-- the list of texts zs is laid, then one of it drawn -/
theorem Gs.of (g : Gs A H0 H n l) (hv : σ[i]? = some (some (.ref A.b))) (hp : H p = some (.lst xs)) (ht : Val te σ H (.ref p)) (np : p ≠ A.b) (l0 : 0 < xs.length) (l1 : xs.length ≤ 1000) (hn : n < 1000000)
    (k : ∀ (H' : Hp) (x : V), x ∈ xs → Gs A H0 H' (n + 1) l → SameBut A.b H H' → Q x H') : tCall spOf [] E0 (tCons (tVar i) (tCons te tNil)) σ H Q := by
  dsimp only [tCall, tCons, tNil]
  refine (val_var hv) _ ?_
  refine ht _ ?_
  exact ⟨A, n, l, p, xs, rfl, g.start, hp, np, l0, l1, hn, fun H' x hx g' sb => k H' x hx (g.trans g') sb⟩
/-- one of some written texts -/
theorem Gs.lit {zs : List Str} (g : Gs A H0 H n l) (hv : σ[i]? = some (some (.ref A.b))) (ht : LV te σ H zs) (l0 : 0 < zs.length) (l1 : zs.length ≤ 1000) (hn : n < 1000000)
    (k : ∀ (H' : Hp) (z : Str), z ∈ zs → Gs A H0 H' (n + 1) l → SameBut A.b H H' → Q (.str z) H') : tCall spOf [] E0 (tCons (tVar i) (tCons te tNil)) σ H Q := by
  dsimp only [tCall, tCons, tNil]
  refine (val_var hv) _ ?_
  refine ht H _ (Same.refl _) fun H1 p s1 hp => ?_
  obtain ⟨pb, n', hb, _⟩ := g.bx
  have np : p ≠ A.b := fun e => by
    have q := s1 _ _ hb
    unfold LsAt at hp
    rw [← e, hp] at q
    injection q with q
    injection q with q
    cases zs with
    | nil => cases q
    | cons z zs => cases q
  have g1 := g.mono s1
  refine ⟨A, n, l, p, zs.map V.str, rfl, g1.start, hp, np, by rw [List.length_map]; exact l0, by rw [List.length_map]; exact l1, hn, fun H' x hx g' sb => ?_⟩
  obtain ⟨z, hz, rfl⟩ := List.mem_map.mp hx
  exact k H' z hz (g1.trans g') (fun a o na e => sb a o na (s1 _ _ e))
end
/-! ### a drawn sign -/
abbrev s__law_sign : Stmt := topS 34
theorem sc__law_sign : FnScope ["_law_box_here", "_law_here"] ["_law_box_here", "_law_here"] (defScope s__law_sign) := ⟨rfl, rfl, rfl, by decide +kernel, rfl, by decide +kernel, by decide +kernel⟩
def spSign : Sp := fun vs H Q _ => ∃ (A : Gd) (n l : Nat), vs = [.ref A.b, .ref A.h] ∧ Gs A H H n l ∧ n < 1000000 ∧
  ∀ (H' : Hp) (s : Sg), okSg A.m A.cs s → Gs A H H' (n + 1) l → SameBut A.b H H' → Q s.v H'
theorem mem_sign {m : Nat} {cs : List Str} {x : V} (h : x ∈ rgV 0 (m : Nat) ++ (List.replicate (2 : Int).toNat (cs.map V.str)).flatten ++ [V.str "it", V.str "it", V.str "got"]) : ∃ s : Sg, x = s.v ∧ okSg m cs s := by
  rw [List.mem_append, List.mem_append] at h
  rcases h with (h | h) | h
  · unfold rgV at h
    obtain ⟨i, hi, rfl⟩ := List.mem_map.mp h
    refine ⟨.n i, by show V.int _ = V.int _; rw [Int.zero_add], ?_⟩
    have := List.mem_range.mp hi
    show i < m
    omega
  · obtain ⟨ys, hy, hx⟩ := List.mem_flatten.mp h
    rw [(List.mem_replicate.mp hy).2] at hx
    obtain ⟨z, hz, rfl⟩ := List.mem_map.mp hx
    exact ⟨.w z, rfl, .inl hz⟩
  · simp only [List.mem_cons, List.not_mem_nil, or_false] at h
    rcases h with rfl | rfl | rfl
    · exact ⟨.w "it", rfl, .inr (.inl rfl)⟩
    · exact ⟨.w "it", rfl, .inr (.inl rfl)⟩
    · exact ⟨.w "got", rfl, .inr (.inr rfl)⟩
section
variable {P : Program} {w : World} {K : PySem.W.Frag} {mg : Str → Option Value} {base : Heap}
theorem ok_sign {f fO : Addr} {fd fdO : FuncData} (B : Bt mg) (D : Df K mg "_law_sign" s__law_sign f fd ["_law_box_here", "_law_here"]) (D__law_of : Df K mg "_law_of" s__law_of fO fdO ["_law_box_here", "_law_some_here"])
    (G__law_of : FnOk P w K mg base CX0 2 fO fdO ["_law_box_here", "_law_some_here"] spOf) : FnOk P w K mg base CX0 3 f fd ["_law_box_here", "_law_here"] spSign := by
  refine D.F.ok sc__law_sign (fun vs H Q E h => ?_) (fun cdv A outer s H vs Q E hr h => ?_)
  · obtain ⟨A, n, l, rfl, _⟩ := h
    rfl
  · obtain ⟨G, n, l, rfl, g, hn, k⟩ := h
    have S := sc__law_sign
    refine ⟨_, (pss_one (ps_ret (pe_call G__law_of (hr.mono (by decide)) (by rfl) D__law_of.g D__law_of.F.kp D__law_of.b .nil pass0 (pa_cons (pv 0) (pa_cons (pe_op op_cat (pe_op op_cat (pe_listRg (by rfl) (by rfl) B.m_list (prg_1 (by rfl) B.m_range (pe_dget (hu_of hr) (pv 1) pe_str (fun _ _ => rfl)))) (pe_op op_rep (pe_dget (hu_of hr) (pv 1) pe_str (fun _ _ => rfl)) pe_int)) (pe_lst (pa_cons pe_str (pa_cons pe_str (pa_cons pe_str pa_nil))))) pa_nil))))), ?_⟩
    dsimp only [tRet, tCall, tOp, tCons, tNil, tLst, tLstRg, tRg1]
    refine (val_var rfl) _ ?_
    have m4 := g.m4
    refine (g.vw (j := 1) rfl) _ ⟨_, rfl, RgOk.of_le (by omega) (by omega) (by omega) (by omega), fun q nq => ?_⟩
    have s1 := same_upd (o := .lst (rgV 0 (G.m : Nat))) nq
    have hq : (upd H q (.lst (rgV 0 (G.m : Nat)))) q = some (.lst (rgV 0 (G.m : Nat))) := upd_same
    generalize (upd H q (.lst (rgV 0 (G.m : Nat)))) = H1 at s1 hq
    have g1 := g.mono s1
    have c3 := g.c3
    refine (g1.vc (j := 1) rfl) _ (val_c _ ⟨G.cA, 2, G.cs.map V.str, rfl, rfl, g1.c, by decide, by decide, ?_, fun q2 nq2 => ?_⟩)
    · rw [List.length_map]
      exact Nat.le_trans (show G.cs.length * 2 ≤ 6 by omega) (by decide)
    have s2 := same_upd (o := .lst (List.replicate (2 : Int).toNat (G.cs.map V.str)).flatten) nq2
    have hq2 : (upd H1 q2 (.lst (List.replicate (2 : Int).toNat (G.cs.map V.str)).flatten)) q2 = some (.lst (List.replicate (2 : Int).toNat (G.cs.map V.str)).flatten) := upd_same
    generalize (upd H1 q2 (.lst (List.replicate (2 : Int).toNat (G.cs.map V.str)).flatten)) = H2 at s2 hq2
    have l1 : (rgV 0 (G.m : Nat)).length = G.m := by rw [rgV_length]; omega
    have l2 : (List.replicate (2 : Int).toNat (G.cs.map V.str)).flatten.length ≤ 6 := by
      show (List.replicate 2 (G.cs.map V.str)).flatten.length ≤ 6
      rw [List.length_flatten, List.map_replicate, List.sum_replicate_nat, List.length_map]
      omega
    refine ⟨q, q2, _, _, rfl, rfl, s2 _ _ hq, hq2, Nat.le_trans (show _ ≤ 10 by omega) (by decide), fun q3 nq3 => ?_⟩
    have s3 := same_upd (o := .lst (rgV 0 (G.m : Nat) ++ (List.replicate (2 : Int).toNat (G.cs.map V.str)).flatten)) nq3
    have hq3 : (upd H2 q3 (.lst (rgV 0 (G.m : Nat) ++ (List.replicate (2 : Int).toNat (G.cs.map V.str)).flatten))) q3 = some (.lst (rgV 0 (G.m : Nat) ++ (List.replicate (2 : Int).toNat (G.cs.map V.str)).flatten)) := upd_same
    generalize (upd H2 q3 (.lst (rgV 0 (G.m : Nat) ++ (List.replicate (2 : Int).toNat (G.cs.map V.str)).flatten))) = H3 at s3 hq3
    refine val_c _ (val_c _ (val_c _ ⟨by show 3 ≤ sizeLine; decide, fun q4 nq4 => ?_⟩))
    have s4 := same_upd (o := .lst [V.str "it", V.str "it", V.str "got"]) nq4
    have hq4 : (upd H3 q4 (.lst [V.str "it", V.str "it", V.str "got"])) q4 = some (.lst [V.str "it", V.str "it", V.str "got"]) := upd_same
    generalize (upd H3 q4 (.lst [V.str "it", V.str "it", V.str "got"])) = H4 at s4 hq4
    refine ⟨q3, q4, _, _, rfl, rfl, s4 _ _ hq3, hq4, ?_, fun q5 nq5 => ?_⟩
    · rw [List.length_append]
      exact Nat.le_trans (show _ ≤ 13 by show _ + _ + 3 ≤ 13; omega) (by decide)
    have s5 := same_upd (o := .lst (rgV 0 (G.m : Nat) ++ (List.replicate (2 : Int).toNat (G.cs.map V.str)).flatten ++ [V.str "it", V.str "it", V.str "got"])) nq5
    have sA : Same H H4 := s1.trans (s2.trans (s3.trans s4))
    have g5 := (g.mono sA).mono s5
    have nb : q5 ≠ G.b := by
      obtain ⟨p, n', hb, _⟩ := (g.mono sA).bx
      exact (ne_of_none hb nq5).symm
    refine ⟨G, n, l, q5, _, rfl, g5.start, upd_same, nb, ?_, ?_, hn, fun H' x hx g' sb => ?_⟩
    · rw [List.length_append]
      exact Nat.lt_of_lt_of_le (by decide) (Nat.le_add_left 3 _)
    · rw [List.length_append, List.length_append]
      show _ + 3 ≤ 1000
      omega
    · obtain ⟨sg, rfl, ok⟩ := mem_sign hx
      exact k H' sg ok ((g.mono (sA.trans s5)).trans g') fun a o na e => sb a o na (s5 _ _ (sA _ _ e))
end
end K5
namespace K5
open PySem PySem.Spec PyProof.Rows L2
/-! ### tests that lay things -/
def AnsS (t : TT) (σ : L2.St) (H : Hp) (b : Bool) : Prop := ∀ Q : Bool → Hp → Prop, (∀ H', Same H H' → Q b H') → t σ H Q
section
variable {K : PySem.W.Frag} {σ : L2.St} {H : Hp} {t u : TT} {a b : Bool} {te ta tb : TE} {p : Addr} {zs : List Str}
theorem Ans.s (h : Ans t σ H b) : AnsS t σ H b := fun Q q => h Q (q H (Same.refl _))
theorem ansS_and (h1 : AnsS t σ H a) (h2 : ∀ H', Same H H' → AnsS u σ H' b) : AnsS (tAnd t u) σ H (a && b) := fun Q q => h1 _ fun H1 s1 => by
  cases a with
  | true => exact iteT (h2 H1 s1 _ fun H2 s2 => q H2 (s1.trans s2))
  | false => exact iteF (q H1 s1)
theorem dp_strs {l : List Str} : DpAll K H (l.map V.str) (l.map PyData.str) := by
  induction l with
  | nil => exact .nil
  | cons z l ih => exact .cons (.str z) ih
theorem strs_shaped : ∀ {l : List Str}, (∀ z ∈ l, PyData.strOk z = true) → PyData.canLayAll0 (l.map PyData.str) = true
  | [], _ => rfl
  | z :: l, h => by
    show (PyData.canLay0 (.str z) && PyData.canLayAll0 (l.map PyData.str)) = true
    rw [strs_shaped fun y hy => h y (List.mem_cons_of_mem _ hy), show PyData.canLay0 (.str z) = PyData.strOk z from rfl, h z (List.mem_cons_self ..)]
    rfl
theorem strs_depth : ∀ {l : List Str}, PyData.depthAll (l.map PyData.str) = 0
  | [] => rfl
  | z :: l => by
    show max 0 (PyData.depthAll (l.map PyData.str)) = 0
    rw [strs_depth]
    rfl
theorem lst_shaped {l : List Str} (h : ∀ z ∈ l, PyData.strOk z = true) : SeqAt.shaped (.list (l.map PyData.str)) = true := by
  unfold SeqAt.shaped
  rw [Bool.and_eq_true]
  refine ⟨strs_shaped h, decide_eq_true ?_⟩
  show PyData.depthAll (l.map PyData.str) + 1 ≤ 64
  rw [strs_depth]
  decide
theorem eqv_nil {l : List Str} : PyData.eqv (.list (l.map PyData.str)) (.list []) = decide (l = []) := by
  cases l with
  | nil => rfl
  | cons z l => exact (decide_eq_false (fun e => nomatch e)).symm
/-- xs != [] -/
theorem ne_nil (ht : Val te σ H (.ref p)) (hp : H p = some (.lst (zs.map V.str))) (ok : ∀ z ∈ zs, PyData.strOk z = true) : AnsS (tTest (tOp (rNeD K) te (tLst tNil))) σ H (!decide (zs = [])) := fun Q q => by
  dsimp only [tTest, tOp, tLst, tNil]
  refine ht _ ⟨Nat.zero_le _, fun r nr => ?_⟩
  have s1 := same_upd (o := .lst []) nr
  refine ⟨.list (zs.map PyData.str), .list [], .lst (SqL.of (s1 _ _ hp)) dp_strs, .lst (SqL.of upd_same) .nil, lst_shaped ok, by decide, _, rfl, ?_⟩
  rw [eqv_nil]
  exact q _ s1
/-- i < j, i = j -/
theorem ansI {g : Int → Int → Bool} {i j : Int} (ha : Val ta σ H (.int i)) (hb : Val tb σ H (.int j)) : Ans (tTest (tOp (rI0 fun i j => .bl (g i j)) ta tb)) σ H (g i j) := ans_i0 ha hb
end
/-! ### a drawn test -/
abbrev s__law_test : Stmt := topS 35
theorem sc__law_test : FnScope ["_law_box_here", "_law_here", "_law_road"] ["_law_box_here", "_law_here"] (defScope s__law_test) := ⟨rfl, rfl, rfl, by decide +kernel, rfl, by decide +kernel, by decide +kernel⟩
def spTest : Sp := fun vs H Q _ => ∃ (A : Gd) (n l : Nat), vs = [.ref A.b, .ref A.h] ∧ Gs A H H n l ∧ n + 4 < 1000000 ∧
  ∀ (H' : Hp) (p : Addr) (c : List Sg), okC A.m A.cs c → H' p = some (.tup (c.map Sg.v)) → Gs A H H' (n + 4) l → Q (.ref p) H'
section
variable {A : Gd} {H0 H : Hp} {n l i j : Nat} {σ : L2.St} {Q : VK}
theorem Gs.sign (g : Gs A H0 H n l) (hv : σ[i]? = some (some (.ref A.b))) (hw : σ[j]? = some (some (.ref A.h))) (hn : n < 1000000)
    (k : ∀ (H' : Hp) (s : Sg), okSg A.m A.cs s → Gs A H0 H' (n + 1) l → SameBut A.b H H' → Q s.v H') : tCall spSign [] E0 (tCons (tVar i) (tCons (tVar j) tNil)) σ H Q := by
  dsimp only [tCall, tCons, tNil]
  refine (val_var hv) _ ?_
  refine (val_var hw) _ ?_
  exact ⟨A, n, l, rfl, g.start, hn, fun H' s ok g' sb => k H' s ok (g.trans g') sb⟩
theorem Gs.test (g : Gs A H0 H n l) (hv : σ[i]? = some (some (.ref A.b))) (hw : σ[j]? = some (some (.ref A.h))) (hn : n + 4 < 1000000)
    (k : ∀ (H' : Hp) (p : Addr) (c : List Sg), okC A.m A.cs c → H' p = some (.tup (c.map Sg.v)) → Gs A H H' (n + 4) l → Q (.ref p) H') : tCall spTest [] E0 (tCons (tVar i) (tCons (tVar j) tNil)) σ H Q := by
  dsimp only [tCall, tCons, tNil]
  refine (val_var hv) _ ?_
  refine (val_var hw) _ ?_
  exact ⟨A, n, l, rfl, g.start, hn, k⟩
end
section
variable {P : Program} {w : World} {K : PySem.W.Frag} {mg : Str → Option Value} {base : Heap}
theorem ok_test {f fT fO fS : Addr} {fd fdT fdO fdS : FuncData} (B : Bt mg) (D : Df K mg "_law_test" s__law_test f fd ["_law_box_here", "_law_here"]) (D__law_take : Df K mg "_law_take" sTake fT fdT ["_law_box_here", "_law_many"])
    (D__law_of : Df K mg "_law_of" s__law_of fO fdO ["_law_box_here", "_law_some_here"]) (G__law_of : FnOk P w K mg base CX0 2 fO fdO ["_law_box_here", "_law_some_here"] spOf)
    (D__law_sign : Df K mg "_law_sign" s__law_sign fS fdS ["_law_box_here", "_law_here"]) (G__law_sign : FnOk P w K mg base CX0 3 fS fdS ["_law_box_here", "_law_here"] spSign) :
    FnOk P w K mg base CX0 4 f fd ["_law_box_here", "_law_here"] spTest := by
  have G__law_take : FnOk P w K mg base CX0 1 fT fdT ["_law_box_here", "_law_many"] spTake := ok_take (CX := CX0) D__law_take.F B.m_int
  refine D.F.ok sc__law_test (fun vs H Q E h => ?_) (fun cdv A outer s H vs Q E hr h => ?_)
  · obtain ⟨A, n, l, rfl, _⟩ := h
    rfl
  · obtain ⟨G, n, l, rfl, g, hn, k⟩ := h
    have S := sc__law_test
    refine ⟨_, (pss_cons (ps_set (i := 2) S.nd rfl (.inl rfl) (pe_call G__law_take (hr.mono (by decide)) (by rfl) D__law_take.g D__law_take.F.kp D__law_take.b .nil pass0 (pa_cons (pv 0) (pa_cons pe_int pa_nil))))
      (pss_cons (ps_if (pt_cmpR op_lt (pv 2) pe_int (nomark _))
        (pss_one (ps_ret (pe_tup (pa_cons (pe_ix ix_list (pe_lst (pa_cons pe_str (pa_cons pe_str pa_nil))) (pv 2) (fun _ _ => rfl)) pa_nil))))
        pss_nil)
      (pss_one (ps_ret (pe_tup (pa_cons (pe_call G__law_of (hr.mono (by decide)) (by rfl) D__law_of.g D__law_of.F.kp D__law_of.b .nil pass0 (pa_cons (pv 0) (pa_cons (pe_lst (pa_cons pe_str (pa_cons pe_str pa_nil))) pa_nil))) (pa_cons (pe_call G__law_sign (hr.mono (by decide)) (by rfl) D__law_sign.g D__law_sign.F.kp D__law_sign.b .nil pass0 (pa_cons (pv 0) (pa_cons (pv 1) pa_nil))) (pa_cons (pe_call G__law_sign (hr.mono (by decide)) (by rfl) D__law_sign.g D__law_sign.F.kp D__law_sign.b .nil pass0 (pa_cons (pv 0) (pa_cons (pv 1) pa_nil))) pa_nil)))))))), ?_⟩
    dsimp only [tSeq, tAsg]
    refine g.take rfl val_c (by decide) (by decide) (by omega) fun H1 d d0 d1 g1 sb1 => ?_
    dsimp only [gName, tSeq, tIfS]
    refine (ansI (i := d) (j := 2) (val_var rfl) val_c) _ ?_
    refine ite2 (fun e => ?_) fun e => ?_
    · have d2 : d < 2 := of_decide_eq_true e
      dsimp only [tRet, tTup, tOp, tLst, tCons, tNil]
      refine val_c _ (val_c _ ⟨by show 2 ≤ sizeLine; decide, fun p np => ?_⟩)
      have s2 := same_upd (o := .lst [V.str "lost", V.str "busy"]) np
      have g2 := (g1.mono s2).le (show n + 1 ≤ n + 4 by omega)
      refine (val_var rfl) _ ?_
      have hd : d = 0 ∨ d = 1 := by omega
      have fin : ∀ (z : Str), (z = "lost" ∨ z = "busy") → ∀ q : Addr, (upd H1 p (.lst [V.str "lost", V.str "busy"])) q = none → Q (.ref q) (upd (upd H1 p (.lst [V.str "lost", V.str "busy"])) q (.tup [V.str z])) := fun z hz q nq => by
        refine k _ q [.w z] ?_ upd_same (g2.mono (same_upd nq))
        rcases hz with rfl | rfl
        · exact .inl rfl
        · exact .inr (.inl rfl)
      rcases hd with rfl | rfl
      · exact ⟨p, _, 0, _, rfl, rfl, SqL.of upd_same, rfl, by show 1 ≤ sizeLine; decide, fin "lost" (.inl rfl)⟩
      · exact ⟨p, _, 1, _, rfl, rfl, SqL.of upd_same, rfl, by show 1 ≤ sizeLine; decide, fin "busy" (.inr rfl)⟩
    · dsimp only [tNext, tRet, tTup, tCons, tNil]
      refine g1.lit (zs := ["=", "!="]) rfl (LV.two SV.c SV.c) (by decide) (by decide) (by omega) fun H2 o ho g2 sb2 => ?_
      refine g2.sign rfl rfl (by omega) fun H3 a oka g3 sb3 => ?_
      refine g3.sign rfl rfl (by omega) fun H4 b okb g4 sb4 => ?_
      refine ⟨by show 3 ≤ sizeLine; decide, fun q nq => ?_⟩
      refine k _ q [.w o, a, b] (.inr (.inr ⟨o, a, b, rfl, ?_, oka, okb⟩)) upd_same (g4.mono (same_upd nq))
      simpa using ho
end
/-! ### a drawn plain statement -/
abbrev s__law_plain_one : Stmt := topS 36
theorem sc__law_plain_one : FnScope ["_law_box_here", "_law_here", "_law_road", "_law_thing"] ["_law_box_here", "_law_here"] (defScope s__law_plain_one) := ⟨rfl, rfl, rfl, by decide +kernel, rfl, by decide +kernel, by decide +kernel⟩
def spPlainOne : Sp := fun vs H Q _ => ∃ (A : Gd) (n l : Nat), vs = [.ref A.b, .ref A.h] ∧ Gs A H H n l ∧ n + 4 < 1000000 ∧
  ∀ (H' : Hp) (p : Addr) (c : List Sg), okP A.m A.cs A.ps c → H' p = some (.tup (c.map Sg.v)) → Gs A H H' (n + 4) l → Q (.ref p) H'
section
variable {P : Program} {w : World} {K : PySem.W.Frag} {mg : Str → Option Value} {base : Heap}
theorem ok_plain_one {f fT fO fS : Addr} {fd fdT fdO fdS : FuncData} (B : Bt mg) (D : Df K mg "_law_plain_one" s__law_plain_one f fd ["_law_box_here", "_law_here"]) (D__law_take : Df K mg "_law_take" sTake fT fdT ["_law_box_here", "_law_many"])
    (D__law_of : Df K mg "_law_of" s__law_of fO fdO ["_law_box_here", "_law_some_here"]) (G__law_of : FnOk P w K mg base CX0 2 fO fdO ["_law_box_here", "_law_some_here"] spOf)
    (D__law_sign : Df K mg "_law_sign" s__law_sign fS fdS ["_law_box_here", "_law_here"]) (G__law_sign : FnOk P w K mg base CX0 3 fS fdS ["_law_box_here", "_law_here"] spSign) :
    FnOk P w K mg base CX0 4 f fd ["_law_box_here", "_law_here"] spPlainOne := by
  have G__law_take : FnOk P w K mg base CX0 1 fT fdT ["_law_box_here", "_law_many"] spTake := ok_take (CX := CX0) D__law_take.F B.m_int
  refine D.F.ok sc__law_plain_one (fun vs H Q E h => ?_) (fun cdv A outer s H vs Q E hr h => ?_)
  · obtain ⟨A, n, l, rfl, _⟩ := h
    rfl
  · obtain ⟨G, n, l, rfl, g, hn, k⟩ := h
    have S := sc__law_plain_one
    have hu := hr.units
    refine ⟨_, (pss_cons (ps_set (i := 2) S.nd rfl (.inl rfl) (pe_call G__law_take (hr.mono (by decide)) (by rfl) D__law_take.g D__law_take.F.kp D__law_take.b .nil pass0 (pa_cons (pv 0) (pa_cons pe_int pa_nil))))
      (pss_cons (ps_if (PW.pt (pw_and (pt_cmpR op_lt (pv 2) pe_int (nomark _)) (pw_and1 (pt_cmpR (op_neD (by exact hu)) (pe_dget (hu_of hr) (pv 1) pe_str (fun _ _ => rfl)) (pe_lst pa_nil) (nomark _)))))
        (pss_one (ps_ret (pe_tup (pa_cons pe_str (pa_cons (pe_call G__law_of (hr.mono (by decide)) (by rfl) D__law_of.g D__law_of.F.kp D__law_of.b .nil pass0 (pa_cons (pv 0) (pa_cons (pe_dget (hu_of hr) (pv 1) pe_str (fun _ _ => rfl)) pa_nil))) (pa_cons (pe_call G__law_of (hr.mono (by decide)) (by rfl) D__law_of.g D__law_of.F.kp D__law_of.b .nil pass0 (pa_cons (pv 0) (pa_cons (pe_lst (pa_cons pe_str (pa_cons pe_str (pa_cons pe_str pa_nil)))) pa_nil))) (pa_cons (pe_call G__law_sign (hr.mono (by decide)) (by rfl) D__law_sign.g D__law_sign.F.kp D__law_sign.b .nil pass0 (pa_cons (pv 0) (pa_cons (pv 1) pa_nil))) pa_nil)))))))
        pss_nil)
      (pss_cons (ps_if (PW.pt (pw_and (pt_cmpR op_in_seq (pv 2) (pe_tup (pa_cons pe_int (pa_cons pe_int (pa_cons pe_int (pa_cons pe_int pa_nil))))) (by rfl)) (pw_and1 (pt_cmpR (op_neD (by exact hu)) (pe_dget (hu_of hr) (pv 1) pe_str (fun _ _ => rfl)) (pe_lst pa_nil) (nomark _)))))
        (pss_cons (ps_set (i := 3) S.nd rfl (.inl rfl) (pe_call G__law_of (hr.mono (by decide)) (by rfl) D__law_of.g D__law_of.F.kp D__law_of.b .nil pass0 (pa_cons (pv 0) (pa_cons (pe_dget (hu_of hr) (pv 1) pe_str (fun _ _ => rfl)) pa_nil))))
        (pss_one (ps_ret (pe_ix ix_list (pe_lst (pa_cons (pe_tup (pa_cons pe_str (pa_cons (pv 3) (pa_cons (pe_call G__law_sign (hr.mono (by decide)) (by rfl) D__law_sign.g D__law_sign.F.kp D__law_sign.b .nil pass0 (pa_cons (pv 0) (pa_cons (pv 1) pa_nil))) pa_nil)))) (pa_cons (pe_tup (pa_cons pe_str (pa_cons (pv 3) (pa_cons (pe_call G__law_sign (hr.mono (by decide)) (by rfl) D__law_sign.g D__law_sign.F.kp D__law_sign.b .nil pass0 (pa_cons (pv 0) (pa_cons (pv 1) pa_nil))) pa_nil)))) (pa_cons (pe_tup (pa_cons pe_str (pa_cons (pv 3) pa_nil))) pa_nil)))) (pe_op op_mod (pv 2) pe_int) (fun _ _ => rfl)))))
        pss_nil)
      (pss_one (ps_ret (pe_ifExp (pt_cmpR op_eq (pv 2) pe_int (nomark _)) (pe_tup (pa_cons pe_str pa_nil)) (pe_tup (pa_cons pe_str (pa_cons (pe_call G__law_sign (hr.mono (by decide)) (by rfl) D__law_sign.g D__law_sign.F.kp D__law_sign.b .nil pass0 (pa_cons (pv 0) (pa_cons (pv 1) pa_nil))) pa_nil))))))))), ?_⟩
    dsimp only [tSeq, tAsg]
    refine g.take rfl val_c (by decide) (by decide) (by omega) fun H1 d d0 d1 g1 sb1 => ?_
    dsimp only [gName, tSeq, tIfS]
    refine (ansS_and (Ans.s (ansI (i := d) (j := 3) (val_var rfl) val_c)) fun H' s => ne_nil ((g1.mono s).vp (j := 1) rfl) (g1.mono s).p fun z hz => (g1.ns z (.inr hz)).1) _ fun H2 s2 => ?_
    have g2 := g1.mono s2
    refine ite2 (fun e => ?_) fun e => ?_
    · have ep : G.ps ≠ [] := by
        rw [Bool.and_eq_true] at e
        intro z
        rw [z] at e
        exact absurd e.2 (by decide)
      have lp : 0 < G.ps.length := List.length_pos_iff.mpr ep
      have p2 := g2.p2
      dsimp only [tRet, tTup, tCons, tNil]
      refine val_c _ ?_
      refine g2.of rfl g2.p (g2.vp rfl) g2.pb (by rw [List.length_map]; exact lp) (by rw [List.length_map]; omega) (by omega) fun H3 x hx g3 sb3 => ?_
      obtain ⟨z, hz, rfl⟩ := List.mem_map.mp hx
      refine g3.lit (zs := ["get", "pay", "door"]) rfl (show LV (tLst (tCons (tC (.str "get")) (tCons (tC (.str "pay")) (tCons (tC (.str "door")) tNil)))) _ _ _ from fun H Q s q => ⟨by show 3 ≤ sizeLine; decide, fun p np => q _ p (same_upd np) upd_same⟩) (by decide) (by decide) (by omega) fun H4 dn hdn g4 sb4 => ?_
      refine g4.sign rfl rfl (by omega) fun H5 a oka g5 sb5 => ?_
      refine ⟨by show 4 ≤ sizeLine; decide, fun q nq => ?_⟩
      refine k _ q [.w "ask", .w z, .w dn, a] (.inl ⟨z, dn, a, rfl, hz, ?_, oka⟩) upd_same (g5.mono (same_upd nq))
      simpa using hdn
    · dsimp only [tNext, tSeq, tIfS]
      refine (ansS_and (a := decide (d ∈ ([3, 4, 5, 6] : List Int))) (fun Q q => ?_) fun H' s => ne_nil ((g2.mono s).vc (j := 1) rfl) (g2.mono s).c fun z hz => (g2.ns z (.inl hz)).1) _ fun H3 s3 => ?_
      · dsimp only [tTest, tOp, tTup, tCons, tNil]
        refine (val_var rfl) _ (val_c _ (val_c _ (val_c _ (val_c _ ⟨by show 4 ≤ sizeLine; decide, fun p np => ?_⟩))))
        refine ⟨p, [.int 3, .int 4, .int 5, .int 6], rfl, .inr (SqT.of upd_same), rfl, rfl, _, rfl, ?_⟩
        have q := q _ (same_upd (o := .tup [.int 3, .int 4, .int 5, .int 6]) np)
        have hd : d = 0 ∨ d = 1 ∨ d = 2 ∨ d = 3 ∨ d = 4 ∨ d = 5 ∨ d = 6 ∨ d = 7 ∨ d = 8 := by omega
        rcases hd with rfl | rfl | rfl | rfl | rfl | rfl | rfl | rfl | rfl <;> exact q
      have g3 := g2.mono s3
      refine ite2 (fun e3 => ?_) fun e3 => ?_
      · rw [Bool.and_eq_true] at e3
        have ec : G.cs ≠ [] := by
          intro z
          rw [z] at e3
          exact absurd e3.2 (by decide)
        have lc : 0 < G.cs.length := List.length_pos_iff.mpr ec
        have c3 := g3.c3
        have hd : d = 3 ∨ d = 4 ∨ d = 5 ∨ d = 6 := by
          have := of_decide_eq_true e3.1
          simpa using this
        dsimp only [tAsg]
        refine g3.of rfl g3.c (g3.vc rfl) g3.cb (by rw [List.length_map]; exact lc) (by rw [List.length_map]; omega) (by omega) fun H4 x hx g4 sb4 => ?_
        obtain ⟨z, hz, rfl⟩ := List.mem_map.mp hx
        dsimp only [gName, tRet, tOp, tTup, tLst, tCons, tNil]
        refine val_c _ ((val_var rfl) _ ?_)
        refine g4.sign rfl rfl (by omega) fun H5 a oka g5 sb5 => ?_
        refine ⟨by show 3 ≤ sizeLine; decide, fun q1 n1 => ?_⟩
        have s6 := same_upd (o := .tup [.str "set", .str z, a.v]) n1
        have h1 : (upd H5 q1 (.tup [.str "set", .str z, a.v])) q1 = some (.tup [.str "set", .str z, a.v]) := upd_same
        have g6 := g5.mono s6
        generalize (upd H5 q1 (.tup [.str "set", .str z, a.v])) = H6 at s6 h1 g6
        refine val_c _ ((val_var rfl) _ ?_)
        refine g6.sign rfl rfl (by omega) fun H7 b okb g7 sb7 => ?_
        refine ⟨by show 3 ≤ sizeLine; decide, fun q2 n2 => ?_⟩
        have s8 := same_upd (o := .tup [.str "add", .str z, b.v]) n2
        have h2 : (upd H7 q2 (.tup [.str "add", .str z, b.v])) q2 = some (.tup [.str "add", .str z, b.v]) := upd_same
        have g8 := g7.mono s8
        have nb : q1 ≠ G.b := by
          obtain ⟨pb, nb', hb, _⟩ := g6.bx
          exact ne_of h1 hb fun e => nomatch e
        have h1 := s8 _ _ (sb7 _ _ nb h1)
        generalize (upd H7 q2 (.tup [.str "add", .str z, b.v])) = H8 at s8 h1 h2 g8
        refine val_c _ ((val_var rfl) _ ?_)
        refine ⟨by show 2 ≤ sizeLine; decide, fun q3 n3 => ?_⟩
        have s9 := same_upd (o := .tup [.str "draw", .str z]) n3
        have h3 : (upd H8 q3 (.tup [.str "draw", .str z])) q3 = some (.tup [.str "draw", .str z]) := upd_same
        have g9 := g8.mono s9
        have h1 := s9 _ _ h1
        have h2 := s9 _ _ h2
        generalize (upd H8 q3 (.tup [.str "draw", .str z])) = H9 at s9 h1 h2 h3 g9
        refine ⟨by show 3 ≤ sizeLine; decide, fun p np => ?_⟩
        have s10 := same_upd (o := .lst [.ref q1, .ref q2, .ref q3]) np
        have hp : (upd H9 p (.lst [.ref q1, .ref q2, .ref q3])) p = some (.lst [.ref q1, .ref q2, .ref q3]) := upd_same
        have g10 := g9.mono s10
        have h1 := s10 _ _ h1
        have h2 := s10 _ _ h2
        have h3 := s10 _ _ h3
        generalize (upd H9 p (.lst [.ref q1, .ref q2, .ref q3])) = H10 at s10 h1 h2 h3 g10 hp
        refine (val_iC (C := fun _ j => 0 < j) (val_var rfl) val_c (by decide)) _ ?_
        have g10 := g10.le (show _ ≤ n + 4 by omega)
        rcases hd with rfl | rfl | rfl | rfl
        · exact ⟨p, _, _, _, rfl, rfl, SqL.of hp, rfl, k _ q1 [.w "set", .w z, a] (.inr (.inl ⟨z, a, rfl, hz, oka⟩)) h1 g10⟩
        · exact ⟨p, _, _, _, rfl, rfl, SqL.of hp, rfl, k _ q2 [.w "add", .w z, b] (.inr (.inr (.inl ⟨z, b, rfl, hz, okb⟩))) h2 g10⟩
        · exact ⟨p, _, _, _, rfl, rfl, SqL.of hp, rfl, k _ q3 [.w "draw", .w z] (.inr (.inr (.inr (.inl ⟨z, rfl, hz⟩)))) h3 g10⟩
        · exact ⟨p, _, _, _, rfl, rfl, SqL.of hp, rfl, k _ q1 [.w "set", .w z, a] (.inr (.inl ⟨z, a, rfl, hz, oka⟩)) h1 g10⟩
      · dsimp only [tNext, tRet, tIf]
        refine (ans_eq2 (x := .int d) (v := .int 7) (val_var rfl) val_c rfl) _ ?_
        refine ite2 (fun e4 => ?_) fun e4 => ?_
        · dsimp only [tTup, tCons, tNil]
          refine val_c _ ⟨by show 1 ≤ sizeLine; decide, fun q nq => ?_⟩
          exact k _ q [.w "fail"] (.inr (.inr (.inr (.inr (.inl rfl))))) upd_same ((g3.mono (same_upd nq)).le (by omega))
        · dsimp only [tTup, tCons, tNil]
          refine val_c _ ?_
          refine g3.sign rfl rfl (by omega) fun H5 a oka g5 sb5 => ?_
          refine ⟨by show 2 ≤ sizeLine; decide, fun q nq => ?_⟩
          exact k _ q [.w "answer", a] (.inr (.inr (.inr (.inr (.inr ⟨a, rfl, oka⟩))))) upd_same ((g5.mono (same_upd nq)).le (by omega))
end
end K5
namespace K5
open PySem PySem.Spec PyProof.Rows L2
theorem hr_put {A : Gd} {l l' : Nat} : putK (hrD A l) (.inr ("left" : Str)) (.int (l' : Nat)) = hrD A l' := by
  unfold putK
  rw [valV_any, hr_l]
  have h1 : ¬ ((Sum.inr ("worths" : Str) : Key) = Sum.inr ("left" : Str)) := by decide +kernel
  have h2 : ¬ ((Sum.inr ("cells" : Str) : Key) = Sum.inr ("left" : Str)) := by decide +kernel
  have h3 : ¬ ((Sum.inr ("ports" : Str) : Key) = Sum.inr ("left" : Str)) := by decide +kernel
  rw [show (some (V.int (l : Nat))).isSome = true from rfl, if_pos rfl]
  unfold hrD
  rw [List.map_cons, List.map_cons, List.map_cons, List.map_cons, List.map_nil, if_neg h1, if_neg h2, if_neg h3, if_pos rfl]
/-- the loop's heap: the list of statements that were found stands at fo -/
structure Lp (A : Gd) (H0 H : Hp) (fo : Addr) (n l : Nat) (B : Bl) : Prop where
  g : Gs A H0 H n l
  f : ∃ xs, H fo = some (.lst xs) ∧ BlV H B xs
  nb : fo ≠ A.b
  nh : fo ≠ A.h
  nc : A.cA ≠ fo
  np : A.pA ≠ fo
  n0 : H0 fo = none
section
variable {A : Gd} {H0 H H' : Hp} {fo p : Addr} {n l n' l' : Nat} {B S : Bl}
theorem Lp.step (L : Lp A H0 H fo n l B) (g' : Gs A H H' n' l') : Lp A H0 H' fo n' l' B where
  g := L.g.trans g'
  f := by
    obtain ⟨xs, h1, h2⟩ := L.f
    exact ⟨xs, g'.k2 _ _ L.nb L.nh h1, h2.mono (Gs.tup L.g.start g')⟩
  nb := L.nb
  nh := L.nh
  nc := L.nc
  np := L.np
  n0 := L.n0
theorem Lp.same (L : Lp A H0 H fo n l B) (s : Same H H') : Lp A H0 H' fo n l B := L.step (L.g.start.mono s)
theorem Lp.le (L : Lp A H0 H fo n l B) (h : n ≤ n') : Lp A H0 H fo n' l B := { L with g := L.g.le h }
/-- a statement is appended -/
theorem Lp.app (L : Lp A H0 H fo n l B) {xs : List V} (hf : H fo = some (.lst xs)) (hb : BlV H B xs) (hs : BlV H S [.ref p]) : Lp A H0 (upd H fo (.lst (xs ++ [.ref p]))) fo n l (B.app S) := by
  have kt : TupK H (upd H fo (.lst (xs ++ [.ref p]))) := fun a zs e => by
    rw [upd_ne (ne_of e hf fun e => nomatch e)]
    exact e
  exact {
    g := { L.g with
      k2 := fun x o n1 n2 e => by
        rw [upd_ne (ne_of_none e L.n0)]
        exact L.g.k2 x o n1 n2 e
      bx := by
        obtain ⟨p, i, h1, h2⟩ := L.g.bx
        exact ⟨p, i, by rw [upd_ne L.nb.symm]; exact h1, h2⟩
      he := by rw [upd_ne L.nh.symm]; exact L.g.he
      c := by rw [upd_ne L.nc]; exact L.g.c
      p := by rw [upd_ne L.np]; exact L.g.p }
    f := ⟨_, upd_same, (hs.mono kt).app (hb.mono kt)⟩
    nb := L.nb
    nh := L.nh
    nc := L.nc
    np := L.np
    n0 := L.n0 }
/-- here['left'] = l' -/
theorem Gs.put (g : Gs A H0 H n l) : Gs A H0 (upd H A.h (.dK (hrD A l'))) n l' := { g with
  k2 := fun x o n1 n2 e => by
    rw [upd_ne n2]
    exact g.k2 x o n1 n2 e
  bx := by
    obtain ⟨p, i, h1, h2⟩ := g.bx
    exact ⟨p, i, by rw [upd_ne g.bh]; exact h1, h2⟩
  he := upd_same
  c := by rw [upd_ne g.ch]; exact g.c
  p := by rw [upd_ne g.ph]; exact g.p }
theorem Lp.put (L : Lp A H0 H fo n l B) : Lp A H0 (upd H A.h (.dK (hrD A l'))) fo n l' B := L.step L.g.start.put
theorem put_left {σ : L2.St} {D : Ends} {j : Nat} (g : Gs A H0 H n l) (h1 : 1 ≤ l) (hj : σ[j]? = some (some (.ref A.h))) (k : D.nx σ (upd H A.h (.dK (hrD A (l - 1))))) :
    sDPut (tVar j) (tC (.str "left")) (tOp (rI0 fun i j => .int (i - j)) (tDGet (tVar j) (tC (.str "left"))) (tC (.int 1))) D σ H := by
  refine (val_i0 (g.vl hj) val_c) _ ((val_var hj) _ (val_c _ ⟨A.h, _, rfl, DPut.k (k := .inr "left") g.he (Nat.lt_of_lt_of_le (show 4 < 5 by decide) (by decide)), ?_⟩))
  rw [show ((l : Int) - 1) = ((l - 1 : Nat) : Int) by omega, hr_put]
  exact k
end
abbrev s__law_plain_block : Stmt := topS 37
theorem sc__law_plain_block : FnScope ["_law_box_here", "_law_here", "_law_deep", "_law_many", "_law_found", "_law_turn", "_law_road", "_law_first", "_law_more", "_law_test_here", "_law_block", "_law_other"] ["_law_box_here", "_law_here", "_law_deep", "_law_many"] (defScope s__law_plain_block) := ⟨rfl, rfl, rfl, by decide +kernel, rfl, by decide +kernel, by decide +kernel⟩
/-- a block whose statements stand at depth d -/
def spGen (d : Nat) : Sp := fun vs H Q _ => ∃ (A : Gd) (n l many : Nat), vs = [.ref A.b, .ref A.h, .int (d : Nat), .int (many : Nat)] ∧ Gs A H H n l ∧ 1 ≤ l ∧ 1 ≤ many ∧ many ≤ 5 ∧ n + 20 * l + 20 < 1000000 ∧
  ∀ (H' : Hp) (r : Addr) (B : Bl) (xs : List V) (n' l' : Nat), Gs A H H' n' l' → l' + B.sz = l → n' + 20 * l' ≤ n + 20 * l → (l' + 1 = l ∨ d ≤ l') → okB A.m A.cs A.ps d B → 1 ≤ B.len → B.len ≤ many → H' r = some (.tup xs) → BlV H' B xs → Q (.ref r) H'
def spSub (d : Nat) : Sp := fun vs H Q E => d < 3 ∧ spGen (d + 1) vs H Q E
section
variable {A : Gd} {H0 H : Hp} {n l i j k d many : Nat} {σ : L2.St} {Q : VK}
theorem Gs.sub (g : Gs A H0 H n l) (hv : σ[i]? = some (some (.ref A.b))) (hw : σ[j]? = some (some (.ref A.h))) (hd : σ[k]? = some (some (.int (d : Nat)))) (d3 : d < 3) (l1 : 1 ≤ l) (m1 : 1 ≤ many) (m5 : many ≤ 5) (hn : n + 20 * l + 20 < 1000000)
    (kk : ∀ (H' : Hp) (r : Addr) (B : Bl) (xs : List V) (n' l' : Nat), Gs A H H' n' l' → l' + B.sz = l → n' + 20 * l' ≤ n + 20 * l → (l' + 1 = l ∨ d + 1 ≤ l') → okB A.m A.cs A.ps (d + 1) B → 1 ≤ B.len → B.len ≤ many → H' r = some (.tup xs) → BlV H' B xs → Q (.ref r) H') :
    tCall (spSub d) [] E0 (tCons (tVar i) (tCons (tVar j) (tCons (tOp (rI0 fun i j => .int (i + j)) (tVar k) (tC (.int 1))) (tCons (tC (.int (many : Nat))) tNil)))) σ H Q := by
  try dsimp only [tCall, tCons, tNil]
  refine (val_var hv) _ ?_
  refine (val_var hw) _ ?_
  refine (val_i0 (val_var hd) val_c) _ (val_c _ ?_)
  exact ⟨d3, A, n, l, many, rfl, g.start, l1, m1, m5, hn, kk⟩
/-- a block or nothing -/
theorem Gs.may (g : Gs A H0 H n l) (hv : σ[i]? = some (some (.ref A.b))) (hw : σ[j]? = some (some (.ref A.h))) (hd : σ[k]? = some (some (.int (d : Nat)))) (d3 : d < 3) (l1 : 1 ≤ l) (m1 : 1 ≤ many) (m5 : many ≤ 5) (hn : n + 20 * l + 30 < 1000000)
    (kk : ∀ (H' : Hp) (r : Addr) (B : Bl) (xs : List V) (n' l' : Nat), Gs A H H' n' l' → l' + B.sz = l → n' + 20 * l' ≤ n + 1 + 20 * l → (l' = l ∨ l' + 1 = l ∨ d + 1 ≤ l') → okB A.m A.cs A.ps (d + 1) B → B.len ≤ many → H' r = some (.tup xs) → BlV H' B xs → Q (.ref r) H') :
    tIf (tTest (tOp rEq (tCall spTake [] E0 (tCons (tVar i) (tCons (tC (.int 2)) tNil))) (tC (.int 0)))) (tCall (spSub d) [] E0 (tCons (tVar i) (tCons (tVar j) (tCons (tOp (rI0 fun i j => .int (i + j)) (tVar k) (tC (.int 1))) (tCons (tC (.int (many : Nat))) tNil))))) (tTup tNil) σ H Q := by
  try dsimp only [tIf, tTest, tOp]
  refine g.start.take hv val_c (by decide) (by decide) (by omega) fun H1 dd d0 d1 g1 sb1 => ?_
  refine val_c _ ⟨rfl, _, rfl, ?_⟩
  refine ite2 (fun e => ?_) fun e => ?_
  · exact g1.sub hv hw hd d3 l1 m1 m5 (by omega) fun H' r B xs n' l' g' e1 e2 e3 ok e4 e5 hr hb => kk H' r B xs n' l' (g1.trans g') e1 e2 (.inr e3) ok e5 hr hb
  · refine ⟨Nat.zero_le _, fun q nq => ?_⟩
    exact kk _ q .nil [] (n + 1) l (g1.mono (same_upd nq)) rfl (Nat.le_refl _) (.inl rfl) trivial (Nat.zero_le _) upd_same rfl
end
theorem catA_run {K : PySem.W.Frag} {a b : Addr} {xs ys : List V} {H : Hp} {Q : VK} (ha : H a = some (.tup xs)) (hb : H b = some (.tup ys)) (hx : xs ≠ []) (sm : xs.length + ys.length ≤ 1000)
    (k : ∀ (H' : Hp) (t : Addr), Same H H' → H' t = some (.tup (xs ++ ys)) → Q (.ref t) H') : rCatA K (.ref a) (.ref b) H Q := by
  refine ⟨a, b, xs, ys, rfl, rfl, SqT.of ha, SqT.of hb, Nat.le_trans sm (by decide), fun e => absurd e hx, fun _ e => ?_, fun _ _ p np => ?_⟩
  · exact k H a (Same.refl _) (by rw [e, List.append_nil]; exact ha)
  · exact k _ p (same_upd np) upd_same
theorem iter_take {A : Gd} {H0 H : Hp} {n l i j many : Nat} {σ : L2.St} {R : It → Hp → Prop} (g : Gs A H0 H n l) (hv : σ[i]? = some (some (.ref A.b))) (hw : σ[j]? = some (some (.int (many : Nat)))) (m1 : 1 ≤ many) (m5 : many ≤ 5) (hn : n < 1000000)
    (k : ∀ (H' : Hp) (c : Nat), 1 ≤ c → c ≤ many → Gs A H0 H' (n + 1) l → R (Itr 0 c) H') : iRng1 (tCons (tOp (rI0 fun i j => .int (i + j)) (tC (.int 1)) (tCall spTake [] E0 (tCons (tVar i) (tCons (tVar j) tNil)))) tNil) σ H R := by
  try dsimp only [iRng1, tCons, tNil, tOp]
  refine val_c _ ?_
  refine g.take hv (val_var hw) (by omega) (by omega) hn fun H1 d d0 d1 g1 sb1 => ?_
  refine ⟨1, d, rfl, rfl, 1 + d, rfl, by omega, by omega, ?_⟩
  have e : (1 + d).toNat = 1 + d.toNat := by omega
  rw [e]
  exact k H1 _ (by omega) (by omega) g1
/-- behind so many turns -/
def PvB (G : Gd) (H0 : Hp) (fo : Addr) (d many l n0 : Nat) (i : Nat) (σ : L2.St) (H : Hp) : Prop := ∃ (t5 t6 t7 t8 t9 t10 t11 : Option V) (B : Bl) (n' l' : Nat),
  σ = [some (.ref G.b), some (.ref G.h), some (.int (d : Nat)), some (.int (many : Nat)), some (.ref fo), t5, t6, t7, t8, t9, t10, t11] ∧ Lp G H0 H fo n' l' B ∧ okB G.m G.cs G.ps d B ∧ B.len ≤ i ∧ l' + B.sz = l ∧
  ((i = 0 ∧ n' ≤ n0 + 1 ∧ l' = l) ∨ (1 ≤ B.len ∧ n' + 20 * l' ≤ n0 + 20 * l ∧ (l' + 1 = l ∨ d ≤ l')))
section
variable {P : Program} {w : World} {K : PySem.W.Frag} {mg : Str → Option Value} {base : Heap}
theorem ok_plain_block {f fT fO fS fE fP : Addr} {fd fdT fdO fdS fdE fdP : FuncData} {d kb : Nat} (hd1 : 1 ≤ d) (hd3 : d ≤ 3) (hk : 4 ≤ kb) (B : Bt mg) (D__law_plain_block : Df K mg "_law_plain_block" s__law_plain_block f fd ["_law_box_here", "_law_here", "_law_deep", "_law_many"])
    (D__law_take : Df K mg "_law_take" sTake fT fdT ["_law_box_here", "_law_many"]) (D__law_of : Df K mg "_law_of" s__law_of fO fdO ["_law_box_here", "_law_some_here"]) (G__law_of : FnOk P w K mg base CX0 2 fO fdO ["_law_box_here", "_law_some_here"] spOf)
    (D__law_sign : Df K mg "_law_sign" s__law_sign fS fdS ["_law_box_here", "_law_here"]) (G__law_sign : FnOk P w K mg base CX0 3 fS fdS ["_law_box_here", "_law_here"] spSign)
    (D__law_test : Df K mg "_law_test" s__law_test fE fdE ["_law_box_here", "_law_here"]) (G__law_test : FnOk P w K mg base CX0 4 fE fdE ["_law_box_here", "_law_here"] spTest)
    (D__law_plain_one : Df K mg "_law_plain_one" s__law_plain_one fP fdP ["_law_box_here", "_law_here"]) (G__law_plain_one : FnOk P w K mg base CX0 4 fP fdP ["_law_box_here", "_law_here"] spPlainOne)
    (G__law_plain_block : FnOk P w K mg base CX0 kb f fd ["_law_box_here", "_law_here", "_law_deep", "_law_many"] (spSub d)) :
    FnOk P w K mg base CX0 (kb + 1) f fd ["_law_box_here", "_law_here", "_law_deep", "_law_many"] (spGen d) := by
  have G__law_take : FnOk P w K mg base CX0 1 fT fdT ["_law_box_here", "_law_many"] spTake := ok_take (CX := CX0) D__law_take.F B.m_int
  refine D__law_plain_block.F.ok sc__law_plain_block (fun vs H Q E h => ?_) (fun cdv A outer s H vs Q E hr h => ?_)
  · obtain ⟨A, n, l, many, rfl, _⟩ := h
    rfl
  · obtain ⟨G, n, l, many, rfl, g, l1, m1, m5, hn, k⟩ := h
    have S := sc__law_plain_block
    have hu := hr.units
    refine ⟨_, (pss_cons (ps_set (i := 4) S.nd rfl (.inl rfl) (pe_lst pa_nil))
      (pss_cons (ps_for PassesOwn.never rfl (pi_range1 (by rfl) B.m_range (pa_cons (pe_op op_add pe_int (pe_call G__law_take (hr.mono (by omega)) (by rfl) D__law_take.g D__law_take.F.kp D__law_take.b .nil pass0 (pa_cons (pv 0) (pa_cons (pv 3) pa_nil)))) pa_nil)) (pg_name (i := 5) S.nd rfl (.inl rfl))
        (pss_one (ps_if (PW.pt (pw_or (pt_cmpR op_eq (pv 5) pe_int (nomark _)) (pw_or1 (pt_cmpR op_gt (pe_dget (hu_of hr) (pv 1) pe_str (fun _ _ => rfl)) pe_int (nomark _)))))
          (pss_cons (ps_dput (hu_of hr) (pv 1) pe_str (pe_op op_sub (pe_dget (hu_of hr) (pv 1) pe_str (fun _ _ => rfl)) pe_int) rfl)
          (pss_cons (ps_set (i := 6) S.nd rfl (.inl rfl) (pe_call G__law_take (hr.mono (by omega)) (by rfl) D__law_take.g D__law_take.F.kp D__law_take.b .nil pass0 (pa_cons (pv 0) (pa_cons pe_int pa_nil))))
          (pss_one (ps_if (PW.pt (pw_or (pt_cmpR op_lt (pe_dget (hu_of hr) (pv 1) pe_str (fun _ _ => rfl)) pe_int (nomark _)) (pw_or (pt_cmpR op_eq (pv 2) pe_int (nomark _)) (pw_or1 (pt_cmpR op_gt (pv 6) pe_int (nomark _))))))
            (pss_one (ps_expr (pe_bm PySem.F.plainAttrs_list PySem.F.slot_list_append PySem.F.type_list_append mt_append (pv 4) (pa_cons (pe_call G__law_plain_one (hr.mono (by omega)) (by rfl) D__law_plain_one.g D__law_plain_one.F.kp D__law_plain_one.b .nil pass0 (pa_cons (pv 0) (pa_cons (pv 1) pa_nil))) pa_nil))))
            (pss_one (ps_if (PW.pt (pw_and (pt_cmpR op_eq (pv 6) pe_int (nomark _)) (pw_and1 (pt_cmpR (op_neD (by exact hu)) (pe_dget (hu_of hr) (pv 1) pe_str (fun _ _ => rfl)) (pe_lst pa_nil) (nomark _)))))
              (pss_cons (ps_dput (hu_of hr) (pv 1) pe_str (pe_op op_sub (pe_dget (hu_of hr) (pv 1) pe_str (fun _ _ => rfl)) pe_int) rfl)
              (pss_cons (ps_set (i := 7) S.nd rfl (.inl rfl) (pe_tup (pa_cons pe_str (pa_cons (pe_call G__law_of (hr.mono (by omega)) (by rfl) D__law_of.g D__law_of.F.kp D__law_of.b .nil pass0 (pa_cons (pv 0) (pa_cons (pe_dget (hu_of hr) (pv 1) pe_str (fun _ _ => rfl)) pa_nil))) (pa_cons pe_str (pa_cons (pe_call G__law_sign (hr.mono (by omega)) (by rfl) D__law_sign.g D__law_sign.F.kp D__law_sign.b .nil pass0 (pa_cons (pv 0) (pa_cons (pv 1) pa_nil))) pa_nil))))))
              (pss_cons (ps_set (i := 8) S.nd rfl (.inl rfl) (pe_ifExp (pt_cmpR op_eq (pe_call G__law_take (hr.mono (by omega)) (by rfl) D__law_take.g D__law_take.F.kp D__law_take.b .nil pass0 (pa_cons (pv 0) (pa_cons pe_int pa_nil))) pe_int (nomark _)) (pe_call G__law_plain_block (hr.mono (by omega)) (by rfl) D__law_plain_block.g D__law_plain_block.F.kp D__law_plain_block.b .nil pass0 (pa_cons (pv 0) (pa_cons (pv 1) (pa_cons (pe_op op_add (pv 2) pe_int) (pa_cons pe_int pa_nil))))) (pe_tup pa_nil)))
              (pss_one (ps_expr (pe_bm PySem.F.plainAttrs_list PySem.F.slot_list_append PySem.F.type_list_append mt_append (pv 4) (pa_cons (pe_tup (pa_cons pe_str (pa_cons (pe_call G__law_test (hr.mono (by omega)) (by rfl) D__law_test.g D__law_test.F.kp D__law_test.b .nil pass0 (pa_cons (pv 0) (pa_cons (pv 1) pa_nil))) (pa_cons (pe_op op_catA (pe_tup (pa_cons (pv 7) pa_nil)) (pv 8)) pa_nil)))) pa_nil)))))))
              (pss_cons (ps_set (i := 9) S.nd rfl (.inl rfl) (pe_call G__law_test (hr.mono (by omega)) (by rfl) D__law_test.g D__law_test.F.kp D__law_test.b .nil pass0 (pa_cons (pv 0) (pa_cons (pv 1) pa_nil))))
              (pss_cons (ps_set (i := 10) S.nd rfl (.inl rfl) (pe_call G__law_plain_block (hr.mono (by omega)) (by rfl) D__law_plain_block.g D__law_plain_block.F.kp D__law_plain_block.b .nil pass0 (pa_cons (pv 0) (pa_cons (pv 1) (pa_cons (pe_op op_add (pv 2) pe_int) (pa_cons pe_int pa_nil))))))
              (pss_cons (ps_set (i := 11) S.nd rfl (.inl rfl) (pe_ifExp (pt_cmpR op_eq (pe_call G__law_take (hr.mono (by omega)) (by rfl) D__law_take.g D__law_take.F.kp D__law_take.b .nil pass0 (pa_cons (pv 0) (pa_cons pe_int pa_nil))) pe_int (nomark _)) (pe_call G__law_plain_block (hr.mono (by omega)) (by rfl) D__law_plain_block.g D__law_plain_block.F.kp D__law_plain_block.b .nil pass0 (pa_cons (pv 0) (pa_cons (pv 1) (pa_cons (pe_op op_add (pv 2) pe_int) (pa_cons pe_int pa_nil))))) (pe_tup pa_nil)))
              (pss_one (ps_expr (pe_bm PySem.F.plainAttrs_list PySem.F.slot_list_append PySem.F.type_list_append mt_append (pv 4) (pa_cons (pe_tup (pa_cons pe_str (pa_cons (pv 9) (pa_cons (pv 10) (pa_cons (pv 11) pa_nil))))) pa_nil)))))))))))))
          pss_nil)))
      (pss_one (ps_ret (pe_tupleOf (by rfl) B.m_tuple (pv 4)))))), ?_⟩
    try dsimp only [tSeq, tAsg, tLst, tNil]
    refine ⟨Nat.zero_le _, fun fo nfo => ?_⟩
    have s1 := same_upd (o := .lst []) nfo
    have hfo : (upd H fo (.lst [])) fo = some (.lst []) := upd_same
    have L0 : Lp G H (upd H fo (.lst [])) fo n l .nil := {
      g := g.mono s1
      f := ⟨[], hfo, rfl⟩
      nb := by
        obtain ⟨p, i, h1, _⟩ := g.bx
        exact (ne_of_none h1 nfo).symm
      nh := (ne_of_none g.he nfo).symm
      nc := ne_of_none g.c nfo
      np := ne_of_none g.p nfo
      n0 := nfo }
    generalize (upd H fo (.lst [])) = H1 at L0
    clear hfo s1
    try dsimp only [gName]
    try dsimp only [tSeq]
    refine iter_take (many := many) L0.g.start rfl rfl m1 m5 (by omega) fun H2 c c1 c2 g2 => ?_
    have L2 := L0.step g2
    refine for_range (lo := 0) (n := c) (PvB G H fo d many l n) ⟨_, _, _, _, _, _, _, .nil, n + 1, l, rfl, L2, trivial, Nat.le_refl _, rfl, .inl ⟨rfl, Nat.le_refl _, rfl⟩⟩ ?_ ?_
    · intro i σ H3 hi h
      obtain ⟨t5, t6, t7, t8, t9, t10, t11, Bl0, n3, l3, rfl, L, okb, lb, sz, dis⟩ := h
      try dsimp only [gName, tIfS]
      refine (ans_or2 (ans_eq2 (x := .int (0 + (i : Nat))) (v := .int 0) (val_var rfl) val_c rfl) fun _ => ansI (L.g.vl rfl) val_c) _ ?_
      refine ite2 (fun e => ?_) fun e => ?_
      · have l31 : 1 ≤ l3 := by
          rcases dis with ⟨_, _, e2⟩ | ⟨e1, _, _⟩
          · omega
          · rw [Bool.or_eq_true] at e
            rcases e with e | e
            · have := of_decide_eq_true e
              injection this with this
              omega
            · have := of_decide_eq_true e
              omega
        have i0 : i = 0 ∨ 4 ≤ l3 := by
          rw [Bool.or_eq_true] at e
          rcases e with e | e
          · have := of_decide_eq_true e
            injection this with this
            omega
          · have := of_decide_eq_true e
            omega
        -- the end of a turn
        have fin : ∀ (H' : Hp) (n' l' : Nat) (S : Bl) (s5 s6 s7 s8 s9 s10 s11 : Option V), Lp G H H' fo n' l' (Bl0.app S) → okB G.m G.cs G.ps d S → S.len = 1 → l' + S.sz = l3 → n' + 20 * l' + 1 ≤ n3 + 20 * l3 → (l' + 1 = l3 ∨ d ≤ l') →
            PvB G H fo d many l n (i + 1) [some (.ref G.b), some (.ref G.h), some (.int (d : Nat)), some (.int (many : Nat)), some (.ref fo), s5, s6, s7, s8, s9, s10, s11] H' := by
          intro H' n' l' S s5 s6 s7 s8 s9 s10 s11 Lq okS lS szS nS dS
          refine ⟨s5, s6, s7, s8, s9, s10, s11, Bl0.app S, n', l', rfl, Lq, okB_app okS okb, ?_, ?_, .inr ⟨?_, ?_, ?_⟩⟩
          · rw [Bl.len_app]; omega
          · rw [Bl.sz_app]; omega
          · rw [Bl.len_app]; omega
          · rcases dis with ⟨_, e2, e3⟩ | ⟨_, e2, _⟩ <;> omega
          · rcases dis with ⟨_, e2, e3⟩ | ⟨_, e2, e3⟩ <;> omega
        try dsimp only [tSeq]
        refine put_left L.g l31 rfl ?_
        have L4 : Lp G H (upd H3 G.h (.dK (hrD G (l3 - 1)))) fo n3 (l3 - 1) Bl0 := L.put
        generalize (upd H3 G.h (.dK (hrD G (l3 - 1)))) = H4 at L4
        try dsimp only [tSeq, tAsg]
        have bnd : n3 + 20 * l3 ≤ n + 1 + 20 * l := by
          rcases dis with ⟨_, e2, e3⟩ | ⟨_, e2, e3⟩ <;> omega
        refine L4.g.start.take rfl val_c (by decide) (by decide) (by omega) fun H5 road r0 r1 g5 sb5 => ?_
        have L5 := L4.step g5
        try dsimp only [gName, tIfS]
        refine (ans_or2 (ansI (L5.g.vl rfl) val_c) fun _ => ans_or2 (ans_eq2 (x := .int (d : Nat)) (v := .int 3) (val_var rfl) val_c rfl) fun _ => ansI (i := road) (val_var rfl) val_c) _ ?_
        have d3 : d = 3 ∨ d < 3 := by omega
        refine ite2 (fun e6 => ?_) fun e6 => ?_
        · dsimp only [tDrop]
          obtain ⟨xs, hf, hb⟩ := L5.f
          refine bm_run (x := .ref fo) (val_var rfl) (.inl ⟨rfl, _, SqL.of hf⟩) ?_
          try dsimp only [tCons, tNil, tCall]
          refine (val_var rfl) _ ?_
          refine (val_var rfl) _ ?_
          refine ⟨G, n3 + 1, l3 - 1, rfl, L5.g.start, by omega, fun H6 p c okc hp g6 => ?_⟩
          have L6 := L5.step g6
          obtain ⟨xs, hf, hb⟩ := L6.f
          have lx := hb.len
          refine ⟨fo, xs, .ref p, rfl, rfl, hf, small1000 (by omega), ?_⟩
          have S1 : BlV H6 (.pl c .nil) [.ref p] := ⟨p, [], rfl, hp, rfl⟩
          exact fin _ _ _ (.pl c .nil) _ _ _ _ _ _ _ (L6.app hf hb S1) ⟨okc, trivial⟩ rfl (by show l3 - 1 + (1 + 0) = l3; omega) (by omega) (by omega)
        · rw [Bool.or_eq_true, Bool.or_eq_true] at e6
          have f1 : ¬ (((l3 - 1 : Nat) : Int) < 5) := fun z => e6 (.inl (decide_eq_true z))
          have f2 : ¬ d = 3 := fun z => e6 (.inr (.inl (decide_eq_true (by rw [z]; rfl))))
          have dl : d < 3 := by omega
          have l6 : 6 ≤ l3 := by omega
          try dsimp only [tIfS]
          refine (ansS_and (Ans.s (ans_eq2 (x := .int road) (v := .int 0) (val_var rfl) val_c rfl)) fun H' s => ne_nil ((L5.g.mono s).vp (j := 1) rfl) (L5.g.mono s).p fun z hz => (L5.g.ns z (.inr hz)).1) _ fun H6 s6 => ?_
          have L6 := L5.same s6
          refine ite2 (fun e7 => ?_) fun e7 => ?_
          · have ep : G.ps ≠ [] := by
              rw [Bool.and_eq_true] at e7
              intro z
              rw [z] at e7
              exact absurd e7.2 (by decide)
            have lp : 0 < G.ps.length := List.length_pos_iff.mpr ep
            have p2 := L6.g.p2
            try dsimp only [tSeq]
            refine put_left L6.g (by omega) rfl ?_
            have L7 : Lp G H (upd H6 G.h (.dK (hrD G (l3 - 1 - 1)))) fo (n3 + 1) (l3 - 1 - 1) Bl0 := L6.put
            generalize (upd H6 G.h (.dK (hrD G (l3 - 1 - 1)))) = H7 at L7
            try dsimp only [tSeq, tAsg, tTup, tCons, tNil]
            refine val_c _ ?_
            refine L7.g.start.of rfl L7.g.p (L7.g.vp rfl) L7.g.pb (by rw [List.length_map]; exact lp) (by rw [List.length_map]; omega) (by omega) fun H8 x hx g8 sb8 => ?_
            have L8 := L7.step g8
            obtain ⟨z, hz, rfl⟩ := List.mem_map.mp hx
            refine val_c _ ?_
            refine L8.g.start.sign rfl rfl (by omega) fun H9 a oka g9 sb9 => ?_
            have L9 := L8.step g9
            refine ⟨by show 4 ≤ sizeLine; decide, fun q nq => ?_⟩
            have hq : (upd H9 q (.tup [.str "ask", .str z, .str "get", a.v])) q = some (.tup [.str "ask", .str z, .str "get", a.v]) := upd_same
            have L10 := L9.same (same_upd (o := .tup [.str "ask", .str z, .str "get", a.v]) nq)
            generalize (upd H9 q (.tup [.str "ask", .str z, .str "get", a.v])) = H10 at hq L10
            try dsimp only [gName, tSeq, tAsg]
            refine L10.g.start.may (many := 2) (d := d) rfl rfl rfl dl (by omega) (by decide) (by decide) (by omega) fun H11 r M ys n11 l11 g11 sz11 bn11 d11 okM lM hr hM => ?_
            have L11 := L10.step g11
            have hq := Gs.tup L10.g.start g11 _ _ hq
            try dsimp only [gName, tDrop]
            obtain ⟨xs, hf, hb⟩ := L11.f
            refine bm_run (x := .ref fo) (val_var rfl) (.inl ⟨rfl, _, SqL.of hf⟩) ?_
            try dsimp only [tTup, tCons, tNil]
            refine val_c _ ?_
            refine L11.g.test rfl rfl (by omega) fun H12 pc c okc hc g12 => ?_
            have L12 := L11.step g12
            have kt := Gs.tup L11.g.start g12
            have hq := kt _ _ hq
            have hr := kt _ _ hr
            have hM := hM.mono kt
            try dsimp only [tOp]
            refine (val_var rfl) _ ⟨by show 1 ≤ sizeLine; decide, fun q2 nq2 => ?_⟩
            have s13 := same_upd (o := .tup [.ref q]) nq2
            have hq2 : (upd H12 q2 (.tup [.ref q])) q2 = some (.tup [.ref q]) := upd_same
            generalize (upd H12 q2 (.tup [.ref q])) = H13 at s13 hq2
            have lM2 := hM.len
            refine (val_var rfl) _ (catA_run hq2 (s13 _ _ hr) (fun e => nomatch e) (by show 1 + _ ≤ 1000; omega) fun H14 t s14 ht => ?_)
            refine ⟨by show 3 ≤ sizeLine; decide, fun u nu => ?_⟩
            have s15 := same_upd (o := .tup [.str "while", .ref pc, .ref t]) nu
            have hu15 : (upd H14 u (.tup [.str "while", .ref pc, .ref t])) u = some (.tup [.str "while", .ref pc, .ref t]) := upd_same
            generalize (upd H14 u (.tup [.str "while", .ref pc, .ref t])) = H15 at s15 hu15
            have sA : Same H12 H15 := s13.trans (s14.trans s15)
            have L15 := L12.same sA
            obtain ⟨xs, hf, hb⟩ := L15.f
            have lx := hb.len
            refine ⟨fo, xs, .ref u, rfl, rfl, hf, small1000 (by omega), ?_⟩
            have S1 : BlV H15 (.wh c (.pl [.w "ask", .w z, .w "get", a] M) .nil) [.ref u] := ⟨u, pc, t, _, [], rfl, hu15, sA _ _ hc, s15 _ _ ht, ⟨q, ys, rfl, sA _ _ hq, hM.mono fun b zs e => sA b _ e⟩, rfl⟩
            refine fin _ _ _ (.wh c (.pl [.w "ask", .w z, .w "get", a] M) .nil) _ _ _ _ _ _ _ (L15.app hf hb S1) ⟨dl, okc, ⟨z, "get", a, M, rfl⟩, ?_, ⟨.inl ⟨z, "get", a, rfl, hz, .inl rfl, oka⟩, okM⟩, trivial⟩ rfl ?_ ?_ ?_
            · show 1 + M.len ≤ 3
              omega
            · show l11 + (1 + (1 + M.sz) + 0) = l3
              omega
            · omega
            · omega
          · dsimp only [tSeq, tAsg]
            refine L6.g.test rfl rfl (by omega) fun H7 pc c okc hc g7 => ?_
            have L7 := L6.step g7
            try dsimp only [gName, tSeq, tAsg]
            refine L7.g.sub (many := 3) (d := d) rfl rfl rfl dl (by omega) (by decide) (by decide) (by omega) fun H8 r1 B1 xs1 n8 l8 g8 sz8 bn8 d8 ok8 len8 len8' hr1 hb1 => ?_
            have L8 := L7.step g8
            have hc := Gs.tup L7.g.start g8 _ _ hc
            try dsimp only [gName, tSeq, tAsg]
            refine L8.g.may (many := 2) (d := d) rfl rfl rfl dl (by omega) (by decide) (by decide) (by omega) fun H9 r2 B2 xs2 n9 l9 g9 sz9 bn9 d9 ok9 len9 hr2 hb2 => ?_
            have L9 := L8.step g9
            have kt := Gs.tup L8.g.start g9
            have hc := kt _ _ hc
            have hr1 := kt _ _ hr1
            have hb1 := hb1.mono kt
            try dsimp only [gName, tDrop]
            obtain ⟨xs, hf, hb⟩ := L9.f
            refine bm_run (x := .ref fo) (val_var rfl) (.inl ⟨rfl, _, SqL.of hf⟩) ?_
            try dsimp only [tTup, tCons, tNil]
            refine val_c _ ((val_var rfl) _ ((val_var rfl) _ ((val_var rfl) _ ⟨by show 4 ≤ sizeLine; decide, fun u nu => ?_⟩)))
            have s15 := same_upd (o := .tup [.str "if", .ref pc, .ref r1, .ref r2]) nu
            have hu15 : (upd H9 u (.tup [.str "if", .ref pc, .ref r1, .ref r2])) u = some (.tup [.str "if", .ref pc, .ref r1, .ref r2]) := upd_same
            generalize (upd H9 u (.tup [.str "if", .ref pc, .ref r1, .ref r2])) = H15 at s15 hu15
            have L15 := L9.same s15
            obtain ⟨xs, hf, hb⟩ := L15.f
            have lx := hb.len
            refine ⟨fo, xs, .ref u, rfl, rfl, hf, small1000 (by omega), ?_⟩
            have S1 : BlV H15 (.iff c B1 B2 .nil) [.ref u] := ⟨u, pc, r1, r2, xs1, xs2, [], rfl, hu15, s15 _ _ hc, s15 _ _ hr1, s15 _ _ hr2, hb1.mono fun b zs e => s15 b _ e, hb2.mono fun b zs e => s15 b _ e, rfl⟩
            refine fin _ _ _ (.iff c B1 B2 .nil) _ _ _ _ _ _ _ (L15.app hf hb S1) ⟨dl, okc, len8, len8', len9, ok8, ok9, trivial⟩ rfl ?_ ?_ ?_
            · show l9 + (1 + B1.sz + B2.sz + 0) = l3
              omega
            · omega
            · omega
      · dsimp only [tNext]
        rw [Bool.or_eq_true] at e
        have i0 : ¬ i = 0 := fun z => e (.inl (decide_eq_true (by rw [z]; rfl)))
        refine ⟨_, t6, t7, t8, t9, t10, t11, Bl0, n3, l3, rfl, L, okb, by omega, sz, ?_⟩
        rcases dis with ⟨e1, _, _⟩ | e1
        · exact absurd e1 i0
        · exact .inr e1
    · intro σ H3 h
      obtain ⟨t5, t6, t7, t8, t9, t10, t11, Bl0, n3, l3, rfl, L, okb, lb, sz, dis⟩ := h
      have dis : 1 ≤ Bl0.len ∧ n3 + 20 * l3 ≤ n + 20 * l ∧ (l3 + 1 = l ∨ d ≤ l3) := by
        rcases dis with ⟨e1, _, _⟩ | e1
        · omega
        · exact e1
      obtain ⟨xs, hf, hb⟩ := L.f
      try dsimp only [tRet]
      refine (val_var rfl) _ (.inl ⟨fo, xs, rfl, SqL.of hf, fun q nq => ?_⟩)
      have s4 := same_upd (o := .tup xs) nq
      exact k _ q Bl0 xs n3 l3 (L.g.mono s4) sz dis.2.1 dis.2.2 okb dis.1 (by omega) upd_same (hb.mono fun b zs e => s4 b _ e)
/-- blocks at depth 3, 2, 1 -/
theorem ok_blocks {f fT fO fS fE fP : Addr} {fd fdT fdO fdS fdE fdP : FuncData} (B : Bt mg) (D__law_plain_block : Df K mg "_law_plain_block" s__law_plain_block f fd ["_law_box_here", "_law_here", "_law_deep", "_law_many"])
    (D__law_take : Df K mg "_law_take" sTake fT fdT ["_law_box_here", "_law_many"]) (D__law_of : Df K mg "_law_of" s__law_of fO fdO ["_law_box_here", "_law_some_here"])
    (D__law_sign : Df K mg "_law_sign" s__law_sign fS fdS ["_law_box_here", "_law_here"])
    (D__law_test : Df K mg "_law_test" s__law_test fE fdE ["_law_box_here", "_law_here"])
    (D__law_plain_one : Df K mg "_law_plain_one" s__law_plain_one fP fdP ["_law_box_here", "_law_here"]) :
    FnOk P w K mg base CX0 7 f fd ["_law_box_here", "_law_here", "_law_deep", "_law_many"] (spGen 1) := by
  have Go := ok_of (P := P) (w := w) (base := base) B D__law_of D__law_take
  have Gs := ok_sign (P := P) (w := w) (base := base) B D__law_sign D__law_of Go
  have Gt := ok_test (P := P) (w := w) (base := base) B D__law_test D__law_take D__law_of Go D__law_sign Gs
  have Gp := ok_plain_one (P := P) (w := w) (base := base) B D__law_plain_one D__law_take D__law_of Go D__law_sign Gs
  have G0 : FnOk P w K mg base CX0 4 f fd ["_law_box_here", "_law_here", "_law_deep", "_law_many"] (spSub 3) := D__law_plain_block.F.ok sc__law_plain_block (fun vs H Q E h => absurd h.1 (by decide)) (fun cdv A outer s H vs Q E hr h => absurd h.1 (by decide))
  have sub : ∀ {d kb : Nat}, FnOk P w K mg base CX0 kb f fd ["_law_box_here", "_law_here", "_law_deep", "_law_many"] (spGen (d + 1)) → FnOk P w K mg base CX0 kb f fd ["_law_box_here", "_law_here", "_law_deep", "_law_many"] (spSub d) := fun F => F.imp fun vs H Q E h => h.2
  have G3 := ok_plain_block (d := 3) (kb := 4) (by decide) (by decide) (by decide) B D__law_plain_block D__law_take D__law_of Go D__law_sign Gs D__law_test Gt D__law_plain_one Gp G0
  have G2 := ok_plain_block (d := 2) (kb := 5) (by decide) (by decide) (by decide) B D__law_plain_block D__law_take D__law_of Go D__law_sign Gs D__law_test Gt D__law_plain_one Gp (sub G3)
  exact ok_plain_block (d := 1) (kb := 6) (by decide) (by decide) (by decide) B D__law_plain_block D__law_take D__law_of Go D__law_sign Gs D__law_test Gt D__law_plain_one Gp (sub G2)
end
end K5
namespace K5
open PySem PySem.Spec PyProof.Rows L2
/-! ### words and rows -/
theorem nm_small : ∀ k : Fin 4, NmOk (toString ((k.val : Nat) : Int)) := by
  unfold NmOk
  decide +kernel
theorem sg_ok {m : Nat} {cs : List Str} {s : Sg} (m4 : m ≤ 4) (ns : ∀ z ∈ cs, NmOk z) (h : okSg m cs s) : NmOk s.t := by
  cases s with
  | n k => exact nm_small ⟨k, Nat.lt_of_lt_of_le h m4⟩
  | w z =>
    rcases h with h | rfl | rfl
    · exact ns z h
    · unfold NmOk Sg.t; decide +kernel
    · unfold NmOk Sg.t; decide +kernel
structure Row where
  d : Nat
  ws : List Str
def rowT (r : Row) : Str := margin r.d ++ Str.join " " r.ws
def RowOk (r : Row) : Prop := r.d ≤ 3 ∧ r.ws ≠ [] ∧ r.ws.length ≤ 4 ∧ ∀ z ∈ r.ws, NmOk z
def condW : List Sg → List Str
  | [x] => [x.t]
  | [o, a, b] => [a.t, o.t, b.t]
  | _ => []
def elseR' (d : Nat) (rows : List Row) : Bl → List Row
  | .nil => []
  | _ => ⟨d, ["else"]⟩ :: rows
def rowsB (d : Nat) : Bl → List Row
  | .nil => []
  | .pl l r => ⟨d, l.map Sg.t⟩ :: rowsB d r
  | .wh c b r => ⟨d, "while" :: condW c⟩ :: (rowsB (d + 1) b ++ rowsB d r)
  | .iff c b e r => ⟨d, "if" :: condW c⟩ :: (rowsB (d + 1) b ++ (elseR' d (rowsB (d + 1) e) e ++ rowsB d r))
theorem str_list' {x y : Str} (h : x.cps.toList = y.cps.toList) : x = y := by
  cases x
  cases y
  congr
  exact Array.toList_inj.mp h
theorem app_assoc3 (x y z : Str) : x ++ y ++ z = x ++ (y ++ z) := by
  refine str_list' ?_
  rw [cps_append, cps_append, cps_append, cps_append, List.append_assoc]
theorem app_len' (x y : Str) : (x ++ y).length = x.length + y.length := by
  show (x.cps ++ y.cps).size = _
  rw [Array.size_append]
  rfl
theorem join2 (c x z : Str) (r : List Str) : Str.join c (x :: z :: r) = x ++ (c ++ Str.join c (z :: r)) := by
  show x ++ c ++ Str.join c (z :: r) = _
  rw [app_assoc3]
theorem jn_len : ∀ {l : List Str}, (∀ z ∈ l, z.length ≤ 10) → (Str.join " " l).length ≤ 11 * l.length
  | [], _ => Nat.zero_le _
  | [x], h => by
    have := h x (List.mem_cons_self ..)
    show x.length ≤ 11
    omega
  | x :: z :: r, h => by
    rw [join2, app_len', app_len']
    have h1 := h x (List.mem_cons_self ..)
    have h2 := jn_len (l := z :: r) fun y hy => h y (List.mem_cons_of_mem _ hy)
    have h3 : (" " : Str).length = 1 := by decide +kernel
    simp only [List.length_cons] at h2 ⊢
    omega
theorem rowT_len {r : Row} (h : RowOk r) : (rowT r).length ≤ 100 := by
  unfold rowT
  rw [app_len']
  have h1 := (margin_ok h.1).2
  have h2 := jn_len (l := r.ws) fun z hz => (h.2.2.2 z hz).2.1
  have h3 := h.2.2.1
  omega
theorem condW_ok {m : Nat} {cs : List Str} {c : List Sg} (m4 : m ≤ 4) (ns : ∀ z ∈ cs, NmOk z) (h : okC m cs c) : condW c ≠ [] ∧ (condW c).length ≤ 3 ∧ ∀ z ∈ condW c, NmOk z := by
  rcases h with rfl | rfl | ⟨o, a, b, rfl, ho, ha, hb⟩
  · refine ⟨(fun e => nomatch e), by decide, fun z hz => ?_⟩
    rw [List.mem_singleton.mp hz]
    unfold NmOk Sg.t
    decide +kernel
  · refine ⟨(fun e => nomatch e), by decide, fun z hz => ?_⟩
    rw [List.mem_singleton.mp hz]
    unfold NmOk Sg.t
    decide +kernel
  · refine ⟨(fun e => nomatch e), Nat.le_refl _, fun z hz => ?_⟩
    simp only [condW, List.mem_cons, List.not_mem_nil, or_false] at hz
    rcases hz with rfl | rfl | rfl
    · exact sg_ok m4 ns ha
    · rcases ho with rfl | rfl
      · unfold NmOk; decide +kernel
      · unfold NmOk; decide +kernel
    · exact sg_ok m4 ns hb
theorem okP_words {m : Nat} {cs ps : List Str} {l : List Sg} (m4 : m ≤ 4) (ns : ∀ z, z ∈ cs ∨ z ∈ ps → NmOk z) (h : okP m cs ps l) : l.map Sg.t ≠ [] ∧ (l.map Sg.t).length ≤ 4 ∧ ∀ z ∈ l.map Sg.t, NmOk z := by
  have sg : ∀ {s : Sg}, okSg m cs s → NmOk s.t := fun h => sg_ok m4 (fun z hz => ns z (.inl hz)) h
  rcases h with ⟨p, d, s, rfl, hp, hd, hs⟩ | ⟨c, s, rfl, hc, hs⟩ | ⟨c, s, rfl, hc, hs⟩ | ⟨c, rfl, hc⟩ | rfl | ⟨s, rfl, hs⟩
  · refine ⟨(fun e => nomatch e), Nat.le_refl _, fun z hz => ?_⟩
    simp only [List.map, Sg.t, List.mem_cons, List.not_mem_nil, or_false] at hz
    rcases hz with rfl | rfl | rfl | rfl
    · unfold NmOk; decide +kernel
    · exact ns _ (.inr hp)
    · rcases hd with rfl | rfl | rfl <;> (unfold NmOk; decide +kernel)
    · exact sg hs
  · refine ⟨(fun e => nomatch e), Nat.le_of_ble_eq_true rfl, fun z hz => ?_⟩
    simp only [List.map, Sg.t, List.mem_cons, List.not_mem_nil, or_false] at hz
    rcases hz with rfl | rfl | rfl
    · unfold NmOk; decide +kernel
    · exact ns _ (.inl hc)
    · exact sg hs
  · refine ⟨(fun e => nomatch e), Nat.le_of_ble_eq_true rfl, fun z hz => ?_⟩
    simp only [List.map, Sg.t, List.mem_cons, List.not_mem_nil, or_false] at hz
    rcases hz with rfl | rfl | rfl
    · unfold NmOk; decide +kernel
    · exact ns _ (.inl hc)
    · exact sg hs
  · refine ⟨(fun e => nomatch e), Nat.le_of_ble_eq_true rfl, fun z hz => ?_⟩
    simp only [List.map, Sg.t, List.mem_cons, List.not_mem_nil, or_false] at hz
    rcases hz with rfl | rfl
    · unfold NmOk; decide +kernel
    · exact ns _ (.inl hc)
  · refine ⟨(fun e => nomatch e), Nat.le_of_ble_eq_true rfl, fun z hz => ?_⟩
    simp only [List.map, Sg.t, List.mem_cons, List.not_mem_nil, or_false] at hz
    rw [hz]
    unfold NmOk; decide +kernel
  · refine ⟨(fun e => nomatch e), Nat.le_of_ble_eq_true rfl, fun z hz => ?_⟩
    simp only [List.map, Sg.t, List.mem_cons, List.not_mem_nil, or_false] at hz
    rcases hz with rfl | rfl
    · unfold NmOk; decide +kernel
    · exact sg hs
theorem nm_else : NmOk "else" := by unfold NmOk; decide +kernel
theorem nm_while : NmOk "while" := by unfold NmOk; decide +kernel
theorem nm_if : NmOk "if" := by unfold NmOk; decide +kernel
theorem head_ok {m : Nat} {cs : List Str} {c : List Sg} {d : Nat} {z : Str} (m4 : m ≤ 4) (ns : ∀ z ∈ cs, NmOk z) (hd : d ≤ 3) (hz : NmOk z) (h : okC m cs c) : RowOk ⟨d, z :: condW c⟩ := by
  obtain ⟨h1, h2, h3⟩ := condW_ok m4 ns h
  refine ⟨hd, (fun e => nomatch e), by show (condW c).length + 1 ≤ 4; omega, fun y hy => ?_⟩
  rcases List.mem_cons.mp hy with rfl | hy
  · exact hz
  · exact h3 y hy
theorem rowsB_ok {m : Nat} {cs ps : List Str} (m4 : m ≤ 4) (ns : ∀ z, z ∈ cs ∨ z ∈ ps → NmOk z) : ∀ {B : Bl} {d : Nat}, d ≤ 3 → okB m cs ps d B → ∀ r ∈ rowsB d B, RowOk r
  | .nil, d, _, _, r, hr => nomatch hr
  | .pl l s, d, hd, h, r, hr => by
    rcases List.mem_cons.mp hr with rfl | hr
    · exact ⟨hd, okP_words m4 ns h.1⟩
    · exact rowsB_ok m4 ns hd h.2 r hr
  | .wh c b s, d, hd, h, r, hr => by
    obtain ⟨h1, h2, _, _, h3, h4⟩ := h
    rcases List.mem_cons.mp hr with rfl | hr
    · exact head_ok m4 (fun z hz => ns z (.inl hz)) hd nm_while h2
    · rcases List.mem_append.mp hr with hr | hr
      · exact rowsB_ok m4 ns h1 h3 r hr
      · exact rowsB_ok m4 ns hd h4 r hr
  | .iff c b e s, d, hd, h, r, hr => by
    obtain ⟨h1, h2, _, _, _, h3, h4, h5⟩ := h
    rcases List.mem_cons.mp hr with rfl | hr
    · exact head_ok m4 (fun z hz => ns z (.inl hz)) hd nm_if h2
    · rcases List.mem_append.mp hr with hr | hr
      · exact rowsB_ok m4 ns h1 h3 r hr
      · rcases List.mem_append.mp hr with hr | hr
        · have hr : r ∈ (⟨d, ["else"]⟩ : Row) :: rowsB (d + 1) e := by
            cases e with
            | nil => cases hr
            | _ => exact hr
          rcases List.mem_cons.mp hr with rfl | hr
          · exact ⟨hd, (fun e => nomatch e), Nat.le_of_ble_eq_true rfl, fun z hz => by rw [List.mem_singleton.mp hz]; exact nm_else⟩
          · exact rowsB_ok m4 ns h1 h4 r hr
        · exact rowsB_ok m4 ns hd h5 r hr
theorem rowsB_len : ∀ {B : Bl} {d : Nat}, (rowsB d B).length ≤ 2 * B.sz
  | .nil, d => Nat.le_refl _
  | .pl l s, d => by
    have := rowsB_len (B := s) (d := d)
    show (rowsB d s).length + 1 ≤ 2 * (1 + s.sz)
    omega
  | .wh c b s, d => by
    have h1 := rowsB_len (B := s) (d := d)
    have h2 := rowsB_len (B := b) (d := d + 1)
    show (rowsB (d + 1) b ++ rowsB d s).length + 1 ≤ 2 * (1 + b.sz + s.sz)
    rw [List.length_append]
    omega
  | .iff c b e s, d => by
    have h1 := rowsB_len (B := s) (d := d)
    have h2 := rowsB_len (B := b) (d := d + 1)
    have h3 := rowsB_len (B := e) (d := d + 1)
    have h4 : (elseR' d (rowsB (d + 1) e) e).length ≤ (rowsB (d + 1) e).length + 1 := by
      cases e with
      | nil => exact Nat.zero_le _
      | _ => exact Nat.le_refl _
    show (rowsB (d + 1) b ++ (elseR' d (rowsB (d + 1) e) e ++ rowsB d s)).length + 1 ≤ 2 * (1 + b.sz + e.sz + s.sz)
    rw [List.length_append, List.length_append]
    omega
end K5
namespace K5
open PySem PySem.Spec PyProof.Rows L2
/-! ### blocks as data -/
def Sg.d : Sg → PyData
  | .n k => .int (k : Nat)
  | .w z => .str z
def dB : Bl → List PyData
  | .nil => []
  | .pl l r => .tuple (l.map Sg.d) :: dB r
  | .wh c b r => .tuple [.str "while", .tuple (c.map Sg.d), .tuple (dB b)] :: dB r
  | .iff c b e r => .tuple [.str "if", .tuple (c.map Sg.d), .tuple (dB b), .tuple (dB e)] :: dB r
def Bl.isNil : Bl → Bool
  | .nil => true
  | _ => false
theorem eqv_dB : ∀ e : Bl, PyData.eqv (.tuple (dB e)) (.tuple []) = e.isNil
  | .nil => rfl
  | .pl _ _ => rfl
  | .wh _ _ _ => rfl
  | .iff _ _ _ _ => rfl
section
variable {K : PySem.W.Frag} {H : Hp}
theorem dp_sg {s : Sg} : Dp K H s.v s.d := by
  cases s with
  | n k => exact .int _
  | w z => exact .str z
theorem dp_sgs : ∀ {l : List Sg}, DpAll K H (l.map Sg.v) (l.map Sg.d)
  | [] => .nil
  | _ :: _ => .cons dp_sg dp_sgs
theorem dp_bl : ∀ {B : Bl} {xs : List V}, BlV H B xs → DpAll K H xs (dB B)
  | .nil, xs, h => by
    rw [show xs = [] from h]
    exact .nil
  | .pl l r, xs, h => by
    obtain ⟨p, ys, rfl, h1, h2⟩ := h
    exact .cons (.tup (SqT.of h1) dp_sgs) (dp_bl h2)
  | .wh c b r, xs, h => by
    obtain ⟨p, q, t, zs, ys, rfl, h1, h2, h3, h4, h5⟩ := h
    exact .cons (.tup (SqT.of h1) (.cons (.str _) (.cons (.tup (SqT.of h2) dp_sgs) (.cons (.tup (SqT.of h3) (dp_bl h4)) .nil)))) (dp_bl h5)
  | .iff c b e r, xs, h => by
    obtain ⟨p, q, t, u, zs, ws, ys, rfl, h1, h2, h3, h4, h5, h6, h7⟩ := h
    exact .cons (.tup (SqT.of h1) (.cons (.str _) (.cons (.tup (SqT.of h2) dp_sgs) (.cons (.tup (SqT.of h3) (dp_bl h5)) (.cons (.tup (SqT.of h4) (dp_bl h6)) .nil))))) (dp_bl h7)
end
theorem lay_sg {m : Nat} {cs : List Str} {s : Sg} (m4 : m ≤ 4) (ns : ∀ z ∈ cs, NmOk z) (h : okSg m cs s) : PyData.canLay0 s.d = true := by
  cases s with
  | n k => rfl
  | w z => exact (sg_ok (s := .w z) m4 ns h).1
/-- each word of it is a text that can be laid, or a number -/
def LayS (s : Sg) : Prop := PyData.canLay0 s.d = true
theorem lay_sgs : ∀ {l : List Sg}, (∀ s ∈ l, LayS s) → PyData.canLayAll0 (l.map Sg.d) = true
  | [], _ => rfl
  | s :: l, h => by
    show (PyData.canLay0 s.d && PyData.canLayAll0 (l.map Sg.d)) = true
    rw [show PyData.canLay0 s.d = true from h s (List.mem_cons_self ..), lay_sgs fun y hy => h y (List.mem_cons_of_mem _ hy)]
    rfl
theorem depth_sgs : ∀ {l : List Sg}, PyData.depthAll (l.map Sg.d) = 0
  | [] => rfl
  | s :: l => by
    show max (PyData.depth s.d) (PyData.depthAll (l.map Sg.d)) = 0
    rw [depth_sgs]
    cases s <;> rfl
theorem layW {z : Str} (h : NmOk z) : LayS (.w z) := h.1
theorem lay_c {m : Nat} {cs : List Str} {c : List Sg} (m4 : m ≤ 4) (ns : ∀ z ∈ cs, NmOk z) (h : okC m cs c) : ∀ s ∈ c, LayS s := by
  rcases h with rfl | rfl | ⟨o, a, b, rfl, ho, ha, hb⟩
  · intro s hs
    rw [List.mem_singleton.mp hs]
    show PyData.strOk "lost" = true
    decide +kernel
  · intro s hs
    rw [List.mem_singleton.mp hs]
    show PyData.strOk "busy" = true
    decide +kernel
  · intro s hs
    simp only [List.mem_cons, List.not_mem_nil, or_false] at hs
    rcases hs with rfl | rfl | rfl
    · show PyData.strOk o = true
      rcases ho with rfl | rfl <;> decide +kernel
    · exact lay_sg m4 ns ha
    · exact lay_sg m4 ns hb
theorem lay_p {m : Nat} {cs ps : List Str} {l : List Sg} (m4 : m ≤ 4) (ns : ∀ z, z ∈ cs ∨ z ∈ ps → NmOk z) (h : okP m cs ps l) : ∀ s ∈ l, LayS s := by
  intro s hs
  have q := (okP_words m4 ns h).2.2 s.t (List.mem_map_of_mem hs)
  cases s with
  | n k => rfl
  | w z => exact q.1
theorem str_lay (z : Str) : PyData.canLay0 (.str z) = PyData.strOk z := rfl
theorem tup_lay (l : List PyData) : PyData.canLay0 (.tuple l) = PyData.canLayAll0 l := rfl
theorem lay_bl {m : Nat} {cs ps : List Str} (m4 : m ≤ 4) (ns : ∀ z, z ∈ cs ∨ z ∈ ps → NmOk z) : ∀ {B : Bl} {d : Nat}, d ≤ 3 → okB m cs ps d B → PyData.canLayAll0 (dB B) = true ∧ PyData.depthAll (dB B) + 2 * d ≤ 10
  | .nil, d, hd, _ => ⟨rfl, by show 0 + 2 * d ≤ 10; omega⟩
  | .pl l r, d, hd, h => by
    obtain ⟨i1, i2⟩ := lay_bl m4 ns hd h.2
    refine ⟨?_, ?_⟩
    · show (PyData.canLayAll0 (l.map Sg.d) && PyData.canLayAll0 (dB r)) = true
      rw [lay_sgs (lay_p m4 ns h.1), i1]
      rfl
    · show max (PyData.depthAll (l.map Sg.d) + 1) (PyData.depthAll (dB r)) + 2 * d ≤ 10
      rw [depth_sgs]
      omega
  | .wh c b r, d, hd, h => by
    obtain ⟨h1, h2, _, _, h3, h4⟩ := h
    obtain ⟨i1, i2⟩ := lay_bl m4 ns hd h4
    obtain ⟨j1, j2⟩ := lay_bl m4 ns h1 h3
    refine ⟨?_, ?_⟩
    · show ((PyData.strOk "while" && (PyData.canLayAll0 (c.map Sg.d) && (PyData.canLayAll0 (dB b) && true))) && PyData.canLayAll0 (dB r)) = true
      rw [lay_sgs (lay_c m4 (fun z hz => ns z (.inl hz)) h2), i1, j1, show PyData.strOk "while" = true by decide +kernel]
      rfl
    · show max (max 0 (max (PyData.depthAll (c.map Sg.d) + 1) (max (PyData.depthAll (dB b) + 1) 0)) + 1) (PyData.depthAll (dB r)) + 2 * d ≤ 10
      rw [depth_sgs]
      omega
  | .iff c b e r, d, hd, h => by
    obtain ⟨h1, h2, _, _, _, h3, h5, h4⟩ := h
    obtain ⟨i1, i2⟩ := lay_bl m4 ns hd h4
    obtain ⟨j1, j2⟩ := lay_bl m4 ns h1 h3
    obtain ⟨k1, k2⟩ := lay_bl m4 ns h1 h5
    refine ⟨?_, ?_⟩
    · show ((PyData.strOk "if" && (PyData.canLayAll0 (c.map Sg.d) && (PyData.canLayAll0 (dB b) && (PyData.canLayAll0 (dB e) && true)))) && PyData.canLayAll0 (dB r)) = true
      rw [lay_sgs (lay_c m4 (fun z hz => ns z (.inl hz)) h2), i1, j1, k1, show PyData.strOk "if" = true by decide +kernel]
      rfl
    · show max (max 0 (max (PyData.depthAll (c.map Sg.d) + 1) (max (PyData.depthAll (dB b) + 1) (max (PyData.depthAll (dB e) + 1) 0))) + 1) (PyData.depthAll (dB r)) + 2 * d ≤ 10
      rw [depth_sgs]
      omega
/-! ### texts of them -/
section
variable {K : PySem.W.Frag} {σ : L2.St} {H : Hp} {ta te : TE} {p : Addr} {xs : List V} {Q : VK}
def rStrSg : List V → Hp → VK → Prop := fun xs H Q => (∃ i, xs = [.int i] ∧ i.natAbs.log2 < 1920 ∧ Q (.str (toString i)) H) ∨ ∃ a, xs = [.str a] ∧ Q (.str a) H
theorem call_strSg {X : Cx} : CallR X (.type "str") rStrSg := CallR.or call_str_int SkE.call_str_str
theorem val_strSg {s : Sg} (h : Val ta σ H s.v) (hk : ∀ k, s = .n k → k < 4) : Val (tCB rStrSg (tCons ta tNil)) σ H (.str s.t) := fun Q q => by
  cases s with
  | n k =>
    have := hk k rfl
    exact h _ (.inl ⟨_, rfl, log_small (by omega), q⟩)
  | w z => exact h _ (.inr ⟨z, rfl, q⟩)
theorem val_lenT (h : Val ta σ H (.ref p)) (hS : SqT K H p xs) : Val (tCB (rLenSq K) (tCons ta tNil)) σ H (.int xs.length) := fun Q q => h _ ⟨p, xs, rfl, .inr hS, q⟩
theorem val_ixT {i : Nat} {v : V} (h : Val ta σ H (.ref p)) (hS : H p = some (.tup xs)) (hi : xs[i]? = some v) : Val (tOp (rIxT K) ta (tC (.int (i : Nat)))) σ H v := val_op h val_c fun Q q => ⟨p, xs, _, v, rfl, rfl, SqT.of hS, atI_nat hi, q⟩
theorem val_addS {z y : Str} {tb : TE} (ha : Val ta σ H (.str z)) (hb : Val tb σ H (.str y)) (hz : z.length + y.length ≤ 10000000) : Val (tOp rAddS ta tb) σ H (.str (z ++ y)) := val_op ha hb fun Q q => ⟨z, y, rfl, rfl, big_size hz, q⟩
/-- !=  () -/
theorem ne_unit {B : Bl} {m d : Nat} {cs ps : List Str} (m4 : m ≤ 4) (ns : ∀ z, z ∈ cs ∨ z ∈ ps → NmOk z) (hd : d ≤ 3) (ok : okB m cs ps d B) (ht : Val te σ H (.ref p)) (hp : H p = some (.tup xs)) (hb : BlV H B xs) : AnsS (tTest (tOp (rNeD K) te (tTup tNil))) σ H (!B.isNil) := fun Q q => by
  dsimp only [tTest, tOp, tTup, tNil]
  refine ht _ ⟨Nat.zero_le _, fun r nr => ?_⟩
  have s1 := same_upd (o := .tup []) nr
  have hb1 := hb.mono (H' := upd H r (.tup [])) fun b zs e => s1 b _ e
  obtain ⟨l1, l2⟩ := lay_bl m4 ns hd ok
  refine ⟨.tuple (dB B), .tuple [], .tup (SqT.of (s1 _ _ hp)) (dp_bl hb1), .tup (SqT.of upd_same) .nil, ?_, by decide, _, rfl, ?_⟩
  · unfold SeqAt.shaped
    rw [Bool.and_eq_true]
    refine ⟨l1, decide_eq_true ?_⟩
    show PyData.depthAll (dB B) + 1 ≤ 64
    omega
  · rw [eqv_dB]
    exact q _ s1
end
theorem small_of {m : Nat} {cs : List Str} {s : Sg} (m4 : m ≤ 4) (h : okSg m cs s) : ∀ k, s = .n k → k < 4 := fun k e => by
  rw [e] at h
  exact Nat.lt_of_lt_of_le h m4
/-! ### the text of a condition -/
abbrev s__law_cond_text : Stmt := topS 31
theorem sc__law_cond_text : FnScope ["_law_cond"] ["_law_cond"] (defScope s__law_cond_text) := ⟨rfl, rfl, rfl, by decide +kernel, rfl, by decide +kernel, by decide +kernel⟩
def spCondText : Sp := fun vs H Q _ => ∃ (p : Addr) (c : List Sg) (m : Nat) (cs : List Str), vs = [.ref p] ∧ H p = some (.tup (c.map Sg.v)) ∧ okC m cs c ∧ m ≤ 4 ∧ (∀ z ∈ cs, NmOk z) ∧ Q (.str (Str.join " " (condW c))) H
section
variable {P : Program} {w : World} {K : PySem.W.Frag} {mg : Str → Option Value} {base : Heap}
theorem ok_cond_text {f : Addr} {fd : FuncData} (B : Bt mg) (D : Df K mg "_law_cond_text" s__law_cond_text f fd ["_law_cond"]) : FnOk P w K mg base CX0 1 f fd ["_law_cond"] spCondText := by
  refine D.F.ok sc__law_cond_text (fun vs H Q E h => ?_) (fun cdv A outer s H vs Q E hr h => ?_)
  · obtain ⟨p, c, m, cs, rfl, _⟩ := h
    rfl
  · obtain ⟨p, c, m, cs, rfl, hp, hc, m4, ns, k⟩ := h
    have S := sc__law_cond_text
    refine ⟨_, (pss_cons (ps_if (pt_cmpR op_eq (pe_callB call_len_seq (by rfl) B.m_len PySem.boot_len (pa_cons (pv 0) pa_nil)) pe_int (nomark _))
        (pss_one (ps_ret (pe_ix ix_tup (pv 0) pe_int (fun _ _ => rfl))))
        pss_nil)
      (pss_one (ps_ret (pe_op op_add_str (pe_op op_add_str (pe_op op_add_str (pe_op op_add_str (pe_callTy call_strSg (by rfl) B.m_str (by decide +kernel) (pa_cons (pe_ix ix_tup (pv 0) pe_int (fun _ _ => rfl)) pa_nil)) pe_str) (pe_ix ix_tup (pv 0) pe_int (fun _ _ => rfl))) pe_str) (pe_callTy call_strSg (by rfl) B.m_str (by decide +kernel) (pa_cons (pe_ix ix_tup (pv 0) pe_int (fun _ _ => rfl)) pa_nil)))))), ?_⟩
    try dsimp only [tSeq, tIfS]
    refine (ans_eq2 (x := .int ((c.map Sg.v).length : Nat)) (v := .int 1) (val_lenT (val_var rfl) (SqT.of hp)) val_c rfl) _ ?_
    rcases hc with rfl | rfl | ⟨o, a, b, rfl, ho, ha, hb⟩
    · refine ite2 (fun _ => ?_) fun e => absurd (decide_eq_true rfl) e
      try dsimp only [tRet]
      exact (val_ixT (i := 0) (val_var rfl) hp rfl) _ k
    · refine ite2 (fun _ => ?_) fun e => absurd (decide_eq_true rfl) e
      try dsimp only [tRet]
      exact (val_ixT (i := 0) (val_var rfl) hp rfl) _ k
    · refine ite2 (fun e => ?_) fun _ => ?_
      · have := of_decide_eq_true e
        injection this with this
        exact absurd this (by show ¬ ((3 : Int) = 1); decide)
      · try dsimp only [tNext, tRet]
        have la := (sg_ok m4 ns ha).2.1
        have lb := (sg_ok m4 ns hb).2.1
        have lo : o.length ≤ 10 := by rcases ho with rfl | rfl <;> decide +kernel
        have l1 : (" " : Str).length = 1 := by decide +kernel
        have e : a.t ++ " " ++ o ++ " " ++ b.t = Str.join " " (condW [.w o, a, b]) := by
          show _ = Str.join " " [a.t, o, b.t]
          rw [join2, join2, app_assoc3, app_assoc3, app_assoc3]
          rfl
        rw [← e] at k
        exact (val_addS (val_addS (val_addS (val_addS (val_strSg (val_ixT (i := 1) (val_var rfl) hp rfl) (small_of m4 ha)) val_c (by omega)) (val_ixT (i := 0) (val_var rfl) hp rfl) (by rw [app_len']; omega)) val_c (by rw [app_len', app_len']; omega)) (val_strSg (val_ixT (i := 2) (val_var rfl) hp rfl) (small_of m4 hb)) (by rw [app_len', app_len', app_len']; omega)) _ k
end
end K5
namespace K5
open PySem PySem.Spec PyProof.Rows L2
abbrev rJoinS (K : PySem.W.Frag) : V → List V → Hp → VK → Prop := fun x xs H Q => ∃ a p, ∃ ys : List Str, x = .str a ∧ xs = [.ref p] ∧ (SqL K H p (ys.map V.str) ∨ SqT K H p (ys.map V.str)) ∧ (ys.map (·.length)).sum + ys.length * a.length ≤ 16777216 ∧ Q (.str (Txt.join a ys)) H
theorem jn_txt (a : Str) (ys : List Str) : Txt.join a ys = Str.join a ys := TL.join_eq a ys
theorem takeSnoc {α : Type} {xs : List α} {k : Nat} {x : α} (h : xs[k]? = some x) : xs.take (k + 1) = xs.take k ++ [x] := by
  rw [List.take_add_one, h]
  rfl
theorem sum_le {f : Str → Nat} {n : Nat} : ∀ {l : List Str}, (∀ z ∈ l, f z ≤ n) → (l.map f).sum ≤ n * l.length
  | [], _ => Nat.zero_le _
  | z :: l, h => by
    have h1 := h z (List.mem_cons_self ..)
    have h2 := sum_le (l := l) fun y hy => h y (List.mem_cons_of_mem _ hy)
    rw [List.map_cons, List.sum_cons, List.length_cons, Nat.mul_succ]
    omega
section
variable {K : PySem.W.Frag} {σ : L2.St} {H : Hp} {p f : Addr} {i j : Nat} {l : List Sg} {Q : VK} {D : Ends} {te : TE} {z : Str} {done : List Str}
theorem ansS_and2 {t u : TT} {a b : Bool} (h1 : AnsS t σ H a) (h2 : a = true → ∀ H', Same H H' → AnsS u σ H' b) : AnsS (tAnd t u) σ H (a && b) := fun Q q => h1 _ fun H1 s1 => by
  cases a with
  | true => exact iteT (h2 rfl H1 s1 _ fun H2 s2 => q H2 (s1.trans s2))
  | false => exact iteF (q H1 s1)
theorem forT_run {g : TG} {tb : TS} {xs : List V} (Pv : Nat → L2.St → Hp → Prop) (hv : σ[j]? = some (some (.ref p))) (hp : H p = some (.tup xs)) (h0 : Pv 0 σ H) (hl : ∀ i σ H, i ≤ xs.length → Pv i σ H → SqT K H p xs)
    (hs : ∀ i x σ H, xs[i]? = some x → Pv i σ H → g x σ H fun σ2 H2 => tb { D with nx := Pv (i + 1), ct := Pv (i + 1), bk := D.nx } σ2 H2) (hd : ∀ σ H, Pv xs.length σ H → D.nx σ H) : tFor (iTup K (tVar j)) g tb D σ H :=
  by
  unfold tFor iTup
  exact (val_var hv) _ ⟨p, rfl, ⟨_, SqT.of hp⟩, for_tup (K := K) (a := p) (xs := xs) Pv h0 hl hs hd⟩
/-- [str(x) for x in t] -/
theorem strs_run (hw : ∀ x, wipe ((wipe σ [i]).set i (some x)) [i] = wipe σ [i]) (hi : ∀ x, ((wipe σ [i]).set i (some x))[i]? = some (some x)) (hv : σ[j]? = some (some (.ref p))) (hp : H p = some (.tup (l.map Sg.v))) (sm : ∀ s ∈ l, ∀ k, s = .n k → k < 4) (few : l.length ≤ 1000)
    (k : ∀ (H' : Hp) (q : Addr), Same H H' → LsAt H' q (l.map Sg.t) → Q (.ref q) H') : tLc (iTup K (tVar j)) (gName i) tYes (tCB rStrSg (tCons (tVar i) tNil)) [i] σ H Q := by
  try dsimp only [tLc, iTup]
  refine (val_var hv) _ ⟨p, rfl, ⟨_, SqT.of hp⟩, fun L nL => ?_⟩
  refine lc_tup (K := K) (a := p) (xs := l.map Sg.v) (fun k H' => Same H H' ∧ LsAt H' L ((l.take k).map Sg.t)) ⟨same_upd nL, upd_same⟩ (fun k H' _ h => SqT.of (h.1 _ _ hp)) (fun m x H' hx h => ?_) fun H' h => k H' L h.1 (by
    have e := h.2
    rw [List.length_map, List.take_length] at e
    exact e)
  obtain ⟨s2, hL⟩ := h
  rw [List.getElem?_map, Option.map_eq_some_iff] at hx
  obtain ⟨u, hu, rfl⟩ := hx
  refine ⟨hw _, ?_⟩
  try dsimp only [tYes]
  rw [if_pos rfl]
  refine (val_strSg (val_var (hi _)) (sm u (List.mem_of_getElem? hu))) _ ⟨_, hL, ?_, fun b o e => ?_, ?_⟩
  · rw [List.length_map, List.length_map]
    exact Nat.lt_of_le_of_lt (List.length_take_le ..) (Nat.lt_of_le_of_lt (by
      have := (List.getElem?_eq_some_iff.mp hu).1
      omega : m ≤ 1000) (by decide))
  · rw [upd_ne (ne_of_none e nL)]
    exact s2 _ _ e
  · unfold LsAt
    rw [upd_same, takeSnoc hu, List.map_append, List.map_append]
    rfl
/-- found.append(a text) -/
theorem app_line (hv : σ[i]? = some (some (.ref f))) (hf : LsAt H f done) (hz : ∀ R : VK, (∀ H', Same H H' → R (.str z) H') → te σ H R) (few : done.length ≤ 900)
    (k : ∀ H', (∀ b o, b ≠ f → H b = some o → H' b = some o) → LsAt H' f (done ++ [z]) → D.nx σ H') : tDrop (tBM K "list" rAppend (tVar i) (tCons te tNil)) D σ H := by
  try dsimp only [tDrop]
  refine bm_run (x := .ref f) (val_var hv) (.inl ⟨rfl, _, SqL.of hf⟩) ?_
  try dsimp only [tCons, tNil]
  refine hz _ fun H' s => ?_
  refine ⟨f, done.map V.str, .str z, rfl, rfl, s _ _ hf, small1000 (by rw [List.length_map]; omega), k _ (fun b o n e => ?_) ?_⟩
  · rw [upd_ne n]
    exact s _ _ e
  · unfold LsAt
    rw [upd_same, List.map_append]
    rfl
end
theorem okP_head {m : Nat} {cs ps : List Str} {l : List Sg} (h : okP m cs ps l) : ∃ (z : Str) (r : List Sg), l = .w z :: r ∧ z ∉ (["if", "while"] : List Str) ∧ z ≠ "if" := by
  rcases h with ⟨p, d, s, rfl, _⟩ | ⟨c, s, rfl, _⟩ | ⟨c, s, rfl, _⟩ | ⟨c, rfl, _⟩ | rfl | ⟨s, rfl, _⟩
  · exact ⟨_, _, rfl, by decide +kernel, by decide +kernel⟩
  · exact ⟨_, _, rfl, by decide +kernel, by decide +kernel⟩
  · exact ⟨_, _, rfl, by decide +kernel, by decide +kernel⟩
  · exact ⟨_, _, rfl, by decide +kernel, by decide +kernel⟩
  · exact ⟨_, _, rfl, by decide +kernel, by decide +kernel⟩
  · exact ⟨_, _, rfl, by decide +kernel, by decide +kernel⟩
theorem okP_small {m : Nat} {cs ps : List Str} {l : List Sg} (m4 : m ≤ 4) (h : okP m cs ps l) : ∀ s ∈ l, ∀ k, s = .n k → k < 4 := by
  have w : ∀ {z : Str} {k : Nat}, Sg.w z = .n k → k < 4 := fun e => nomatch e
  rcases h with ⟨p, d, s, rfl, _, _, hs⟩ | ⟨c, s, rfl, _, hs⟩ | ⟨c, s, rfl, _, hs⟩ | ⟨c, rfl, _⟩ | rfl | ⟨s, rfl, hs⟩ <;> intro x hx k e <;> simp only [List.mem_cons, List.not_mem_nil, or_false] at hx
  · rcases hx with rfl | rfl | rfl | rfl
    · exact w e
    · exact w e
    · exact w e
    · exact small_of m4 hs k e
  · rcases hx with rfl | rfl | rfl
    · exact w e
    · exact w e
    · exact small_of m4 hs k e
  · rcases hx with rfl | rfl | rfl
    · exact w e
    · exact w e
    · exact small_of m4 hs k e
  · rcases hx with rfl | rfl
    · exact w e
    · exact w e
  · rw [hx] at e
    exact w e
  · rcases hx with rfl | rfl
    · exact w e
    · exact small_of m4 hs k e
theorem head_text {d : Nat} {z : Str} {ws : List Str} (ne : ws ≠ []) : margin d ++ z ++ " " ++ Str.join " " ws = rowT ⟨d, z :: ws⟩ := by
  unfold rowT
  cases ws with
  | nil => exact absurd rfl ne
  | cons y r =>
    show _ = margin d ++ Str.join " " (z :: y :: r)
    rw [join2, app_assoc3, app_assoc3]
abbrev s__law_block_lines : Stmt := topS 32
theorem sc__law_block_lines : FnScope ["_law_block", "_law_deep", "_law_found", "_law_pad", "_law_one", "_law_sign_here"] ["_law_block", "_law_deep"] (defScope s__law_block_lines) := ⟨rfl, rfl, rfl, by decide +kernel, rfl, by decide +kernel, by decide +kernel⟩
def spLines (d : Nat) : Sp := fun vs H Q _ => ∃ (p : Addr) (xs : List V) (B : Bl) (m : Nat) (cs ps : List Str), vs = [.ref p, .int (d : Nat)] ∧ H p = some (.tup xs) ∧ BlV H B xs ∧ okB m cs ps d B ∧ m ≤ 4 ∧ (∀ z, z ∈ cs ∨ z ∈ ps → NmOk z) ∧ B.sz ≤ 100 ∧
  ∀ (H' : Hp) (q : Addr), Same H H' → LsAt H' q ((rowsB d B).map rowT) → Q (.ref q) H'
def spLinesSub (d : Nat) : Sp := fun vs H Q E => d < 3 ∧ spLines (d + 1) vs H Q E
section
variable {P : Program} {w : World} {K : PySem.W.Frag} {mg : Str → Option Value} {base : Heap}
theorem ok_block_lines {f fC : Addr} {fd fdC : FuncData} {d kb : Nat} (hd1 : 1 ≤ d) (hd3 : d ≤ 3) (hk : 1 ≤ kb) (B : Bt mg) (D__law_block_lines : Df K mg "_law_block_lines" s__law_block_lines f fd ["_law_block", "_law_deep"])
    (D__law_cond_text : Df K mg "_law_cond_text" s__law_cond_text fC fdC ["_law_cond"]) (G__law_block_lines : FnOk P w K mg base CX0 kb f fd ["_law_block", "_law_deep"] (spLinesSub d)) :
    FnOk P w K mg base CX0 (kb + 1) f fd ["_law_block", "_law_deep"] (spLines d) := by
  have G__law_cond_text : FnOk P w K mg base CX0 1 fC fdC ["_law_cond"] spCondText := ok_cond_text B D__law_cond_text
  refine D__law_block_lines.F.ok sc__law_block_lines (fun vs H Q E h => ?_) (fun cdv A outer s H vs Q E hr h => ?_)
  · obtain ⟨p, xs, B, m, cs, ps, rfl, _⟩ := h
    rfl
  · obtain ⟨p, xs, B0, m, cs, ps, rfl, hp, hb, okb, m4, ns, sz, k⟩ := h
    have S := sc__law_block_lines
    have hu := hr.units
    refine ⟨_, (pss_cons (ps_par (i := 2) (j := 3) (by rfl) S.nd rfl rfl (by decide) rfl rfl (pa_cons (pe_lst pa_nil) (pa_cons (pe_op op_repS pe_str (pv 1)) pa_nil)) (by rfl))
      (pss_cons (ps_for PassesOwn.never rfl (pi_tup (pv 0)) (pg_name (i := 4) S.nd rfl (.inl rfl))
        (pss_cons (ps_if (pt_cmpR op_in_seq (pe_ix ix_tup (pv 4) pe_int (fun _ _ => rfl)) (pe_tup (pa_cons pe_str (pa_cons pe_str pa_nil))) (by rfl))
          (pss_cons (ps_expr (pe_bm PySem.F.plainAttrs_list PySem.F.slot_list_append PySem.F.type_list_append mt_append (pv 2) (pa_cons (pe_op op_add_str (pe_op op_add_str (pe_op op_add_str (pv 3) (pe_ix ix_tup (pv 4) pe_int (fun _ _ => rfl))) pe_str) (pe_call G__law_cond_text (hr.mono (by omega)) (by rfl) D__law_cond_text.g D__law_cond_text.F.kp D__law_cond_text.b .nil pass0 (pa_cons (pe_ix ix_tup (pv 4) pe_int (fun _ _ => rfl)) pa_nil))) pa_nil)))
          (pss_one (ps_set (i := 2) S.nd rfl (.inl rfl) (pe_op op_cat (pv 2) (pe_call G__law_block_lines (hr.mono (by omega)) (by rfl) D__law_block_lines.g D__law_block_lines.F.kp D__law_block_lines.b .nil pass0 (pa_cons (pe_ix ix_tup (pv 4) pe_int (fun _ _ => rfl)) (pa_cons (pe_op op_add (pv 1) pe_int) pa_nil)))))))
          (pss_one (ps_expr (pe_bm PySem.F.plainAttrs_list PySem.F.slot_list_append PySem.F.type_list_append mt_append (pv 2) (pa_cons (pe_op op_add_str (pv 3) (pe_bm PySem.F.plainAttrs_str PySem.F.slot_str_join PySem.F.type_str_join mt_join pe_str (pa_cons (pe_lc (own := [("_law_sign_here", 5)]) (g := gName 5) (tt := tYes) rfl S.nd (pi_tup (pv 4)) (blkOk_by (own := [("_law_sign_here", 5)]) (N := ["_law_block", "_law_deep", "_law_found", "_law_pad", "_law_one", "_law_sign_here"]) (sc := defScope s__law_block_lines) (by decide +kernel)) (fun _ _ _ _ _ => pg_name (i := 5) S.nd rfl (Or.inl rfl)) (fun _ _ _ _ _ => pts_nil) (fun _ _ _ _ _ => pe_callTy call_strSg (by rfl) B.m_str (by decide +kernel) (pa_cons (pv 5) pa_nil))) pa_nil))) pa_nil)))))
        (pss_one (ps_if (PW.pt (pw_and (pt_cmpR op_eq (pe_ix ix_tup (pv 4) pe_int (fun _ _ => rfl)) pe_str (nomark _)) (pw_and1 (pt_cmpR (op_neD (by exact hu)) (pe_ix ix_tup (pv 4) pe_int (fun _ _ => rfl)) (pe_tup pa_nil) (nomark _)))))
          (pss_cons (ps_expr (pe_bm PySem.F.plainAttrs_list PySem.F.slot_list_append PySem.F.type_list_append mt_append (pv 2) (pa_cons (pe_op op_add_str (pv 3) pe_str) pa_nil)))
          (pss_one (ps_set (i := 2) S.nd rfl (.inl rfl) (pe_op op_cat (pv 2) (pe_call G__law_block_lines (hr.mono (by omega)) (by rfl) D__law_block_lines.g D__law_block_lines.F.kp D__law_block_lines.b .nil pass0 (pa_cons (pe_ix ix_tup (pv 4) pe_int (fun _ _ => rfl)) (pa_cons (pe_op op_add (pv 1) pe_int) pa_nil)))))))
          pss_nil))))
      (pss_one (ps_ret (pv 2))))), ?_⟩
    try dsimp only [tSeq, tPar, tCons, tNil]
    refine ⟨Nat.zero_le _, fun f0 nf0 => ?_⟩
    have mo := margin_ok hd3
    refine (val_repS val_c (val_var rfl) mo.1) _ ?_
    refine ⟨_, _, rfl, ?_⟩
    have s0 := same_upd (o := .lst []) nf0
    have hf0 : (upd H f0 (.lst [])) f0 = some (.lst []) := upd_same
    generalize (upd H f0 (.lst [])) = H0 at s0 hf0
    try dsimp only [tSeq]
    have lA : ((rowsB d B0).map rowT).length ≤ 200 := by
      rw [List.length_map]
      have := rowsB_len (B := B0) (d := d)
      omega
    refine forT_run (K := K) (j := 0) (p := p) (xs := xs) (fun i σ H' => ∃ (f : Addr) (t4 t5 : Option V) (rest : Bl) (done : List Str), σ = [some (.ref p), some (.int (d : Nat)), some (.ref f), some (.str (margin d)), t4, t5] ∧ Same H H' ∧ H f = none ∧ LsAt H' f done ∧
      BlV H rest (xs.drop i) ∧ okB m cs ps d rest ∧ rest.sz ≤ 100 ∧ done ++ (rowsB d rest).map rowT = (rowsB d B0).map rowT) rfl (s0 _ _ hp) ⟨f0, _, _, B0, [], rfl, s0, nf0, hf0, hb, okb, sz, rfl⟩ (fun i σ H' _ h => ?_) ?_ ?_
    · obtain ⟨f, t4, t5, rest, done, _, s1, _⟩ := h
      exact SqT.of (s1 _ _ hp)
    · intro i x σ H1 hx h
      obtain ⟨f, t4, t5, rest, done, rfl, s1, nf, hf, hbr, okr, szr, eq⟩ := h
      have hdrop : xs.drop i = x :: xs.drop (i + 1) := by
        obtain ⟨hl, e⟩ := List.getElem?_eq_some_iff.mp hx
        rw [List.drop_eq_getElem_cons hl, e]
      rw [hdrop] at hbr
      have ld : done.length ≤ 200 := by
        rw [← eq, List.length_append] at lA
        omega
      have l1 : (" " : Str).length = 1 := by decide +kernel
      try dsimp only [gName, tSeq, tIfS]
      cases rest with
      | nil => cases hbr
      | pl l r =>
        obtain ⟨q, ys, e, h1, h2⟩ := hbr
        injection e with e1 e2
        subst e1 e2
        obtain ⟨z, l', rfl, z1, z2⟩ := okP_head okr.1
        refine run_in2 (z := z) (val_ixT (i := 0) (val_var rfl) (s1 _ _ h1) rfl) fun H2 s2 => ⟨_, rfl, ?_⟩
        refine ite2 (fun e => absurd (of_decide_eq_true e) z1) fun _ => ?_
        have s12 := s1.trans s2
        obtain ⟨w1, w2, w3⟩ := okP_words m4 ns okr.1
        refine app_line (z := rowT ⟨d, (Sg.w z :: l').map Sg.t⟩) rfl (show LsAt H2 f done from s2 _ _ hf) (fun R kR => ?_) (by omega) fun H3 k3 hf3 => ?_
        · try dsimp only [tOp]
          refine (val_var rfl) _ ?_
          refine bm_run (x := .str " ") val_c rfl ?_
          try dsimp only [tCons, tNil]
          refine strs_run (fun _ => rfl) (fun _ => rfl) (j := 4) rfl (s12 _ _ h1) (okP_small m4 okr.1) (by rw [List.length_map] at w2; omega) fun H3 q3 s3 hq3 => ?_
          refine ⟨" ", q3, _, rfl, rfl, .inl (SqL.of hq3), ?_, ?_⟩
          · have := sum_le (f := (·.length)) (n := 10) (l := (Sg.w z :: l').map Sg.t) fun y hy => (w3 y hy).2.1
            rw [l1]
            omega
          · rw [jn_txt]
            have := jn_len (l := (Sg.w z :: l').map Sg.t) fun y hy => (w3 y hy).2.1
            exact ⟨_, _, rfl, rfl, big_size (by omega), kR _ s3⟩
        · have s13 : Same H H3 := fun b o e => k3 b o (ne_of_none e nf) (s12 b o e)
          refine (ansS_and2 (a := false) (b := false) (Ans.s (ans_eq (val_ixT (i := 0) (val_var rfl) (s13 _ _ h1) rfl) val_c rfl (decide_eq_false fun e => z2 (by injection e)))) fun e => nomatch e) _ fun H4 s4 => ?_
          refine iteF ?_
          refine ⟨f, _, _, r, done ++ [rowT ⟨d, (Sg.w z :: l').map Sg.t⟩], rfl, s13.trans s4, nf, s4 _ _ hf3, h2, okr.2, ?_, ?_⟩
          · have : (1 + r.sz) ≤ 100 := szr
            omega
          · rw [List.append_assoc, ← eq]
            rfl
      | wh c b r =>
        obtain ⟨q, qc, qt, zs, ys, e, h1, h2, h3, h4, h5⟩ := hbr
        injection e with e1 e2
        subst e1 e2
        obtain ⟨hd2, okc, _, _, ok1, ok2⟩ := okr
        have csn : ∀ z ∈ cs, NmOk z := fun z hz => ns z (.inl hz)
        obtain ⟨w1, w2, w3⟩ := condW_ok m4 csn okc
        refine run_in2 (z := "while") (val_ixT (i := 0) (val_var rfl) (s1 _ _ h1) rfl) fun H2 s2 => ⟨_, rfl, ?_⟩
        refine ite2 (fun _ => ?_) fun e => absurd (decide_eq_true (show ("while" : Str) ∈ (["if", "while"] : List Str) by decide +kernel)) e
        have s12 := s1.trans s2
        have lw : ("while" : Str).length = 5 := by decide +kernel
        have lj := jn_len (l := condW c) fun y hy => (w3 y hy).2.1
        try dsimp only [tSeq]
        refine app_line (z := rowT ⟨d, "while" :: condW c⟩) rfl (show LsAt H2 f done from s2 _ _ hf) (fun R kR => ?_) (by omega) fun H3 k3 hf3 => ?_
        · rw [← head_text w1] at kR
          refine (val_addS (val_addS (val_addS (val_var rfl) (val_ixT (i := 0) (val_var rfl) (s12 _ _ h1) rfl) (by omega)) val_c (by rw [app_len']; omega)) (show Val (tCall spCondText [] E0 (tCons (tOp (rIxT K) (tVar 4) (tC (.int 1))) tNil)) _ _ (.str (Str.join " " (condW c))) from fun Q q => (val_ixT (i := 1) (val_var rfl) (s12 _ _ h1) rfl) _ ⟨qc, c, m, cs, rfl, s12 _ _ h2, okc, m4, csn, q⟩) (by rw [app_len', app_len']; omega)) _ (kR _ (Same.refl _))
        · have s13 : Same H H3 := fun b o e => k3 b o (ne_of_none e nf) (s12 b o e)
          try dsimp only [tSeq, tAsg, tOp]
          refine (val_var rfl) _ ?_
          try dsimp only [tCall, tCons, tNil]
          refine (val_ixT (i := 2) (val_var rfl) (s13 _ _ h1) rfl) _ ?_
          refine (val_i0 (val_var rfl) val_c) _ ?_
          refine ⟨hd2, qt, zs, b, m, cs, ps, rfl, s13 _ _ h3, h4.mono fun a l e => s13 a _ e, ok1, m4, ns, ?_, fun H5 q5 s5 hq5 => ?_⟩
          · have : (1 + b.sz + r.sz) ≤ 100 := szr
            omega
          have s15 := s13.trans s5
          have lb : ((rowsB (d + 1) b).map rowT).length ≤ 200 := by
            rw [List.length_map]
            have := rowsB_len (B := b) (d := d + 1)
            have : (1 + b.sz + r.sz) ≤ 100 := szr
            omega
          refine ⟨f, q5, _, _, rfl, rfl, s5 _ _ hf3, hq5, by rw [List.length_map, List.length_map, List.length_append]; exact Nat.le_trans (show _ ≤ 1000 by show done.length + 1 + _ ≤ 1000; omega) (by decide), fun f2 nf2 => ?_⟩
          have s6 := same_upd (o := .lst ((done ++ [rowT ⟨d, "while" :: condW c⟩]).map V.str ++ ((rowsB (d + 1) b).map rowT).map V.str)) nf2
          have hf6 : (upd H5 f2 (.lst ((done ++ [rowT ⟨d, "while" :: condW c⟩]).map V.str ++ ((rowsB (d + 1) b).map rowT).map V.str))) f2 = some (.lst ((done ++ [rowT ⟨d, "while" :: condW c⟩]).map V.str ++ ((rowsB (d + 1) b).map rowT).map V.str)) := upd_same
          generalize (upd H5 f2 (.lst ((done ++ [rowT ⟨d, "while" :: condW c⟩]).map V.str ++ ((rowsB (d + 1) b).map rowT).map V.str))) = H6 at s6 hf6
          have s16 := s15.trans s6
          try dsimp only [gName]
          try dsimp only [tSeq, tIfS]
          refine (ansS_and2 (a := false) (b := false) (Ans.s (show Ans _ _ _ false from (ans_eq (val_ixT (i := 0) (val_var rfl) (s16 _ _ h1) rfl) val_c rfl (by decide +kernel)))) fun e => nomatch e) _ fun H7 s7 => ?_
          refine iteF ?_
          refine ⟨f2, _, _, r, done ++ [rowT ⟨d, "while" :: condW c⟩] ++ (rowsB (d + 1) b).map rowT, rfl, s16.trans s7, s15.free nf2, ?_, h5, ok2, ?_, ?_⟩
          · unfold LsAt
            rw [List.map_append]
            exact s7 _ _ hf6
          · have : (1 + b.sz + r.sz) ≤ 100 := szr
            omega
          · rw [← eq]
            show _ = done ++ (rowT ⟨d, "while" :: condW c⟩ :: (rowsB (d + 1) b ++ rowsB d r).map rowT)
            rw [List.map_append, List.append_assoc, List.append_assoc]
            rfl
      | iff c b e r =>
        obtain ⟨q, qc, qt, qu, zs, ws, ys, e0, h1, h2, h3, h4, h5, h6, h7⟩ := hbr
        injection e0 with e1 e2
        subst e1 e2
        obtain ⟨hd2, okc, _, _, _, ok1, oke, ok2⟩ := okr
        have csn : ∀ z ∈ cs, NmOk z := fun z hz => ns z (.inl hz)
        obtain ⟨w1, w2, w3⟩ := condW_ok m4 csn okc
        refine run_in2 (z := "if") (val_ixT (i := 0) (val_var rfl) (s1 _ _ h1) rfl) fun H2 s2 => ⟨_, rfl, ?_⟩
        refine ite2 (fun _ => ?_) fun e => absurd (decide_eq_true (show ("if" : Str) ∈ (["if", "while"] : List Str) by decide +kernel)) e
        have s12 := s1.trans s2
        have lw : ("if" : Str).length = 2 := by decide +kernel
        have lj := jn_len (l := condW c) fun y hy => (w3 y hy).2.1
        have szr' : (1 + b.sz + e.sz + r.sz) ≤ 100 := szr
        try dsimp only [tSeq]
        refine app_line (z := rowT ⟨d, "if" :: condW c⟩) rfl (show LsAt H2 f done from s2 _ _ hf) (fun R kR => ?_) (by omega) fun H3 k3 hf3 => ?_
        · rw [← head_text w1] at kR
          refine (val_addS (val_addS (val_addS (val_var rfl) (val_ixT (i := 0) (val_var rfl) (s12 _ _ h1) rfl) (by omega)) val_c (by rw [app_len']; omega)) (show Val (tCall spCondText [] E0 (tCons (tOp (rIxT K) (tVar 4) (tC (.int 1))) tNil)) _ _ (.str (Str.join " " (condW c))) from fun Q q => (val_ixT (i := 1) (val_var rfl) (s12 _ _ h1) rfl) _ ⟨qc, c, m, cs, rfl, s12 _ _ h2, okc, m4, csn, q⟩) (by rw [app_len', app_len']; omega)) _ (kR _ (Same.refl _))
        · have s13 : Same H H3 := fun b o e => k3 b o (ne_of_none e nf) (s12 b o e)
          try dsimp only [tSeq, tAsg, tOp]
          refine (val_var rfl) _ ?_
          try dsimp only [tCall, tCons, tNil]
          refine (val_ixT (i := 2) (val_var rfl) (s13 _ _ h1) rfl) _ ?_
          refine (val_i0 (val_var rfl) val_c) _ ?_
          refine ⟨hd2, qt, zs, b, m, cs, ps, rfl, s13 _ _ h3, h5.mono fun a l e => s13 a _ e, ok1, m4, ns, by omega, fun H5 q5 s5 hq5 => ?_⟩
          have s15 := s13.trans s5
          have lb : ((rowsB (d + 1) b).map rowT).length ≤ 200 := by
            rw [List.length_map]
            have := rowsB_len (B := b) (d := d + 1)
            omega
          have le : ((rowsB (d + 1) e).map rowT).length ≤ 200 := by
            rw [List.length_map]
            have := rowsB_len (B := e) (d := d + 1)
            omega
          refine ⟨f, q5, _, _, rfl, rfl, s5 _ _ hf3, hq5, by rw [List.length_map, List.length_map, List.length_append]; exact Nat.le_trans (show _ ≤ 1000 by show done.length + 1 + _ ≤ 1000; omega) (by decide), fun f2 nf2 => ?_⟩
          have s6 := same_upd (o := .lst ((done ++ [rowT ⟨d, "if" :: condW c⟩]).map V.str ++ ((rowsB (d + 1) b).map rowT).map V.str)) nf2
          have hf6 : (upd H5 f2 (.lst ((done ++ [rowT ⟨d, "if" :: condW c⟩]).map V.str ++ ((rowsB (d + 1) b).map rowT).map V.str))) f2 = some (.lst ((done ++ [rowT ⟨d, "if" :: condW c⟩]).map V.str ++ ((rowsB (d + 1) b).map rowT).map V.str)) := upd_same
          generalize (upd H5 f2 (.lst ((done ++ [rowT ⟨d, "if" :: condW c⟩]).map V.str ++ ((rowsB (d + 1) b).map rowT).map V.str))) = H6 at s6 hf6
          have s16 := s15.trans s6
          have nf2' := s15.free nf2
          have hf6 : LsAt H6 f2 (done ++ [rowT ⟨d, "if" :: condW c⟩] ++ (rowsB (d + 1) b).map rowT) := by
            unfold LsAt
            rw [List.map_append]
            exact hf6
          have ld6 : (done ++ [rowT ⟨d, "if" :: condW c⟩] ++ (rowsB (d + 1) b).map rowT).length ≤ 401 := by
            rw [List.length_append, List.length_append]
            show done.length + 1 + _ ≤ 401
            omega
          have eq6 : done ++ [rowT ⟨d, "if" :: condW c⟩] ++ (rowsB (d + 1) b).map rowT ++ (elseR' d (rowsB (d + 1) e) e ++ rowsB d r).map rowT = (rowsB d B0).map rowT := by
            rw [← eq]
            show _ = done ++ (rowT ⟨d, "if" :: condW c⟩ :: (rowsB (d + 1) b ++ (elseR' d (rowsB (d + 1) e) e ++ rowsB d r)).map rowT)
            rw [List.map_append (l₁ := rowsB (d + 1) b), List.append_assoc, List.append_assoc]
            rfl
          generalize done ++ [rowT ⟨d, "if" :: condW c⟩] ++ (rowsB (d + 1) b).map rowT = done2 at hf6 ld6 eq6
          try dsimp only [gName]
          try dsimp only [tSeq, tIfS]
          refine (ansS_and2 (a := true) (b := !e.isNil) (Ans.s (show Ans _ _ _ true from (ans_eq (val_ixT (i := 0) (val_var rfl) (s16 _ _ h1) rfl) val_c rfl (by decide +kernel)))) fun _ H' s => ne_unit m4 ns hd2 oke (val_ixT (i := 3) (val_var rfl) (s _ _ (s16 _ _ h1)) rfl) (s _ _ (s16 _ _ h4)) (h6.mono fun a l e => s a _ (s16 a _ e))) _ fun H7 s7 => ?_
          have s17 := s16.trans s7
          refine ite2 (fun en => ?_) fun en => ?_
          · have el : elseR' d (rowsB (d + 1) e) e = ⟨d, ["else"]⟩ :: rowsB (d + 1) e := by
              cases e with
              | nil => exact absurd en (by decide)
              | _ => rfl
            rw [el] at eq6
            try dsimp only [tSeq]
            have le4 : ("else" : Str).length = 4 := by decide +kernel
            refine app_line (z := rowT ⟨d, ["else"]⟩) rfl (show LsAt H7 f2 done2 from s7 _ _ hf6) (fun R kR => ?_) (by omega) fun H8 k8 hf8 => ?_
            · exact (val_addS (z := margin d) (y := "else") (val_var rfl) val_c (by omega)) _ (kR _ (Same.refl _))
            · have s18 : Same H H8 := fun b o e => k8 b o (ne_of_none e nf2') (s17 b o e)
              try dsimp only [tSeq, tAsg, tOp]
              refine (val_var rfl) _ ?_
              try dsimp only [tCall, tCons, tNil]
              refine (val_ixT (i := 3) (val_var rfl) (s18 _ _ h1) rfl) _ ?_
              refine (val_i0 (val_var rfl) val_c) _ ?_
              refine ⟨hd2, qu, ws, e, m, cs, ps, rfl, s18 _ _ h4, h6.mono fun a l e => s18 a _ e, oke, m4, ns, by omega, fun H9 q9 s9 hq9 => ?_⟩
              have s19 := s18.trans s9
              refine ⟨f2, q9, _, _, rfl, rfl, s9 _ _ hf8, hq9, by rw [List.length_map, List.length_map, List.length_append]; exact Nat.le_trans (show _ ≤ 1000 by show done2.length + 1 + _ ≤ 1000; omega) (by decide), fun f3 nf3 => ?_⟩
              refine ⟨f3, _, _, r, done2 ++ [rowT ⟨d, ["else"]⟩] ++ (rowsB (d + 1) e).map rowT, rfl, s19.trans (same_upd nf3), s19.free nf3, ?_, h7, ok2, by omega, ?_⟩
              · unfold LsAt
                rw [upd_same, List.map_append, List.map_append, List.map_append]
              · rw [← eq6]
                show _ = done2 ++ (rowT ⟨d, ["else"]⟩ :: (rowsB (d + 1) e ++ rowsB d r).map rowT)
                rw [List.map_append, List.append_assoc, List.append_assoc]
                rfl
          · have el : elseR' d (rowsB (d + 1) e) e = [] := by
              cases e with
              | nil => rfl
              | _ => exact absurd rfl en
            rw [el] at eq6
            exact ⟨f2, _, _, r, done2, rfl, s17, nf2', s7 _ _ hf6, h7, ok2, by omega, eq6⟩
    · intro σ H1 h
      obtain ⟨f, t4, t5, rest, done, rfl, s1, nf, hf, hbr, okr, szr, eq⟩ := h
      rw [List.drop_length] at hbr
      have : rest = .nil := by
        have := hbr.len
        cases rest with
        | nil => rfl
        | _ => simp only [List.length_nil, Bl.len] at this; omega
      subst this
      refine (val_var rfl) _ (k _ f s1 ?_)
      rw [← eq]
      show LsAt H1 f (done ++ [])
      rw [List.append_nil]
      exact hf
theorem ok_lines {f fC : Addr} {fd fdC : FuncData} (B : Bt mg) (D__law_block_lines : Df K mg "_law_block_lines" s__law_block_lines f fd ["_law_block", "_law_deep"])
    (D__law_cond_text : Df K mg "_law_cond_text" s__law_cond_text fC fdC ["_law_cond"]) : FnOk P w K mg base CX0 4 f fd ["_law_block", "_law_deep"] (spLines 1) := by
  have G0 : FnOk P w K mg base CX0 1 f fd ["_law_block", "_law_deep"] (spLinesSub 3) := D__law_block_lines.F.ok sc__law_block_lines (fun vs H Q E h => absurd h.1 (by decide)) (fun cdv A outer s H vs Q E hr h => absurd h.1 (by decide))
  have G3 := ok_block_lines (d := 3) (kb := 1) (by decide) (by decide) (by decide) B D__law_block_lines D__law_cond_text G0
  have G2 := ok_block_lines (d := 2) (kb := 2) (by decide) (by decide) (by decide) B D__law_block_lines D__law_cond_text (G3.imp fun vs H Q E h => h.2)
  exact ok_block_lines (d := 1) (kb := 3) (by decide) (by decide) (by decide) B D__law_block_lines D__law_cond_text (G2.imp fun vs H Q E h => h.2)
end
end K5
namespace K5
open PySem PySem.Spec PyProof.Rows L2
/-! ### a drawn part -/
structure Dr where
  (m : Nat) (cs : List (Str × Nat)) (ps : List Str) (ds : List (Str × Bl))
def PrV (H : Hp) (xs : List V) (cs : List (Str × Nat)) : Prop := Paired (fun x (q : Str × Nat) => ∃ p, x = V.ref p ∧ H p = some (.tup [.str q.1, .int (q.2 : Nat)])) xs cs
def DoV (H : Hp) (xs : List V) (ds : List (Str × Bl)) : Prop := Paired (fun x (q : Str × Bl) => ∃ p t zs, x = V.ref p ∧ H p = some (.tup [.str q.1, .ref t]) ∧ H t = some (.tup zs) ∧ BlV H q.2 zs) xs ds
theorem PrV.mono {H H' : Hp} {xs : List V} {cs : List (Str × Nat)} (h : PrV H xs cs) (k : TupK H H') : PrV H' xs cs := paired_imp (fun x q h => by
  obtain ⟨p, e, h1⟩ := h
  exact ⟨p, e, k _ _ h1⟩) h
theorem DoV.mono {H H' : Hp} {xs : List V} {ds : List (Str × Bl)} (h : DoV H xs ds) (k : TupK H H') : DoV H' xs ds := paired_imp (fun x q h => by
  obtain ⟨p, t, zs, e, h1, h2, h3⟩ := h
  exact ⟨p, t, zs, e, k _ _ h1, k _ _ h2, h3.mono k⟩) h
theorem Same.tup {H H' : Hp} (s : Same H H') : TupK H H' := fun a xs e => s a _ e
def someNm : List Str := ["n", "set", "if", "else", "cell", "port", "door", "while", "any", "eightlet"]
def doorNm : List Str := ["get", "door", "set", "it", "got", "lost", "answer", "eightlet"]
def portNm : List Str := someNm ++ (["it", "lost"] : List Str)
/-- all that is drawn of a part -/
structure DrOk (D : Dr) : Prop where
  m2 : 2 ≤ D.m
  m4 : D.m ≤ 4
  c3 : D.cs.length ≤ 3
  cn : ∀ q ∈ D.cs, q.1 ∈ someNm ∧ q.2 < D.m
  cd : (D.cs.map (·.1)).Nodup
  p2 : D.ps.length ≤ 2
  pn : ∀ z ∈ D.ps, z ∈ portNm
  pd : D.ps.Nodup
  d1 : 1 ≤ D.ds.length
  d3 : D.ds.length ≤ 3
  dn : ∀ q ∈ D.ds, q.1 ∈ doorNm
  dd : (D.ds.map (·.1)).Nodup
  db : ∀ q ∈ D.ds, okB D.m (D.cs.map (·.1)) D.ps 1 q.2 ∧ 1 ≤ q.2.len ∧ q.2.len ≤ 5 ∧ q.2.sz + 1 ≤ 22 / D.ds.length
theorem someNm_ok : ∀ z ∈ portNm, NmOk z := by
  unfold NmOk
  decide +kernel
theorem doorNm_ok : ∀ z ∈ doorNm, NmOk z := by
  unfold NmOk
  decide +kernel
theorem strs_of : ∀ {ys : List V} {l : List Str}, (∀ y ∈ ys, y ∈ l.map V.str) → ∃ zs : List Str, ys = zs.map V.str ∧ ∀ z ∈ zs, z ∈ l
  | [], l, _ => ⟨[], rfl, fun z hz => nomatch hz⟩
  | y :: ys, l, h => by
    obtain ⟨zs, e, h2⟩ := strs_of (ys := ys) fun x hx => h x (List.mem_cons_of_mem _ hx)
    obtain ⟨z, hz, e2⟩ := List.mem_map.mp (h y (List.mem_cons_self ..))
    refine ⟨z :: zs, by rw [e, ← e2]; rfl, fun x hx => ?_⟩
    rcases List.mem_cons.mp hx with rfl | hx
    · exact hz
    · exact h2 x hx
/-- what is drawn of distinct texts is distinct -/
theorem drawn {ys rest : List V} {l : List Str} (nd : l.Nodup) (h : (ys ++ rest).Perm (l.map V.str)) : ∃ zs : List Str, ys = zs.map V.str ∧ (∀ z ∈ zs, z ∈ l) ∧ zs.Nodup := by
  obtain ⟨zs, e, h2⟩ := strs_of (ys := ys) (l := l) fun y hy => h.mem_iff.mp (List.mem_append_left _ hy)
  refine ⟨zs, e, h2, ?_⟩
  have inj : ∀ a b : Str, V.str a = V.str b → a = b := fun a b h => by injection h
  have n1 : (l.map V.str).Nodup := by
    unfold List.Nodup at nd ⊢
    rw [List.pairwise_map]
    exact nd.imp fun h e => h (inj _ _ e)
  have n2 : (ys ++ rest).Nodup := h.nodup_iff.mpr n1
  have n3 := (List.nodup_append.mp n2).1
  rw [e] at n3
  unfold List.Nodup at n3 ⊢
  rw [List.pairwise_map] at n3
  exact n3.imp fun h e => h (by rw [e])
theorem putK_new {κ : Type} [DecidableEq κ] {kvs : List (κ × V)} {k : κ} {v : V} (h : valV kvs k = none) : putK kvs k v = kvs ++ [(k, v)] := by
  unfold putK
  rw [valV_any, h]
  rfl
theorem disp3 {x y z : V} : mergeK [] [((.inr "cells" : Key), x), (.inr "ports", y), (.inr "doors", z)] = [((.inr "cells" : Key), x), (.inr "ports", y), (.inr "doors", z)] := by
  show putK (putK (putK [] (.inr "cells" : Key) x) (.inr "ports") y) (.inr "doors") z = _
  rw [putK_new (kvs := []) rfl, putK_new (kvs := [] ++ [_]) (valV_neg (kne (by decide +kernel))), putK_new (kvs := [] ++ [_] ++ [_]) ((valV_neg (kne (by decide +kernel))).trans (valV_neg (kne (by decide +kernel))))]
  rfl
theorem disp4 {A : Gd} : mergeK [] [((.inr "worths" : Key), .int (A.m : Nat)), (.inr "cells", .ref A.cA), (.inr "ports", .ref A.pA), (.inr "left", .int 0)] = hrD A 0 := by
  show putK (putK (putK (putK [] (.inr "worths" : Key) _) (.inr "cells") _) (.inr "ports") _) (.inr "left") _ = _
  rw [putK_new (kvs := []) rfl, putK_new (kvs := [] ++ [_]) (valV_neg (kne (by decide +kernel))), putK_new (kvs := [] ++ [_] ++ [_]) ((valV_neg (kne (by decide +kernel))).trans (valV_neg (kne (by decide +kernel)))), putK_new (kvs := [] ++ [_] ++ [_] ++ [_]) ((valV_neg (kne (by decide +kernel))).trans ((valV_neg (kne (by decide +kernel))).trans (valV_neg (kne (by decide +kernel)))))]
  rfl
def plK (tc tp td : Addr) : List (Key × V) := [(.inr "cells", .ref tc), (.inr "ports", .ref tp), (.inr "doors", .ref td)]
def PlAt (H : Hp) (r : Addr) (D : Dr) : Prop := ∃ (tc tp td : Addr) (xs ys : List V), H r = some (.dK (plK tc tp td)) ∧ H tc = some (.tup xs) ∧ PrV H xs D.cs ∧ H tp = some (.tup (D.ps.map V.str)) ∧ H td = some (.tup ys) ∧ DoV H ys D.ds
section
variable {K : PySem.W.Frag} {σ : L2.St} {H : Hp} {p : Addr} {j : Nat} {D : Ends}
theorem forL_run {g : TG} {tb : TS} {xs : List V} (Pv : Nat → L2.St → Hp → Prop) (hv : σ[j]? = some (some (.ref p))) (hp : H p = some (.lst xs)) (h0 : Pv 0 σ H) (hl : ∀ i σ H, i ≤ xs.length → Pv i σ H → SqL K H p xs)
    (hs : ∀ i x σ H, xs[i]? = some x → Pv i σ H → g x σ H fun σ2 H2 => tb { D with nx := Pv (i + 1), ct := Pv (i + 1), bk := D.nx } σ2 H2) (hd : ∀ σ H, Pv xs.length σ H → D.nx σ H) : tFor (iList K (tVar j)) g tb D σ H := by
  unfold tFor iList
  exact (val_var hv) _ ⟨p, rfl, ⟨_, SqL.of hp⟩, for_list (K := K) (a := p) (xs := xs) Pv h0 hl hs hd⟩
/-- _law_some of texts that are laid, so many as are drawn -/
theorem some_run {b : Addr} {p q n : Int} {zs : List Str} {lo hi : Nat} {tl tm : TE} {i : Nat} {Q : VK} (hv : σ[i]? = some (some (.ref b))) (hb : H b = some (.lst (bx p q n))) (Bx : Box p q n) (nd : zs.Nodup) (hz : hi ≤ zs.length) (h1000 : zs.length ≤ 900) (hn : n + 1000 < 1000000) (ht : LV tl σ H zs)
    (hm : ∀ (H1 : Hp) (R : VK), H1 b = some (.lst (bx p q n)) → (∀ (d : Nat) (p' n' : Int), lo ≤ d → d ≤ hi → Box p' q n' → n' ≤ n + 1 → R (.int (d : Nat)) (upd H1 b (.lst (bx p' q n')))) → tm σ H1 R)
    (k : ∀ (H' : Hp) (r : Addr) (ys : List Str) (p' n' : Int), SameBut b H H' → H r = none → H' r = some (.lst (ys.map V.str)) → H' b = some (.lst (bx p' q n')) → Box p' q n' → n' ≤ n + 1 + hi → (∀ y ∈ ys, y ∈ zs) → ys.Nodup → lo ≤ ys.length → ys.length ≤ hi → Q (.ref r) H') :
    tCall (spSome K) [] E0 (tCons (tVar i) (tCons tl (tCons tm tNil))) σ H Q := by
  try dsimp only [tCall, tCons, tNil]
  refine (val_var hv) _ ?_
  refine ht H _ (Same.refl _) fun H1 l s1 hl => ?_
  have hb1 := s1 _ _ hb
  refine hm H1 _ hb1 fun d p' n' d0 d1 B2 hn' => ?_
  have nlb : l ≠ b := fun e => by
    unfold LsAt at hl
    rw [e, hb1] at hl
    injection hl with hl
    injection hl with hl
    cases zs with
    | nil => cases hl
    | cons z r => cases hl
  have hl2 : (upd H1 b (.lst (bx p' q n'))) l = some (.lst (zs.map V.str)) := by
    rw [upd_ne nlb]
    exact hl
  refine ⟨b, l, zs.map V.str, d, p', q, n', rfl, upd_same, B2, SqL.of hl2, by rw [List.length_map]; omega, by rw [List.length_map]; omega, by omega, fun H' r ys rest p2 n2 sb nr hr hb2 B3 hn2 ly pm => ?_⟩
  obtain ⟨us, rfl, mu, ndu⟩ := drawn nd pm
  rw [List.length_map] at ly
  have sbt : SameBut b H H' := fun a o na e => sb a o na (by rw [upd_ne na]; exact s1 _ _ e)
  have nr0 : H r = none := by
    have nrb : r ≠ b := fun e => by rw [e, upd_same] at nr; cases nr
    rw [upd_ne nrb] at nr
    exact s1.free nr
  exact k H' r us p2 n2 sbt nr0 hr hb2 B3 (by omega) mu ndu (by omega) (by omega)
theorem LV.ten {a b c d e f g h u v : Str} : LV (tLst (tCons (tC (.str a)) (tCons (tC (.str b)) (tCons (tC (.str c)) (tCons (tC (.str d)) (tCons (tC (.str e)) (tCons (tC (.str f)) (tCons (tC (.str g)) (tCons (tC (.str h)) (tCons (tC (.str u)) (tCons (tC (.str v)) tNil))))))))))) σ H [a, b, c, d, e, f, g, h, u, v] := fun H1 Q _ q => ⟨by show 10 ≤ sizeLine; decide, fun p np => q _ p (same_upd np) upd_same⟩
theorem LV.eight {a b c d e f g h : Str} : LV (tLst (tCons (tC (.str a)) (tCons (tC (.str b)) (tCons (tC (.str c)) (tCons (tC (.str d)) (tCons (tC (.str e)) (tCons (tC (.str f)) (tCons (tC (.str g)) (tCons (tC (.str h)) tNil))))))))) σ H [a, b, c, d, e, f, g, h] := fun H1 Q _ q => ⟨by show 8 ≤ sizeLine; decide, fun p np => q _ p (same_upd np) upd_same⟩
/-- a draw where only the box is known -/
theorem take_box {b : Addr} {p q n m : Int} {tm : TE} {i : Nat} {Q : VK} (hv : σ[i]? = some (some (.ref b))) (hm : Val tm σ H (.int m)) (hb : H b = some (.lst (bx p q n))) (Bx : Box p q n) (m0 : 0 < m) (m1 : m < 1000000) (hn : n < 1000000)
    (k : ∀ (d p' n' : Int), 0 ≤ d → d < m → Box p' q n' → n' ≤ n + 1 → Q (.int d) (upd H b (.lst (bx p' q n')))) : tCall spTake [] E0 (tCons (tVar i) (tCons tm tNil)) σ H Q := by
  try dsimp only [tCall, tCons, tNil]
  refine (val_var hv) _ ?_
  refine hm _ ?_
  exact ⟨b, m, p, q, n, rfl, hb, Bx, hn, m0, m1, k⟩
end
theorem Gs.new {A : Gd} {H0 H : Hp} {n l : Nat} {a : Addr} {o : HO} (g : Gs A H0 H n l) (n0 : H0 a = none) (nb : a ≠ A.b) (nh : a ≠ A.h) (nc : A.cA ≠ a) (np : A.pA ≠ a) : Gs A H0 (upd H a o) n l := { g with
  k2 := fun x o n1 n2 e => by
    rw [upd_ne (ne_of_none e n0)]
    exact g.k2 x o n1 n2 e
  bx := by
    obtain ⟨p, i, h1, h2⟩ := g.bx
    exact ⟨p, i, by rw [upd_ne nb.symm]; exact h1, h2⟩
  he := by rw [upd_ne nh.symm]; exact g.he
  c := by rw [upd_ne nc]; exact g.c
  p := by rw [upd_ne np]; exact g.p }
theorem paired_snoc {α β : Type} {F : α → β → Prop} {xs : List α} {ys : List β} {x : α} {y : β} (h : Paired F xs ys) (e : F x y) : Paired F (xs ++ [x]) (ys ++ [y]) := by
  induction h with
  | nil => exact .cons e .nil
  | cons a b ih => exact .cons a ih
abbrev s__law_whole_part : Stmt := topS 38
theorem sc__law_whole_part : FnScope ["_law_box_here", "_law_worths", "_law_some_here", "_law_cells", "_law_ports", "_law_doors", "_law_here", "_law_told", "_law_door", "_law_firsts", "_law_name"] ["_law_box_here", "_law_worths"] (defScope s__law_whole_part) := ⟨rfl, rfl, rfl, by decide +kernel, rfl, by decide +kernel, by decide +kernel⟩
def spWhole : Sp := fun vs H Q _ => ∃ (b : Addr) (m : Nat) (p q n : Int), vs = [.ref b, .int (m : Nat)] ∧ H b = some (.lst (bx p q n)) ∧ Box p q n ∧ 2 ≤ m ∧ m ≤ 4 ∧ n + 2000 < 1000000 ∧
  ∀ (H' : Hp) (r : Addr) (D : Dr) (p' n' : Int), SameBut b H H' → H' b = some (.lst (bx p' q n')) → Box p' q n' → n' ≤ n + 1500 → D.m = m → DrOk D → PlAt H' r D → Q (.ref r) H'
section
variable {P : Program} {w : World} {K : PySem.W.Frag} {mg : Str → Option Value} {base : Heap}
theorem ok_whole_part {f fT fS fB : Addr} {fd fdT fdS fdB : FuncData} (B : Bt mg) (D__law_whole_part : Df K mg "_law_whole_part" s__law_whole_part f fd ["_law_box_here", "_law_worths"])
    (D__law_take : Df K mg "_law_take" sTake fT fdT ["_law_box_here", "_law_many"]) (D__law_some : Df K mg "_law_some" s__law_some fS fdS ["_law_box_here", "_law_items", "_law_many"])
    (D__law_plain_block : Df K mg "_law_plain_block" s__law_plain_block fB fdB ["_law_box_here", "_law_here", "_law_deep", "_law_many"]) (G__law_plain_block : FnOk P w K mg base CX0 7 fB fdB ["_law_box_here", "_law_here", "_law_deep", "_law_many"] (spGen 1)) :
    FnOk P w K mg base CX0 8 f fd ["_law_box_here", "_law_worths"] spWhole := by
  have G__law_take : FnOk P w K mg base CX0 1 fT fdT ["_law_box_here", "_law_many"] spTake := ok_take (CX := CX0) D__law_take.F B.m_int
  have G__law_some : FnOk P w K mg base CX0 2 fS fdS ["_law_box_here", "_law_items", "_law_many"] (spSome K) := ok_some B D__law_some D__law_take
  refine D__law_whole_part.F.ok sc__law_whole_part (fun vs H Q E h => ?_) (fun cdv A outer s H vs Q E hr h => ?_)
  · obtain ⟨b, m, p, q, n, rfl, _⟩ := h
    rfl
  · obtain ⟨b, m, p, q, n, rfl, hb, Bx, m2, m4, hn, k⟩ := h
    have S := sc__law_whole_part
    refine ⟨_, (pss_cons (ps_set (i := 2) S.nd rfl (.inl rfl) (pe_lst (pa_cons pe_str (pa_cons pe_str (pa_cons pe_str (pa_cons pe_str (pa_cons pe_str (pa_cons pe_str (pa_cons pe_str (pa_cons pe_str (pa_cons pe_str (pa_cons pe_str pa_nil))))))))))))
      (pss_cons (ps_set (i := 3) S.nd rfl (.inl rfl) (pe_call G__law_some (hr.mono (by decide)) (by rfl) D__law_some.g D__law_some.F.kp D__law_some.b .nil pass0 (pa_cons (pv 0) (pa_cons (pv 2) (pa_cons (pe_call G__law_take (hr.mono (by decide)) (by rfl) D__law_take.g D__law_take.F.kp D__law_take.b .nil pass0 (pa_cons (pv 0) (pa_cons pe_int pa_nil))) pa_nil)))))
      (pss_cons (ps_set (i := 4) S.nd rfl (.inl rfl) (pe_call G__law_some (hr.mono (by decide)) (by rfl) D__law_some.g D__law_some.F.kp D__law_some.b .nil pass0 (pa_cons (pv 0) (pa_cons (pe_op op_cat (pv 2) (pe_lst (pa_cons pe_str (pa_cons pe_str pa_nil)))) (pa_cons (pe_call G__law_take (hr.mono (by decide)) (by rfl) D__law_take.g D__law_take.F.kp D__law_take.b .nil pass0 (pa_cons (pv 0) (pa_cons pe_int pa_nil))) pa_nil)))))
      (pss_cons (ps_set (i := 5) S.nd rfl (.inl rfl) (pe_call G__law_some (hr.mono (by decide)) (by rfl) D__law_some.g D__law_some.F.kp D__law_some.b .nil pass0 (pa_cons (pv 0) (pa_cons (pe_lst (pa_cons pe_str (pa_cons pe_str (pa_cons pe_str (pa_cons pe_str (pa_cons pe_str (pa_cons pe_str (pa_cons pe_str (pa_cons pe_str pa_nil))))))))) (pa_cons (pe_op op_add pe_int (pe_call G__law_take (hr.mono (by decide)) (by rfl) D__law_take.g D__law_take.F.kp D__law_take.b .nil pass0 (pa_cons (pv 0) (pa_cons pe_int pa_nil)))) pa_nil)))))
      (pss_cons (ps_par (i := 6) (j := 7) (by rfl) S.nd rfl rfl (by decide) rfl rfl (pa_cons (pe_disp (pps_cons pe_str (pv 1) (pps_cons pe_str (pv 3) (pps_cons pe_str (pv 4) (pps_cons pe_str pe_int pps_nil)))) (by rfl) (by rfl) (by simp) (by decide)) (pa_cons (pe_lst pa_nil) pa_nil)) (by rfl))
      (pss_cons (ps_for PassesOwn.never rfl (pi_list (pv 5)) (pg_name (i := 8) S.nd rfl (.inl rfl))
        (pss_cons (ps_dput (hu_of hr) (pv 6) pe_str (pe_toInt (by rfl) B.m_int (pe_op op_fdiv pe_int (pe_callB call_len_seq (by rfl) B.m_len PySem.boot_len (pa_cons (pv 5) pa_nil)))) rfl)
        (pss_one (ps_expr (pe_bm PySem.F.plainAttrs_list PySem.F.slot_list_append PySem.F.type_list_append mt_append (pv 7) (pa_cons (pe_tup (pa_cons (pv 8) (pa_cons (pe_call G__law_plain_block (hr.mono (by decide)) (by rfl) D__law_plain_block.g D__law_plain_block.F.kp D__law_plain_block.b .nil pass0 (pa_cons (pv 0) (pa_cons (pv 6) (pa_cons pe_int (pa_cons pe_int pa_nil))))) pa_nil))) pa_nil))))))
      (pss_cons (ps_set (i := 9) S.nd rfl (.inl rfl) (pe_tupleOf (by rfl) B.m_tuple (pe_lc (own := [("_law_name", 10)]) (g := gName 10) (tt := tYes) rfl S.nd (pi_list (pv 3)) (blkOk_by (own := [("_law_name", 10)]) (N := ["_law_box_here", "_law_worths", "_law_some_here", "_law_cells", "_law_ports", "_law_doors", "_law_here", "_law_told", "_law_door", "_law_firsts", "_law_name"]) (sc := defScope s__law_whole_part) (by decide +kernel)) (fun _ _ _ _ _ => pg_name (i := 10) S.nd rfl (Or.inl rfl)) (fun _ _ _ _ _ => pts_nil) (fun _ _ _ _ _ => pe_tup (pa_cons (pv 10) (pa_cons (pe_call G__law_take (hr.mono (by decide)) (by rfl) D__law_take.g D__law_take.F.kp D__law_take.b .nil pass0 (pa_cons (pv 0) (pa_cons (pv 1) pa_nil))) pa_nil))))))
      (pss_one (ps_ret (pe_disp (pps_cons pe_str (pv 9) (pps_cons pe_str (pe_tupleOf (by rfl) B.m_tuple (pv 4)) (pps_cons pe_str (pe_tupleOf (by rfl) B.m_tuple (pv 7)) pps_nil))) (by rfl) (by rfl) (by simp) (by decide))))))))))), ?_⟩
    try dsimp only [tSeq, tAsg]
    -- the names
    have v1 : LV _ (start ["_law_box_here", "_law_worths", "_law_some_here", "_law_cells", "_law_ports", "_law_doors", "_law_here", "_law_told", "_law_door", "_law_firsts", "_law_name"] [.ref b, .int (m : Nat)]) H someNm := LV.ten
    refine v1 H _ (Same.refl _) fun H1 ls s1 hls => ?_
    try dsimp only [gName, tSeq, tAsg]
    have hb1 := s1 _ _ hb
    have nls : ls ≠ b := fun e => by
      unfold LsAt at hls
      rw [e, hb1] at hls
      cases hls
    refine some_run (K := K) (zs := someNm) (lo := 0) (hi := 3) rfl hb1 Bx (by decide +kernel) (by decide) (by decide) (by omega) (LV.v rfl hls) (fun H2 R hb2 kR => take_box rfl val_c hb2 Bx (by decide) (by decide) (by omega) fun d p' n' d0 d1 B2 h2 => ?_) fun H2 cA cs p2 n2 sb2 ncA hcA hb2 B2 hn2 mc ndc c0 c3 => ?_
    · have := kR d.toNat p' n' (by omega) (by omega) B2 h2
      rw [show ((d.toNat : Nat) : Int) = d by omega] at this
      exact this
    try dsimp only [gName, tSeq, tAsg]
    have hls2 : LsAt H2 ls someNm := sb2 _ _ nls hls
    have pNd : portNm.Nodup := by decide +kernel
    refine some_run (K := K) (zs := portNm) (lo := 0) (hi := 2) rfl hb2 B2 pNd (by decide) (by decide) (by omega) (show LV (tOp rCat (tVar 2) (tLst (tCons (tC (.str "it")) (tCons (tC (.str "lost")) tNil)))) _ H2 portNm from LV.cat (LV.v rfl hls2) (LV.two SV.c SV.c) (by decide)) (fun H3 R hb3 kR => take_box rfl val_c hb3 B2 (by decide) (by decide) (by omega) fun d p' n' d0 d1 B3 h3 => ?_) fun H3 pA ps p3 n3 sb3 npA hpA hb3 B3 hn3 mp ndp p0 p2' => ?_
    · have := kR d.toNat p' n' (by omega) (by omega) B3 h3
      rw [show ((d.toNat : Nat) : Int) = d by omega] at this
      exact this
    try dsimp only [gName, tSeq, tAsg]
    refine some_run (K := K) (zs := doorNm) (lo := 1) (hi := 3) rfl hb3 B3 (by decide +kernel) (by decide) (by decide) (by omega) LV.eight (fun H4 R hb4 kR => ?_) fun H4 dA ds p4 n4 sb4 ndA hdA hb4 B4 hn4 md ndd d0 d3 => ?_
    · try dsimp only [tOp]
      refine val_c _ (take_box rfl val_c hb4 B3 (by decide) (by decide) (by omega) fun d p' n' d0 d1 B4 h4 => ?_)
      have := kR (1 + d.toNat) p' n' (by omega) (by omega) B4 h4
      rw [show ((1 + d.toNat : Nat) : Int) = 1 + d by omega] at this
      exact ⟨_, _, rfl, rfl, this⟩
    have ncb : cA ≠ b := fun e => by rw [e, hb1] at ncA; cases ncA
    have npb : pA ≠ b := fun e => by rw [e, hb2] at npA; cases npA
    have ndb : dA ≠ b := fun e => by rw [e, hb3] at ndA; cases ndA
    have hcA := sb4 _ _ ncb (sb3 _ _ ncb hcA)
    have hpA := sb4 _ _ npb hpA
    have sb14 : SameBut b H H4 := fun a o na e => sb4 a o na (sb3 a o na (sb2 a o na (s1 a o e)))
    clear sb2 sb3 sb4 hls hls2 hb1 hb2 hb3 s1
    try dsimp only [gName, tSeq, tPar, tCons, tNil]
    refine fun h nh => ?_
    try dsimp only [tPairs]
    refine val_c _ ((val_var rfl) _ (val_c _ ((val_var rfl) _ (val_c _ ((val_var rfl) _ (val_c _ (val_c _ ⟨upd_same, [((.inr "worths" : Key), .int (m : Nat)), (.inr "cells", .ref cA), (.inr "ports", .ref pA), (.inr "left", .int 0)], rfl, Nat.le_of_ble_eq_true rfl, ?_⟩)))))))
    rw [show mergeK [] [((.inr "worths" : Key), V.int (m : Nat)), (.inr "cells", .ref cA), (.inr "ports", .ref pA), (.inr "left", .int 0)] = hrD ⟨b, h, cA, pA, q, m, cs, ps⟩ 0 from disp4 (A := ⟨b, h, cA, pA, q, m, cs, ps⟩)]
    have hne : ∀ {a : Addr} {o : HO}, H4 a = some o → a ≠ h := fun e => ne_of_none e nh
    have s5 : Same H4 (upd (upd H4 h (.dK [])) h (.dK (hrD ⟨b, h, cA, pA, q, m, cs, ps⟩ 0))) := fun a o e => by
      rw [upd_ne (hne e), upd_ne (hne e)]
      exact e
    have hh : (upd (upd H4 h (.dK [])) h (.dK (hrD ⟨b, h, cA, pA, q, m, cs, ps⟩ 0))) h = some (.dK (hrD ⟨b, h, cA, pA, q, m, cs, ps⟩ 0)) := upd_same
    generalize (upd (upd H4 h (.dK [])) h (.dK (hrD ⟨b, h, cA, pA, q, m, cs, ps⟩ 0))) = H5 at s5 hh
    have nn : ∃ N : Nat, n4 ≤ N ∧ (N : Int) ≤ n + 20 := by
      refine ⟨(max n4 0).toNat, by omega, ?_⟩
      have := Bx.n0
      omega
    obtain ⟨N, N1, N2⟩ := nn
    have g5 : Gs ⟨b, h, cA, pA, q, m, cs, ps⟩ H5 H5 N 0 := {
      k2 := fun _ _ _ _ e => e
      bx := ⟨p4, n4, s5 _ _ hb4, B4, N1⟩
      he := hh
      c := s5 _ _ hcA
      p := s5 _ _ hpA
      cb := ncb
      pb := npb
      m4 := m4
      c3 := c3
      p2 := p2'
      ns := fun z hz => by
        refine someNm_ok z ?_
        rcases hz with hz | hz
        · exact List.mem_append_left _ (mc z hz)
        · exact mp z hz }
    refine ⟨Nat.zero_le _, fun ta nta => ⟨_, _, rfl, ?_⟩⟩
    have s6 := same_upd (o := .lst []) nta
    have hta : (upd H5 ta (.lst [])) ta = some (.lst []) := upd_same
    generalize (upd H5 ta (.lst [])) = H6 at s6 hta
    have ntb : ta ≠ b := fun e => by rw [e, s5 _ _ hb4] at nta; cases nta
    have nth : ta ≠ h := fun e => by rw [e, hh] at nta; cases nta
    have ntc : cA ≠ ta := fun e => by rw [← e, s5 _ _ hcA] at nta; cases nta
    have ntp : pA ≠ ta := fun e => by rw [← e, s5 _ _ hpA] at nta; cases nta
    have ndh : dA ≠ h := hne hdA
    have hd5 := s5 _ _ hdA
    have d22 : 7 ≤ 22 / ds.length ∧ 22 / ds.length ≤ 22 := by
      have : ds.length = 1 ∨ ds.length = 2 ∨ ds.length = 3 := by omega
      rcases this with e | e | e <;> rw [e] <;> decide
    try dsimp only [tSeq]
    refine forL_run (K := K) (j := 5) (p := dA) (xs := ds.map V.str) (fun i σ H' => ∃ (t8 : Option V) (N' l' : Nat) (xs : List V) (done : List (Str × Bl)), σ = [some (.ref b), some (.int (m : Nat)), some (.ref ls), some (.ref cA), some (.ref pA), some (.ref dA), some (.ref h), some (.ref ta), t8, none, none] ∧
      Gs ⟨b, h, cA, pA, q, m, cs, ps⟩ H5 H' N' l' ∧ N' ≤ N + 441 * i ∧ H' ta = some (.lst xs) ∧ DoV H' xs done ∧ done.map (·.1) = ds.take i ∧ ∀ q ∈ done, okB m cs ps 1 q.2 ∧ 1 ≤ q.2.len ∧ q.2.len ≤ 5 ∧ q.2.sz + 1 ≤ 22 / ds.length) rfl (s6 _ _ hd5)
      ⟨none, N, 0, [], [], rfl, g5.mono s6, by omega, hta, .nil, rfl, fun q hq => nomatch hq⟩ (fun i σ H' _ hh => ?_) ?_ ?_
    · obtain ⟨t8, N', l', xs, done, _, g, _⟩ := hh
      exact SqL.of (g.k2 _ _ ndb ndh hd5)
    · intro i x σ H7 hx hI
      obtain ⟨t8, N', l', xs, done, rfl, g7, n7, ht7, hD, eD, okD⟩ := hI
      rw [List.getElem?_map, Option.map_eq_some_iff] at hx
      obtain ⟨z, hz, rfl⟩ := hx
      have hi : i < ds.length := (List.getElem?_eq_some_iff.mp hz).1
      have hd7 := g7.k2 _ _ ndb ndh hd5
      try dsimp only [gName, tSeq]
      have e22 : ((22 : Int) / ((ds.map V.str).length : Nat)) = ((22 / ds.length : Nat) : Int) := by
        rw [List.length_map]
        rfl
      refine (val_toInt (val_iC val_c (val_lenL (val_var rfl) (SqL.of hd7)) ⟨by rw [List.length_map]; omega, by rw [List.length_map]; omega⟩)) _ ((val_var rfl) _ (val_c _ ⟨h, _, rfl, DPut.k (k := .inr "left") g7.he (Nat.lt_of_lt_of_le (show 4 < 5 by decide) (by decide)), ?_⟩))
      rw [e22, hr_put]
      have g8 := g7.put (l' := 22 / ds.length)
      have ht8 : (upd H7 h (.dK (hrD ⟨b, h, cA, pA, q, m, cs, ps⟩ (22 / ds.length)))) ta = some (.lst xs) := by rw [upd_ne nth]; exact ht7
      have hD := DoV.mono hD (H' := upd H7 h (.dK (hrD ⟨b, h, cA, pA, q, m, cs, ps⟩ (22 / ds.length)))) fun a zs e => by
        rw [upd_ne (ne_of e g7.he fun e => nomatch e)]
        exact e
      try dsimp only []
      generalize (upd H7 h (.dK (hrD ⟨b, h, cA, pA, q, m, cs, ps⟩ (22 / ds.length)))) = H8 at g8 ht8 hD
      try dsimp only [tDrop]
      refine bm_run (x := .ref ta) (val_var rfl) (.inl ⟨rfl, _, SqL.of ht8⟩) ?_
      try dsimp only [tTup, tCall, tCons, tNil]
      refine (val_var rfl) _ ((val_var rfl) _ ((val_var rfl) _ (val_c _ (val_c _ ?_))))
      have hi3 : i ≤ 2 := by omega
      refine ⟨⟨b, h, cA, pA, q, m, cs, ps⟩, N', 22 / ds.length, 5, rfl, g8.start, by omega, by decide, by decide, by omega, fun H9 r Bk zs n9 l9 g9 e1 e2 e3 okb lb1 lb5 hr hb => ?_⟩
      have g9' := g8.trans g9
      have ht9 := g9.k2 _ _ ntb nth ht8
      have hD := DoV.mono hD (Gs.tup g8.start g9)
      refine ⟨by show 2 ≤ sizeLine; decide, fun u nu => ?_⟩
      have s10 := same_upd (o := .tup [.str z, .ref r]) nu
      have hu10 : (upd H9 u (.tup [.str z, .ref r])) u = some (.tup [.str z, .ref r]) := upd_same
      generalize (upd H9 u (.tup [.str z, .ref r])) = H10 at s10 hu10
      have g10 := g9'.mono s10
      have hD := DoV.mono hD (Same.tup s10)
      have ht10 := s10 _ _ ht9
      have lxs : xs.length = done.length := Paired.length hD
      have ldn : done.length ≤ 3 := by
        have := congrArg List.length eD
        rw [List.length_map, List.length_take] at this
        omega
      refine ⟨ta, xs, .ref u, rfl, rfl, ht10, small1000 (by omega), ?_⟩
      have kt : TupK H10 (upd H10 ta (.lst (xs ++ [.ref u]))) := fun a zs e => by
        rw [upd_ne (ne_of e ht10 fun e => nomatch e)]
        exact e
      refine ⟨_, n9, l9, xs ++ [.ref u], done ++ [(z, Bk)], rfl, g10.new nta ntb nth ntc ntp, by omega, upd_same, DoV.mono (paired_snoc (y := (z, Bk)) hD ⟨u, r, zs, rfl, hu10, s10 _ _ hr, hb.mono (Same.tup s10)⟩) kt, ?_, fun q hq => ?_⟩
      · rw [List.map_append, eD, takeSnoc hz]
        rfl
      · rcases List.mem_append.mp hq with hq | hq
        · exact okD q hq
        · rw [List.mem_singleton.mp hq]
          exact ⟨okb, lb1, lb5, by show Bk.sz + 1 ≤ _; omega⟩
    · intro σ H7 hI
      obtain ⟨t8, N', l', xs, done, rfl, g7, n7, ht7, hD, eD, okD⟩ := hI
      rw [List.length_map] at eD n7
      rw [List.take_length] at eD
      try dsimp only [tSeq, tAsg, tThen]
      obtain ⟨p7, n7', hb7, B7, le7⟩ := g7.bx
      have hc7 : H7 cA = some (.lst (cs.map V.str)) := g7.c
      have hp7 : H7 pA = some (.lst (ps.map V.str)) := g7.p
      try dsimp only [tLc, iList]
      refine (val_var rfl) _ ⟨cA, rfl, ⟨_, SqL.of hc7⟩, fun L nL => ?_⟩
      have nLb : L ≠ b := fun e => by rw [e, hb7] at nL; cases nL
      refine lc_list (K := K) (a := cA) (xs := cs.map V.str) (fun i H' => ∃ (ys : List V) (fs : List (Str × Nat)) (p' n' : Int), (∀ a o, a ≠ b → H7 a = some o → H' a = some o) ∧ H' b = some (.lst (bx p' q n')) ∧ Box p' q n' ∧ n' ≤ n7' + i ∧ H' L = some (.lst ys) ∧ PrV H' ys fs ∧ fs.map (·.1) = cs.take i ∧ ∀ q ∈ fs, q.2 < m)
        ⟨[], [], p7, n7', fun a o na e => by rw [upd_ne (ne_of_none e nL)]; exact e, by rw [upd_ne nLb.symm]; exact hb7, B7, by omega, upd_same, .nil, rfl, fun q hq => nomatch hq⟩ (fun i H' _ h => ?_) (fun i x H' hx hI => ?_) fun H' hI => ?_
      · obtain ⟨ys, fs, p', n', k', _⟩ := h
        exact SqL.of (k' _ _ ncb hc7)
      · obtain ⟨ys, fs, p', n', k', hb', B', le', hL', hP', eP, ltP⟩ := hI
        rw [List.getElem?_map, Option.map_eq_some_iff] at hx
        obtain ⟨z, hz, rfl⟩ := hx
        have hi : i < cs.length := (List.getElem?_eq_some_iff.mp hz).1
        refine ⟨rfl, ?_⟩
        try dsimp only [tYes]
        rw [if_pos rfl]
        try dsimp only [tTup, tCons, tNil]
        refine (val_var rfl) _ ?_
        refine take_box (m := (m : Nat)) rfl (val_var rfl) hb' B' (by omega) (by omega) (by omega) fun d p2 n2 d0 d1 B2 h2 => ?_
        refine ⟨by show 2 ≤ sizeLine; decide, fun u nu => ?_⟩
        have s10 := same_upd (o := .tup [.str z, .int d]) nu
        have hu10 : (upd (upd H' b (.lst (bx p2 q n2))) u (.tup [.str z, .int d])) u = some (.tup [.str z, .int d]) := upd_same
        have kt : TupK H' (upd (upd H' b (.lst (bx p2 q n2))) u (.tup [.str z, .int d])) := fun a zs e => s10 _ _ (by
          rw [upd_ne (ne_of e hb' fun e => nomatch e)]
          exact e)
        have kb : ∀ a o, a ≠ b → H' a = some o → (upd (upd H' b (.lst (bx p2 q n2))) u (.tup [.str z, .int d])) a = some o := fun a o na e => s10 _ _ (by rw [upd_ne na]; exact e)
        have hb10 := s10 b _ upd_same
        generalize (upd (upd H' b (.lst (bx p2 q n2))) u (.tup [.str z, .int d])) = H10 at s10 hu10 kt kb hb10
        have hL10 := kb _ _ nLb hL'
        have hP10 := PrV.mono hP' kt
        have lys : ys.length ≤ 3 := by
          have e1 : ys.length = fs.length := Paired.length hP'
          have := congrArg List.length eP
          rw [List.length_map, List.length_take] at this
          omega
        have kt2 : TupK H10 (upd H10 L (.lst (ys ++ [.ref u]))) := fun a zs e => by
          rw [upd_ne (ne_of e hL10 fun e => nomatch e)]
          exact e
        refine ⟨ys, hL10, Nat.lt_of_le_of_lt lys (by decide), ys ++ [.ref u], fs ++ [(z, d.toNat)], p2, n2, fun a o na e => ?_, by rw [upd_ne nLb.symm]; exact hb10, B2, by omega, upd_same, (PrV.mono (paired_snoc (y := (z, d.toNat)) hP10 ⟨u, rfl, by rw [hu10]; show _ = some (HO.tup [.str z, .int ((d.toNat : Nat) : Int)]); rw [show ((d.toNat : Nat) : Int) = d by omega]⟩) kt2), ?_, fun q hq => ?_⟩
        · rw [upd_ne (ne_of_none e nL)]
          exact kb _ _ na (k' _ _ na e)
        · rw [List.map_append, eP, takeSnoc hz]
          rfl
        · rcases List.mem_append.mp hq with hq | hq
          · exact ltP q hq
          · rw [List.mem_singleton.mp hq]
            show d.toNat < m
            omega
      · obtain ⟨ys, fs, p8, n8, k8, hb8, B8, le8, hL8, hP8, eP, ltP⟩ := hI
        rw [List.length_map] at eP le8
        rw [List.take_length] at eP
        refine .inl ⟨L, ys, rfl, SqL.of hL8, fun tc ntc => ?_⟩
        have s9 := same_upd (o := .tup ys) ntc
        have htc : (upd H' tc (.tup ys)) tc = some (.tup ys) := upd_same
        generalize (upd H' tc (.tup ys)) = H9 at s9 htc
        try dsimp only [gName, tRet]
        have k9 : ∀ a o, a ≠ b → H7 a = some o → H9 a = some o := fun a o na e => s9 _ _ (k8 a o na e)
        have hb9 := s9 _ _ hb8
        have hP9 := PrV.mono hP8 (Same.tup s9)
        refine fun r nr => ?_
        try dsimp only [tPairs, tThen]
        have s10 := same_upd (o := .dK []) nr
        have hr10 : (upd H9 r (.dK [])) r = some (.dK []) := upd_same
        generalize (upd H9 r (.dK [])) = H10 at s10 hr10
        refine val_c _ ((val_var rfl) _ (val_c _ ((val_var rfl) _ (.inl ⟨pA, ps.map V.str, rfl, SqL.of (s10 _ _ (k9 _ _ npb hp7)), fun tp ntp => ?_⟩))))
        have s11 := same_upd (o := .tup (ps.map V.str)) ntp
        have htp : (upd H10 tp (.tup (ps.map V.str))) tp = some (.tup (ps.map V.str)) := upd_same
        generalize (upd H10 tp (.tup (ps.map V.str))) = H11 at s11 htp
        refine val_c _ ((val_var rfl) _ (.inl ⟨ta, xs, rfl, SqL.of (s11 _ _ (s10 _ _ (k9 _ _ ntb ht7))), fun td ntd => ?_⟩))
        have s12 := same_upd (o := .tup xs) ntd
        have htd : (upd H11 td (.tup xs)) td = some (.tup xs) := upd_same
        generalize (upd H11 td (.tup xs)) = H12 at s12 htd
        refine ⟨s12 _ _ (s11 _ _ hr10), [((.inr "cells" : Key), .ref tc), (.inr "ports", .ref tp), (.inr "doors", .ref td)], rfl, Nat.le_of_ble_eq_true rfl, ?_⟩
        rw [disp3]
        have hr12 := s12 _ _ (s11 _ _ hr10)
        have s912 : Same H9 H12 := s10.trans (s11.trans s12)
        have fin : ∀ a o, a ≠ r → H12 a = some o → (upd H12 r (.dK (plK tc tp td))) a = some o := fun a o na e => by
          rw [upd_ne na]
          exact e
        have tupR : ∀ {a : Addr} {zs : List V}, H12 a = some (.tup zs) → (upd H12 r (.dK (plK tc tp td))) a = some (.tup zs) := fun e => fin _ _ (ne_of e hr12 fun e => nomatch e) e
        have ktR : TupK H12 (upd H12 r (.dK (plK tc tp td))) := fun a zs e => tupR e
        have kt79 : TupK H7 H12 := fun a zs e => s912 _ _ (k9 a _ (ne_of e hb7 fun e => nomatch e) e)
        have hr9 : H9 r = none := nr
        have nrb : r ≠ b := fun e => by rw [e, hb9] at hr9; cases hr9
        have lfs : fs.length = cs.length := by rw [← eP, List.length_map]
        have ldn : done.length = ds.length := by rw [← eD, List.length_map]
        refine k _ r ⟨m, fs, ps, done⟩ p8 n8 (fun a o na e => ?_) (fin _ _ nrb.symm (s912 _ _ hb9)) B8 (by omega) rfl ?_ ⟨tc, tp, td, ys, xs, upd_same, tupR (s912 _ _ htc), PrV.mono (PrV.mono hP9 (Same.tup s912)) ktR, tupR (s12 _ _ htp), tupR htd, DoV.mono (DoV.mono hD kt79) ktR⟩
        · have e4 := sb14 a o na e
          have e5 := s5 _ _ e4
          have ah : a ≠ h := hne e4
          have e9 := k9 a o na (g7.k2 a o na ah e5)
          exact fin _ _ (ne_of_none e9 hr9) (s912 _ _ e9)
        · exact {
            m2 := m2
            m4 := m4
            c3 := by show fs.length ≤ 3; omega
            cn := fun q hq => ⟨mc _ (by rw [← eP]; exact List.mem_map_of_mem hq), ltP q hq⟩
            cd := by show (fs.map (·.1)).Nodup; rw [eP]; exact ndc
            p2 := p2'
            pn := mp
            pd := ndp
            d1 := by show 1 ≤ done.length; omega
            d3 := by show done.length ≤ 3; omega
            dn := fun q hq => md _ (by rw [← eD]; exact List.mem_map_of_mem hq)
            dd := by show (done.map (·.1)).Nodup; rw [eD]; exact ndd
            db := fun q hq => by
              show okB m (fs.map (·.1)) ps 1 q.2 ∧ _ ∧ _ ∧ q.2.sz + 1 ≤ 22 / done.length
              rw [eP, ldn]
              exact okD q hq }
end
end K5
namespace K5
open PySem PySem.Spec PyProof.Rows L2
/-! ### the text of a part -/
def rowsP (D : Dr) : List Row := D.cs.map (fun q => ⟨0, ["cell", q.1, toString ((q.2 : Nat) : Int)]⟩) ++ D.ps.map (fun z => ⟨0, ["port", z]⟩)
def rowsDo : List (Str × Bl) → List Row
  | [] => []
  | q :: r => ⟨0, ["door", q.1]⟩ :: (rowsB 1 q.2 ++ rowsDo r)
def rowsD (D : Dr) : List Row := rowsP D ++ rowsDo D.ds
def textD (D : Dr) : Str := Str.join "\n" ((rowsD D).map rowT)
theorem row0 (ws : List Str) : rowT ⟨0, ws⟩ = Str.join " " ws := by
  unfold rowT
  refine str_list' ?_
  rw [cps_append, show (margin 0).cps.toList = [] by decide +kernel]
  rfl
section
variable {K : PySem.W.Frag} {σ : L2.St} {H : Hp} {p : Addr} {j : Nat} {Q : VK}
theorem lc_texts {te : TE} {g : TG} {tv : TE} {vs : List Nat} {xs : List V} {zs : List Str} (hv : Val te σ H (.ref p)) (hp : H p = some (.tup xs)) (len : xs.length = zs.length) (few : zs.length ≤ 1000)
    (turn : ∀ (i : Nat) (x : V) (z : Str) (H' : Hp), xs[i]? = some x → zs[i]? = some z → Same H H' → ∃ σ2 : L2.St, (∀ P : L2.St → Hp → Prop, P σ2 H' → g x (wipe σ vs) H' P) ∧ wipe σ2 vs = wipe σ vs ∧ ∀ R : VK, (∀ H'', Same H' H'' → R (.str z) H'') → tv σ2 H' R)
    (k : ∀ (H' : Hp) (q : Addr), Same H H' → LsAt H' q zs → Q (.ref q) H') : tLc (iTup K te) g tYes tv vs σ H Q := by
  try dsimp only [tLc, iTup]
  refine hv _ ⟨p, rfl, ⟨_, SqT.of hp⟩, fun L nL => ?_⟩
  refine lc_tup (K := K) (a := p) (xs := xs) (fun k H' => Same H H' ∧ LsAt H' L (zs.take k)) ⟨same_upd nL, upd_same⟩ (fun k H' _ h => SqT.of (h.1 _ _ hp)) (fun m x H' hx h => ?_) fun H' h => k H' L h.1 (by
    have e := h.2
    rw [len, List.take_length] at e
    exact e)
  obtain ⟨s2, hL⟩ := h
  have hm : m < zs.length := by
    have := (List.getElem?_eq_some_iff.mp hx).1
    omega
  obtain ⟨σ2, h1, h2, h3⟩ := turn m x zs[m] H' hx (List.getElem?_eq_getElem hm) s2
  refine h1 _ ⟨h2, ?_⟩
  show tv σ2 H' _
  refine h3 _ fun H'' s => ⟨_, s _ _ hL, ?_, fun b o e => ?_, ?_⟩
  · rw [List.length_map]
    exact Nat.lt_of_le_of_lt (List.length_take_le ..) (Nat.lt_of_le_of_lt (by omega : m ≤ 1000) (by decide))
  · rw [upd_ne (ne_of_none e nL)]
    exact s _ _ (s2 _ _ e)
  · unfold LsAt
    rw [upd_same, takeSnoc (List.getElem?_eq_getElem hm), List.map_append]
    rfl
end
theorem pl_c {tc tp td : Addr} : valV (plK tc tp td) (.inr "cells") = some (.ref tc) := valV_pos rfl
theorem pl_p {tc tp td : Addr} : valV (plK tc tp td) (.inr "ports") = some (.ref tp) := (valV_neg (kne (by decide +kernel))).trans (valV_pos rfl)
theorem pl_d {tc tp td : Addr} : valV (plK tc tp td) (.inr "doors") = some (.ref td) := (valV_neg (kne (by decide +kernel))).trans ((valV_neg (kne (by decide +kernel))).trans (valV_pos rfl))
section
variable {σ : L2.St} {H : Hp} {j : Nat} {r tc tp td : Addr}
theorem val_pc (h : σ[j]? = some (some (.ref r))) (hr : H r = some (.dK (plK tc tp td))) : Val (tDGet (tVar j) (tC (.str "cells"))) σ H (.ref tc) := fun Q q => (val_var h) _ (val_c _ ⟨r, _, rfl, (pl_c (tc := tc) (tp := tp) (td := td)) ▸ DGet.k (k := .inr "cells") hr, q⟩)
theorem val_pp (h : σ[j]? = some (some (.ref r))) (hr : H r = some (.dK (plK tc tp td))) : Val (tDGet (tVar j) (tC (.str "ports"))) σ H (.ref tp) := fun Q q => (val_var h) _ (val_c _ ⟨r, _, rfl, (pl_p (tc := tc) (tp := tp) (td := td)) ▸ DGet.k (k := .inr "ports") hr, q⟩)
theorem val_pd (h : σ[j]? = some (some (.ref r))) (hr : H r = some (.dK (plK tc tp td))) : Val (tDGet (tVar j) (tC (.str "doors"))) σ H (.ref td) := fun Q q => (val_var h) _ (val_c _ ⟨r, _, rfl, (pl_d (tc := tc) (tp := tp) (td := td)) ▸ DGet.k (k := .inr "doors") hr, q⟩)
end
theorem pgetL {α β : Type} {F : α → β → Prop} : ∀ {xs : List α} {ys : List β} {i : Nat} {x : α}, Paired F xs ys → xs[i]? = some x → ∃ y, ys[i]? = some y ∧ F x y
  | _, _, 0, _, .cons h _, e => by
    cases e
    exact ⟨_, rfl, h⟩
  | _, _, i + 1, _, .cons _ t, e => pgetL (i := i) t e
theorem forT_run' {K : PySem.W.Frag} {σ : L2.St} {H : Hp} {p : Addr} {D : Ends} {te : TE} {g : TG} {tb : TS} {xs : List V} (Pv : Nat → L2.St → Hp → Prop) (hv : Val te σ H (.ref p)) (hp : H p = some (.tup xs)) (h0 : Pv 0 σ H) (hl : ∀ i σ H, i ≤ xs.length → Pv i σ H → SqT K H p xs)
    (hs : ∀ i x σ H, xs[i]? = some x → Pv i σ H → g x σ H fun σ2 H2 => tb { D with nx := Pv (i + 1), ct := Pv (i + 1), bk := D.nx } σ2 H2) (hd : ∀ σ H, Pv xs.length σ H → D.nx σ H) : tFor (iTup K te) g tb D σ H := by
  unfold tFor iTup
  exact hv _ ⟨p, rfl, ⟨_, SqT.of hp⟩, for_tup (K := K) (a := p) (xs := xs) Pv h0 hl hs hd⟩
theorem cell_text {a b : Str} : ("cell " : Str) ++ a ++ " " ++ b = rowT ⟨0, ["cell", a, b]⟩ := by
  rw [row0, join2, join2, show ("cell " : Str) = "cell" ++ " " by decide +kernel, app_assoc3, app_assoc3, app_assoc3]
  rfl
theorem port_text {a : Str} : ("port " : Str) ++ a = rowT ⟨0, ["port", a]⟩ := by
  rw [row0, join2, show ("port " : Str) = "port" ++ " " by decide +kernel, app_assoc3]
  rfl
theorem door_text {a : Str} : ("door " : Str) ++ a = rowT ⟨0, ["door", a]⟩ := by
  rw [row0, join2, show ("door " : Str) = "door" ++ " " by decide +kernel, app_assoc3]
  rfl
theorem rowsDo_snoc (q : Str × Bl) : ∀ l : List (Str × Bl), rowsDo (l ++ [q]) = rowsDo l ++ (⟨0, ["door", q.1]⟩ :: rowsB 1 q.2)
  | [] => by
    show ⟨0, ["door", q.1]⟩ :: (rowsB 1 q.2 ++ []) = _
    rw [List.append_nil]
    rfl
  | p :: l => by
    show ⟨0, ["door", p.1]⟩ :: (rowsB 1 p.2 ++ rowsDo (l ++ [q])) = ⟨0, ["door", p.1]⟩ :: (rowsB 1 p.2 ++ rowsDo l) ++ _
    rw [rowsDo_snoc q l, List.cons_append, List.append_assoc]
theorem rowsDo_len : ∀ {l : List (Str × Bl)}, (∀ q ∈ l, q.2.sz ≤ 22) → (rowsDo l).length ≤ 45 * l.length
  | [], _ => Nat.le_refl _
  | q :: l, h => by
    have h1 := h q (List.mem_cons_self ..)
    have h2 := rowsDo_len (l := l) fun p hp => h p (List.mem_cons_of_mem _ hp)
    have h3 := rowsB_len (B := q.2) (d := 1)
    show (rowsB 1 q.2 ++ rowsDo l).length + 1 ≤ 45 * (l.length + 1)
    rw [List.length_append]
    omega
theorem nm1 : NmOk "cell" ∧ NmOk "port" ∧ NmOk "door" ∧ NmOk "fail" := by
  unfold NmOk
  decide +kernel
section
variable {D : Dr}
theorem DrOk.nc (h : DrOk D) : ∀ z, z ∈ D.cs.map (·.1) ∨ z ∈ D.ps → NmOk z := fun z hz => by
  refine someNm_ok z ?_
  rcases hz with hz | hz
  · obtain ⟨q, hq, rfl⟩ := List.mem_map.mp hz
    exact List.mem_append_left _ (h.cn q hq).1
  · exact h.pn z hz
theorem DrOk.sz (h : DrOk D) : ∀ q ∈ D.ds, q.2.sz ≤ 22 := fun q hq => by
  have h1 := (h.db q hq).2.2.2
  have h2 : 22 / D.ds.length ≤ 22 := Nat.div_le_self _ _
  omega
theorem DrOk.len (h : DrOk D) : (rowsD D).length ≤ 150 := by
  unfold rowsD rowsP
  have := rowsDo_len h.sz
  have := h.c3
  have := h.p2
  have := h.d3
  rw [List.length_append, List.length_append, List.length_map, List.length_map]
  omega
theorem rowsDo_ok {m : Nat} {cs ps : List Str} (m4 : m ≤ 4) (ns : ∀ z, z ∈ cs ∨ z ∈ ps → NmOk z) : ∀ {l : List (Str × Bl)}, (∀ q ∈ l, NmOk q.1 ∧ okB m cs ps 1 q.2) → ∀ r ∈ rowsDo l, RowOk r
  | [], _, r, hr => nomatch hr
  | q :: l, h, r, hr => by
    obtain ⟨h1, h2⟩ := h q (List.mem_cons_self ..)
    rcases List.mem_cons.mp hr with rfl | hr
    · refine ⟨Nat.zero_le _, (fun e => nomatch e), Nat.le_of_ble_eq_true rfl, fun z hz => ?_⟩
      simp only [List.mem_cons, List.not_mem_nil, or_false] at hz
      rcases hz with rfl | rfl
      · exact nm1.2.2.1
      · exact h1
    · rcases List.mem_append.mp hr with hr | hr
      · exact rowsB_ok m4 ns (by decide) h2 r hr
      · exact rowsDo_ok m4 ns (fun p hp => h p (List.mem_cons_of_mem _ hp)) r hr
theorem DrOk.rows (h : DrOk D) : ∀ r ∈ rowsD D, RowOk r := fun r hr => by
  unfold rowsD rowsP at hr
  rcases List.mem_append.mp hr with hr | hr
  · rcases List.mem_append.mp hr with hr | hr
    · obtain ⟨q, hq, rfl⟩ := List.mem_map.mp hr
      refine ⟨Nat.zero_le _, (fun e => nomatch e), Nat.le_of_ble_eq_true rfl, fun z hz => ?_⟩
      simp only [List.mem_cons, List.not_mem_nil, or_false] at hz
      rcases hz with rfl | rfl | rfl
      · exact nm1.1
      · exact h.nc _ (.inl (List.mem_map_of_mem hq))
      · exact nm_small ⟨q.2, Nat.lt_of_lt_of_le (h.cn q hq).2 h.m4⟩
    · obtain ⟨z, hz, rfl⟩ := List.mem_map.mp hr
      refine ⟨Nat.zero_le _, (fun e => nomatch e), Nat.le_of_ble_eq_true rfl, fun y hy => ?_⟩
      simp only [List.mem_cons, List.not_mem_nil, or_false] at hy
      rcases hy with rfl | rfl
      · exact nm1.2.1
      · exact h.nc _ (.inr hz)
  · exact rowsDo_ok h.m4 h.nc (fun q hq => ⟨doorNm_ok _ (h.dn q hq), (h.db q hq).1⟩) r hr
end
abbrev s__law_part_text : Stmt := topS 33
theorem sc__law_part_text : FnScope ["_law_plain", "_law_lines", "_law_name", "_law_block", "_law_first", "_law_port"] ["_law_plain"] (defScope s__law_part_text) := ⟨rfl, rfl, rfl, by decide +kernel, rfl, by decide +kernel, by decide +kernel⟩
def spPartText : Sp := fun vs H Q _ => ∃ (r : Addr) (D : Dr), vs = [.ref r] ∧ PlAt H r D ∧ DrOk D ∧ ∀ H' : Hp, Same H H' → Q (.str (textD D)) H'
section
variable {P : Program} {w : World} {K : PySem.W.Frag} {mg : Str → Option Value} {base : Heap}
theorem ok_part_text {f fL : Addr} {fd fdL : FuncData} (B : Bt mg) (D__law_part_text : Df K mg "_law_part_text" s__law_part_text f fd ["_law_plain"])
    (D__law_block_lines : Df K mg "_law_block_lines" s__law_block_lines fL fdL ["_law_block", "_law_deep"]) (G__law_block_lines : FnOk P w K mg base CX0 4 fL fdL ["_law_block", "_law_deep"] (spLines 1)) :
    FnOk P w K mg base CX0 5 f fd ["_law_plain"] spPartText := by
  refine D__law_part_text.F.ok sc__law_part_text (fun vs H Q E h => ?_) (fun cdv A outer s H vs Q E hr h => ?_)
  · obtain ⟨r, D, rfl, _⟩ := h
    rfl
  · obtain ⟨r, D, rfl, hP, ok, k⟩ := h
    obtain ⟨tc, tp, td, xs, ys, hr0, htc, hC, htp, htd, hD⟩ := hP
    have S := sc__law_part_text
    refine ⟨_, (pss_cons (ps_setLc (i := 1) (own := [("_law_name", 2), ("_law_first", 4)]) (g := gTup K 2 (gCons (gName 2) (gCons (gName 4) gNil))) (by rfl) S.nd rfl rfl (sw_true rfl rfl rfl (by decide +kernel)) (pi_tup (pe_dget (hu_of hr) (pv 0) pe_str (fun _ _ => rfl))) (blkOk_by (own := [("_law_name", 2), ("_law_first", 4)]) (N := ["_law_plain", "_law_lines", "_law_name", "_law_block", "_law_first", "_law_port"]) (sc := defScope s__law_part_text) (by decide +kernel)) (fun _ _ _ _ _ => pg_tup (by rfl) (pgs_cons (pg_name (i := 2) S.nd rfl (Or.inl rfl)) (pgs_cons (pg_name (i := 4) S.nd rfl (Or.inl rfl)) pgs_nil))) (fun _ _ _ _ _ => pts_nil) (fun _ _ _ _ _ => pe_op op_add_str (pe_op op_add_str (pe_op op_add_str pe_str (pv 2)) pe_str) (pe_callTy call_str_int (by rfl) B.m_str (by decide +kernel) (pa_cons (pv 4) pa_nil))))
      (pss_cons (ps_set (i := 1) S.nd rfl (.inl rfl) (pe_op op_cat (pv 1) (pe_lc (own := [("_law_port", 5)]) (g := gName 5) (tt := tYes) rfl S.nd (pi_tup (pe_dget (hu_of hr) (pv 0) pe_str (fun _ _ => rfl))) (blkOk_by (own := [("_law_port", 5)]) (N := ["_law_plain", "_law_lines", "_law_name", "_law_block", "_law_first", "_law_port"]) (sc := defScope s__law_part_text) (by decide +kernel)) (fun _ _ _ _ _ => pg_name (i := 5) S.nd rfl (Or.inl rfl)) (fun _ _ _ _ _ => pts_nil) (fun _ _ _ _ _ => pe_op op_add_str pe_str (pv 5)))))
      (pss_cons (ps_for PassesOwn.never rfl (pi_tup (pe_dget (hu_of hr) (pv 0) pe_str (fun _ _ => rfl))) (pg_tup (by rfl) (pgs_cons (pg_name (i := 2) S.nd rfl (.inl rfl)) (pgs_cons (pg_name (i := 3) S.nd rfl (.inl rfl)) pgs_nil)))
        (pss_one (ps_set (i := 1) S.nd rfl (.inl rfl) (pe_op op_cat (pe_op op_cat (pv 1) (pe_lst (pa_cons (pe_op op_add_str pe_str (pv 2)) pa_nil))) (pe_call G__law_block_lines (hr.mono (by decide)) (by rfl) D__law_block_lines.g D__law_block_lines.F.kp D__law_block_lines.b .nil pass0 (pa_cons (pv 3) (pa_cons pe_int pa_nil)))))))
      (pss_one (ps_ret (pe_bm PySem.F.plainAttrs_str PySem.F.slot_str_join PySem.F.type_str_join mt_join pe_str (pa_cons (pv 1) pa_nil))))))), ?_⟩
    have l5 : ("cell " : Str).length = 5 ∧ ("port " : Str).length = 5 ∧ ("door " : Str).length = 5 ∧ (" " : Str).length = 1 := by decide +kernel
    have c3 := ok.c3
    have p2 := ok.p2
    have d3 := ok.d3
    try dsimp only [tSeq, tAsg]
    refine lc_texts (K := K) (p := tc) (xs := xs) (zs := (D.cs.map (fun q => (⟨0, ["cell", q.1, toString ((q.2 : Nat) : Int)]⟩ : Row))).map rowT) (val_pc rfl hr0) htc (by rw [List.length_map, List.length_map]; exact Paired.length hC) (by rw [List.length_map, List.length_map]; omega) (fun i x z H' hx hz s => ?_) fun H1 f1 s1 hf1 => ?_
    · obtain ⟨q, hq, pq, rfl, h1⟩ := pgetL hC hx
      rw [List.map_map, List.getElem?_map, hq] at hz
      have hz : rowT ⟨0, ["cell", q.1, toString ((q.2 : Nat) : Int)]⟩ = z := Option.some.inj hz
      have mq := List.mem_of_getElem? hq
      have nq := ok.nc q.1 (.inl (List.mem_map_of_mem mq))
      have lq := nq.2.1
      have sq : q.2 < 4 := Nat.lt_of_lt_of_le (ok.cn q mq).2 ok.m4
      have lk : (Str.ofString (toString ((q.2 : Nat) : Int))).length ≤ 10 := (nm_small ⟨q.2, sq⟩).2.1
      refine ⟨_, fun P hP => ⟨pq, _, rfl, SqT.of (s _ _ h1), rfl, _, _, rfl, _, _, rfl, rfl, hP⟩, rfl, fun R hR => ?_⟩
      rw [← hz, ← cell_text] at hR
      exact (val_addS (val_addS (val_addS val_c (val_var rfl) (by omega)) val_c (by rw [app_len']; omega)) (val_strI (n := ((q.2 : Nat) : Int)) (val_var rfl) (log_small (by omega))) (by rw [app_len', app_len']; omega)) _ (hR _ (Same.refl _))
    try dsimp only [gName, tSeq, tAsg, tOp]
    refine (val_var rfl) _ ?_
    refine lc_texts (K := K) (p := tp) (xs := D.ps.map V.str) (zs := (D.ps.map (fun z => (⟨0, ["port", z]⟩ : Row))).map rowT) (val_pp rfl (s1 _ _ hr0)) (s1 _ _ htp) (by rw [List.length_map, List.length_map, List.length_map]) (by rw [List.length_map, List.length_map]; omega) (fun i x z H' hx hz s => ?_) fun H2 f2 s2 hf2 => ?_
    · rw [List.getElem?_map, Option.map_eq_some_iff] at hx
      obtain ⟨y, hy, rfl⟩ := hx
      rw [List.map_map, List.getElem?_map, hy] at hz
      have hz : rowT ⟨0, ["port", y]⟩ = z := Option.some.inj hz
      have ly := (ok.nc y (.inr (List.mem_of_getElem? hy))).2.1
      refine ⟨_, fun P hP => hP, rfl, fun R hR => ?_⟩
      rw [← hz, ← port_text] at hR
      exact (val_addS val_c (val_var rfl) (by omega)) _ (hR _ (Same.refl _))
    have s12 := s1.trans s2
    refine ⟨f1, f2, _, _, rfl, rfl, s2 _ _ hf1, hf2, by rw [List.length_map, List.length_map, List.length_map, List.length_map, List.length_map, List.length_map]; exact Nat.le_trans (show _ ≤ 5 by omega) (by decide), fun f3 nf3 => ?_⟩
    have s3 := same_upd (o := .lst ((((D.cs.map (fun q => (⟨0, ["cell", q.1, toString ((q.2 : Nat) : Int)]⟩ : Row))).map rowT)).map V.str ++ (((D.ps.map (fun z => (⟨0, ["port", z]⟩ : Row))).map rowT)).map V.str)) nf3
    have hf3 : LsAt (upd H2 f3 (.lst ((((D.cs.map (fun q => (⟨0, ["cell", q.1, toString ((q.2 : Nat) : Int)]⟩ : Row))).map rowT)).map V.str ++ (((D.ps.map (fun z => (⟨0, ["port", z]⟩ : Row))).map rowT)).map V.str))) f3 ((rowsP D).map rowT) := by
      unfold LsAt rowsP
      rw [upd_same, List.map_append, List.map_append]
    generalize (upd H2 f3 (.lst ((((D.cs.map (fun q => (⟨0, ["cell", q.1, toString ((q.2 : Nat) : Int)]⟩ : Row))).map rowT)).map V.str ++ (((D.ps.map (fun z => (⟨0, ["port", z]⟩ : Row))).map rowT)).map V.str))) = H3 at s3 hf3
    have s13 := s12.trans s3
    try dsimp only [gName, tSeq]
    refine forT_run' (K := K) (p := td) (xs := ys) (fun i σ H' => ∃ (g1 : Addr) (t2 t3 t4 t5 : Option V), σ = [some (.ref r), some (.ref g1), t2, t3, t4, t5] ∧ Same H H' ∧ LsAt H' g1 ((rowsP D ++ rowsDo (D.ds.take i)).map rowT)) (val_pd rfl (s13 _ _ hr0)) (s13 _ _ htd)
      ⟨f3, _, _, _, _, rfl, s13, by show LsAt H3 f3 ((rowsP D ++ []).map rowT); rw [List.append_nil]; exact hf3⟩ (fun i σ H' _ h => ?_) ?_ ?_
    · obtain ⟨g1, t2, t3, t4, t5, _, s, _⟩ := h
      exact SqT.of (s _ _ htd)
    · intro i x σ H4 hx hI
      obtain ⟨g1, t2, t3, t4, t5, rfl, s4, hg1⟩ := hI
      obtain ⟨q, hq, pq, t, zs, rfl, h1, h2, h3⟩ := pgetL hD hx
      have mq := List.mem_of_getElem? hq
      have ld := (doorNm_ok _ (ok.dn q mq)).2.1
      have lg : ((rowsP D ++ rowsDo (D.ds.take i)).map rowT).length ≤ 150 := by
        have h1 := rowsDo_len (l := D.ds.take i) fun p hp => ok.sz p (List.mem_of_mem_take hp)
        have h2 : (D.ds.take i).length ≤ 3 := Nat.le_trans (List.length_take_le' ..) d3
        unfold rowsP
        rw [List.length_map, List.length_append, List.length_append, List.length_map, List.length_map]
        omega
      refine ⟨pq, _, rfl, SqT.of (s4 _ _ h1), rfl, _, _, rfl, _, _, rfl, rfl, ?_⟩
      try dsimp only [tAsg, tOp]
      refine (val_var rfl) _ ?_
      try dsimp only [tLst, tCons, tNil]
      refine (val_addS (z := "door ") (y := q.1) val_c (val_var rfl) (by omega)) _ ⟨by show 1 ≤ sizeLine; decide, fun l1 nl1 => ?_⟩
      have s5 := same_upd (o := .lst [.str (("door " : Str) ++ q.1)]) nl1
      have hl1 : (upd H4 l1 (.lst [.str (("door " : Str) ++ q.1)])) l1 = some (.lst [.str (("door " : Str) ++ q.1)]) := upd_same
      generalize (upd H4 l1 (.lst [.str (("door " : Str) ++ q.1)])) = H5 at s5 hl1
      refine ⟨g1, l1, _, _, rfl, rfl, s5 _ _ hg1, hl1, by rw [List.length_map]; exact Nat.le_trans (show _ ≤ 200 by show _ + 1 ≤ 200; omega) (by decide), fun l2 nl2 => ?_⟩
      have s6 := same_upd (o := .lst (((rowsP D ++ rowsDo (D.ds.take i)).map rowT).map V.str ++ [.str (("door " : Str) ++ q.1)])) nl2
      have hl2 : (upd H5 l2 (.lst (((rowsP D ++ rowsDo (D.ds.take i)).map rowT).map V.str ++ [.str (("door " : Str) ++ q.1)]))) l2 = some (.lst (((rowsP D ++ rowsDo (D.ds.take i)).map rowT).map V.str ++ [.str (("door " : Str) ++ q.1)])) := upd_same
      generalize (upd H5 l2 (.lst (((rowsP D ++ rowsDo (D.ds.take i)).map rowT).map V.str ++ [.str (("door " : Str) ++ q.1)]))) = H6 at s6 hl2
      have s46 : Same H H6 := s4.trans (s5.trans s6)
      try dsimp only [tCall, tCons, tNil]
      refine (val_var rfl) _ (val_c _ ?_)
      refine ⟨t, zs, q.2, D.m, D.cs.map (·.1), D.ps, rfl, s46 _ _ h2, h3.mono (Same.tup s46), (ok.db q mq).1, ok.m4, ok.nc, by have := ok.sz q mq; omega, fun H7 q7 s7 hq7 => ?_⟩
      have lB : ((rowsB 1 q.2).map rowT).length ≤ 44 := by
        rw [List.length_map]
        have := rowsB_len (B := q.2) (d := 1)
        have := ok.sz q mq
        omega
      refine ⟨l2, q7, _, _, rfl, rfl, s7 _ _ hl2, hq7, by simp only [List.length_append, List.length_map, List.length_cons, List.length_nil] at lg lB ⊢; exact Nat.le_trans (show _ ≤ 300 by omega) (by decide), fun l3 nl3 => ?_⟩
      refine ⟨l3, _, _, _, _, rfl, (s46.trans s7).trans (same_upd nl3), ?_⟩
      unfold LsAt
      rw [upd_same, takeSnoc hq, rowsDo_snoc, door_text]
      simp only [List.map_append, List.map_cons, List.append_assoc, List.cons_append, List.nil_append]
    · intro σ H4 hI
      obtain ⟨g1, t2, t3, t4, t5, rfl, s4, hg1⟩ := hI
      rw [show ys.length = D.ds.length from Paired.length hD, List.take_length] at hg1
      try dsimp only [tRet]
      refine bm_run (x := .str "\n") val_c rfl ((val_var rfl) _ ⟨"\n", g1, _, rfl, rfl, .inl (SqL.of hg1), ?_, ?_⟩)
      · have h1 := sum_le (f := (·.length)) (n := 100) (l := (rowsD D).map rowT) fun z hz => by
          obtain ⟨r, hr, rfl⟩ := List.mem_map.mp hz
          exact rowT_len (ok.rows r hr)
        have h2 := ok.len
        have h3 : ("\n" : Str).length = 1 := by decide +kernel
        rw [List.length_map] at h1
        show (((rowsD D).map rowT).map (·.length)).sum + ((rowsD D).map rowT).length * ("\n" : Str).length ≤ 16777216
        rw [h3, List.length_map]
        omega
      · rw [jn_txt]
        exact k _ s4
end
end K5
namespace K5
open PySem PySem.Spec PyProof.Rows L2
/-! ### a text is split as it was joined -/
theorem cut_at {c : Nat} : ∀ {x y a b : List Nat}, c ∉ x → c ∉ y → x ++ c :: a = y ++ c :: b → x = y ∧ a = b
  | [], [], a, b, _, _, h => by
    injection h with _ h
    exact ⟨rfl, h⟩
  | [], z :: y, a, b, _, h2, h => by
    injection h with h _
    exact absurd (by rw [h]; exact List.mem_cons_self ..) h2
  | z :: x, [], a, b, h1, _, h => by
    injection h with h _
    exact absurd (by rw [← h]; exact List.mem_cons_self ..) h1
  | z :: x, w :: y, a, b, h1, h2, h => by
    injection h with e h
    obtain ⟨q1, q2⟩ := cut_at (x := x) (y := y) (fun q => h1 (List.mem_cons_of_mem _ q)) (fun q => h2 (List.mem_cons_of_mem _ q)) h
    exact ⟨by rw [e, q1], q2⟩
theorem str_list {x y : Str} (h : x.cps.toList = y.cps.toList) : x = y := by
  cases x
  cases y
  congr
  exact Array.toList_inj.mp h
theorem join_list (c : Nat) (x z : Str) (r : List Str) : (Str.join ⟨#[c]⟩ (x :: z :: r)).cps.toList = x.cps.toList ++ c :: (Str.join ⟨#[c]⟩ (z :: r)).cps.toList := by
  show (x ++ (⟨#[c]⟩ : Str) ++ Str.join ⟨#[c]⟩ (z :: r)).cps.toList = _
  rw [cps_append, cps_append, List.append_assoc]
  rfl
theorem join_inj {c : Nat} : ∀ {ps qs : List Str}, ps ≠ [] → qs ≠ [] → (∀ p ∈ ps, c ∉ p.cps.toList) → (∀ q ∈ qs, c ∉ q.cps.toList) → (Str.join ⟨#[c]⟩ ps).cps.toList = (Str.join ⟨#[c]⟩ qs).cps.toList → ps = qs
  | [], _, h, _, _, _, _ => absurd rfl h
  | _, [], _, h, _, _, _ => absurd rfl h
  | [x], [y], _, _, _, _, h => by rw [str_list (x := x) (y := y) h]
  | [x], y :: w :: r, _, _, h1, h2, h => by
    rw [join_list] at h
    have hx : c ∈ x.cps.toList := by
      rw [show x.cps.toList = _ from h]
      exact List.mem_append_right _ (List.mem_cons_self ..)
    exact absurd hx (h1 x (List.mem_cons_self ..))
  | x :: w :: r, [y], _, _, h1, h2, h => by
    rw [join_list] at h
    have hy : c ∈ y.cps.toList := by
      rw [show y.cps.toList = _ from h.symm]
      exact List.mem_append_right _ (List.mem_cons_self ..)
    exact absurd hy (h2 y (List.mem_cons_self ..))
  | x :: z :: r, y :: w :: t, _, _, h1, h2, h => by
    rw [join_list, join_list] at h
    obtain ⟨e1, e2⟩ := cut_at (h1 x (List.mem_cons_self ..)) (h2 y (List.mem_cons_self ..)) h
    rw [str_list e1, join_inj (ps := z :: r) (qs := w :: t) (fun q => nomatch q) (fun q => nomatch q) (fun p hp => h1 p (List.mem_cons_of_mem _ hp)) (fun p hp => h2 p (List.mem_cons_of_mem _ hp)) e2]
theorem split_ne (x : Str) (c : Nat) : Txt.split x ⟨#[c]⟩ ≠ [] := by
  unfold Txt.split
  split
  · exact fun e => nomatch e
  · split
    · exact fun e => nomatch e
    · rw [StrLaws.partsBetween_eq]
      obtain ⟨p, r, h⟩ := StrLaws.partsFrom_ne x (⟨#[c]⟩ : Str).length 0 (Builtin.Str.occurrences x ⟨#[c]⟩ 0 x.length (x.length + 1))
      rw [h]
      exact fun e => nomatch e
theorem split_join {c : Nat} {ps : List Str} (ne : ps ≠ []) (free : ∀ p ∈ ps, c ∉ p.cps.toList) : Txt.split (Str.join ⟨#[c]⟩ ps) ⟨#[c]⟩ = ps :=
  join_inj (split_ne _ _) ne (StrLaws.split_free _ c) free (by rw [StrLaws.join_split])
theorem rows_join {ps : List Str} (ne : ps ≠ []) (free : ∀ p ∈ ps, 10 ∉ p.cps.toList) : rowsOf (Str.join "\n" ps) = ps := by
  have e : ("\n" : Str) = ⟨#[10]⟩ := by decide +kernel
  unfold rowsOf
  rw [e]
  exact split_join ne free
end K5
namespace K5
open PySem PySem.Spec PyProof.Rows L2
/-! ### the words of a row -/
theorem marg : ∀ d : Fin 4, (margin d.val).cps.toList = List.replicate (2 * d.val) 32 := by decide +kernel
theorem margL {d : Nat} (h : d ≤ 3) : (margin d).cps.toList = List.replicate (2 * d) 32 := marg ⟨d, by omega⟩
theorem len_toList (z : Str) : z.length = z.cps.toList.length := by
  rw [Array.length_toList]
  rfl
theorem margN {d : Nat} (h : d ≤ 3) : (margin d).length = 2 * d := by rw [len_toList, margL h, List.length_replicate]
theorem space : (" " : Str) = ⟨#[32]⟩ := by decide +kernel
theorem join_blanks {ws : List Str} (ne : ws ≠ []) : ∀ k : Nat, (Str.join " " (List.replicate k ("" : Str) ++ ws)).cps.toList = List.replicate k 32 ++ (Str.join " " ws).cps.toList
  | 0 => by rfl
  | k + 1 => by
    have ih := join_blanks ne k
    obtain ⟨y, r, e⟩ : ∃ y r, List.replicate k ("" : Str) ++ ws = y :: r := by
      cases h : List.replicate k ("" : Str) ++ ws with
      | nil =>
        have := (List.append_eq_nil_iff.mp h).2
        exact absurd this ne
      | cons y r => exact ⟨y, r, rfl⟩
    rw [List.replicate_succ, List.cons_append, e, space, join_list, ← space, ← e, ih]
    show [] ++ 32 :: _ = _
    rw [List.replicate_succ]
    rfl
theorem body_head {ws : List Str} (ne : ws ≠ []) (h : ∀ z ∈ ws, NmOk z) : ∃ c r, (Str.join " " ws).cps.toList = c :: r ∧ c ≠ 32 := by
  obtain ⟨z, l, rfl⟩ := List.exists_cons_of_ne_nil ne
  have hz := h z (List.mem_cons_self ..)
  obtain ⟨c, r, e⟩ : ∃ c r, z.cps.toList = c :: r := by
    cases e : z.cps.toList with
    | nil => exact absurd (str_list (x := z) (y := "") (by rw [e]; rfl)) hz.2.2.2.2
    | cons c r => exact ⟨c, r, rfl⟩
  have nc : c ≠ 32 := fun q => hz.2.2.1 (by rw [e, q]; exact List.mem_cons_self ..)
  cases l with
  | nil => exact ⟨c, r, e, nc⟩
  | cons y l =>
    rw [space, join_list, e]
    exact ⟨c, _, rfl, nc⟩
theorem row_list {r : Row} (h : RowOk r) : (rowT r).cps.toList = List.replicate (2 * r.d) 32 ++ (Str.join " " r.ws).cps.toList := by
  unfold rowT
  rw [cps_append, margL h.1]
theorem row_words {r : Row} (h : RowOk r) {dp : Nat} (hd : dp ≤ 3) : rowWords (rowT r) dp = if dp = r.d then r.ws else [] := by
  obtain ⟨h1, h2, h3, h4⟩ := id h
  have hl := row_list h
  unfold rowWords
  by_cases c : dp ≤ r.d
  · have sw : Txt.startswith (rowT r) (margin dp) = true := by
      unfold Txt.startswith
      rw [Bool.and_eq_true]
      constructor
      · refine decide_eq_true ?_
        rw [margN hd, len_toList, hl, List.length_append, List.length_replicate]
        omega
      · rw [StrLaws.subAt_eq, margN hd, margL hd, hl, List.drop_zero, List.take_append_of_le_length (by rw [List.length_replicate]; omega), List.take_replicate, Nat.min_eq_left (by omega)]
        exact beq_self_eq_true _
    rw [if_pos sw]
    have e1 : (cutS (rowT r) (some ((margin dp).length : Int)) none).cps.toList = List.replicate (2 * (r.d - dp)) 32 ++ (Str.join " " r.ws).cps.toList := by
      unfold cutS
      rw [HT.sIx_nat, HT.sIx_none, margN hd]
      show ((rowT r).cps.toList.drop (min (2 * dp) (rowT r).length)).take _ = _
      have hm : min (2 * dp) (rowT r).length = 2 * dp := by
        rw [len_toList, hl, List.length_append, List.length_replicate]
        omega
      rw [hm, len_toList, hl, List.take_of_length_le (by rw [List.length_drop]; exact Nat.le_refl _), List.drop_append_of_le_length (by rw [List.length_replicate]; omega), List.drop_replicate]
      congr 2
      omega
    have e2 : restWords (rowT r) dp = List.replicate (2 * (r.d - dp)) ("" : Str) ++ r.ws := by
      unfold restWords
      rw [str_list (x := cutS (rowT r) (some ((margin dp).length : Int)) none) (y := Str.join " " (List.replicate (2 * (r.d - dp)) ("" : Str) ++ r.ws)) (by rw [e1, join_blanks h2]), space]
      refine split_join (fun e => h2 (List.append_eq_nil_iff.mp e).2) fun p hp => ?_
      rcases List.mem_append.mp hp with hp | hp
      · rw [(List.mem_replicate.mp hp).2]
        decide +kernel
      · exact (h4 p hp).2.2.1
    unfold cleanWords
    rw [e2, inV_strs]
    by_cases e : dp = r.d
    · rw [if_pos e, if_neg ?_, e, Nat.sub_self]
      · rfl
      · intro q
        have q := of_decide_eq_true q
        rw [e, Nat.sub_self] at q
        exact (h4 "" q).2.2.2.2 rfl
    · rw [if_neg e, if_pos (decide_eq_true ?_)]
      refine List.mem_append_left _ (List.mem_replicate.mpr ⟨by omega, rfl⟩)
  · have sw : Txt.startswith (rowT r) (margin dp) = false := by
      cases q : Txt.startswith (rowT r) (margin dp) with
      | false => rfl
      | true =>
        unfold Txt.startswith at q
        rw [Bool.and_eq_true, StrLaws.subAt_eq, margN hd, margL hd, hl, List.drop_zero] at q
        obtain ⟨c0, r0, e0, n0⟩ := body_head h2 h4
        rw [e0] at q
        have q2 := congrArg (fun l : List Nat => l[2 * r.d]?) (eq_of_beq q.2)
        try dsimp only at q2
        rw [List.getElem?_take_of_lt (by omega), List.getElem?_append_right (by rw [List.length_replicate]; exact Nat.le_refl _), List.length_replicate, Nat.sub_self, List.getElem?_replicate_of_lt (by omega)] at q2
        exact absurd (Option.some.inj q2) n0
    rw [sw, if_neg (fun e => nomatch e), if_neg (by omega)]
end K5
namespace K5
open PySem PySem.Spec PyProof.Rows L2
/-! ### rows of a text -/
theorem mem_join10 : ∀ {ws : List Str}, (∀ z ∈ ws, 10 ∉ z.cps.toList) → 10 ∉ (Str.join " " ws).cps.toList
  | [], _ => by show 10 ∉ []; exact fun e => nomatch e
  | [x], h => h x (List.mem_cons_self ..)
  | x :: y :: r, h => by
    rw [space, join_list, ← space]
    intro e
    rcases List.mem_append.mp e with e | e
    · exact h x (List.mem_cons_self ..) e
    · rcases List.mem_cons.mp e with e | e
      · exact absurd e (by decide)
      · exact mem_join10 (ws := y :: r) (fun z hz => h z (List.mem_cons_of_mem _ hz)) e
theorem row10 {r : Row} (h : RowOk r) : 10 ∉ (rowT r).cps.toList := by
  rw [row_list h]
  intro e
  rcases List.mem_append.mp e with e | e
  · exact absurd (List.mem_replicate.mp e).2 (by decide)
  · exact mem_join10 (fun z hz => (h.2.2.2 z hz).2.2.2.1) e
theorem rows_text {Rs : List Row} (ne : Rs ≠ []) (h : ∀ r ∈ Rs, RowOk r) : rowsOf (Str.join "\n" (Rs.map rowT)) = Rs.map rowT := by
  refine rows_join (fun e => ne (List.map_eq_nil_iff.mp e)) fun p hp => ?_
  obtain ⟨r, hr, rfl⟩ := List.mem_map.mp hp
  exact row10 (h r hr)
def wA (Rs : List Row) (n dp : Nat) : List Str := match Rs[n]? with
  | none => []
  | some r => if dp = r.d then r.ws else []
theorem words_rows {Rs : List Row} (h : ∀ r ∈ Rs, RowOk r) {n dp : Nat} (hd : dp ≤ 3) : wordsAt (Rs.map rowT) n dp = wA Rs n dp := by
  unfold wordsAt wA
  rw [List.getElem?_map]
  cases e : Rs[n]? with
  | none => rfl
  | some r => exact row_words (h r (List.mem_of_getElem? e)) hd
/-! ### words of lines are taken -/
structure TOk (T : Tx) (m : Nat) (cs ps : List Str) : Prop where
  w : (m : Int) ≤ T.w
  w4 : T.w ≤ 4
  c : T.cells = cs
  p : T.ports = ps
theorem num_ok : ∀ k : Fin 4, ∀ w : Fin 5, k.val < w.val → numOf (Str.ofString (toString ((k.val : Nat) : Int))) ((w.val : Nat) : Int) = (k.val : Nat) := by decide +kernel
theorem num_of {k : Nat} {w : Int} (h : (k : Int) < w) (h4 : w ≤ 4) : numOf (Str.ofString (toString ((k : Nat) : Int))) w = (k : Nat) := by
  have := num_ok ⟨k, by omega⟩ ⟨w.toNat, by omega⟩ (by show k < w.toNat; omega)
  rw [show ((w.toNat : Nat) : Int) = w by omega] at this
  exact this
section
variable {T : Tx} {m : Nat} {cs ps : List Str}
theorem src_sg (t : TOk T m cs ps) {s : Sg} (h : okSg m cs s) : srcOk T s.t = true := by
  unfold srcOk
  cases s with
  | n k =>
    have hk : k < m := h
    have q := num_of (k := k) (w := T.w) (by have := t.w; omega) t.w4
    rw [Bool.or_eq_true]
    refine .inr (decide_eq_true ?_)
    show 0 ≤ numOf (Str.ofString (toString ((k : Nat) : Int))) T.w
    rw [q]
    omega
  | w z =>
    rw [Bool.or_eq_true, Bool.or_eq_true]
    rcases h with h | rfl | rfl
    · exact .inl (.inr (decide_eq_true (by rw [t.c]; exact h)))
    · exact .inl (.inl (by decide +kernel))
    · exact .inl (.inl (by decide +kernel))
theorem cond_ok (t : TOk T m cs ps) {c : List Sg} (h : okC m cs c) : condOk T (condW c) = true := by
  unfold condOk
  rw [Bool.or_eq_true]
  rcases h with rfl | rfl | ⟨o, a, b, rfl, ho, ha, hb⟩
  · exact .inl (by decide +kernel)
  · exact .inl (by decide +kernel)
  · refine .inr ?_
    show (decide (3 = 3) && decide (o ∈ (["=", "!="] : List Str)) && srcOk T a.t && srcOk T b.t) = true
    have ho' : decide (o ∈ (["=", "!="] : List Str)) = true := by rcases ho with rfl | rfl <;> decide +kernel
    rw [ho', src_sg t ha, src_sg t hb]
    rfl
theorem plain_ok (t : TOk T m cs ps) {l : List Sg} (h : okP m cs ps l) : plainOk T (l.map Sg.t) = true := by
  rcases h with ⟨p, d, s, rfl, hp, hd, hs⟩ | ⟨c, s, rfl, hc, hs⟩ | ⟨c, s, rfl, hc, hs⟩ | ⟨c, rfl, hc⟩ | rfl | ⟨s, rfl, hs⟩
  · have hd' : isDoor d = true := by rcases hd with rfl | rfl | rfl <;> decide +kernel
    show plainOk T ["ask", p, d, s.t] = true
    unfold plainOk
    dsimp only
    rw [show decide (("ask" : Str) ∈ (["set", "add"] : List Str)) = false by decide +kernel, Bool.false_and, if_neg Bool.false_ne_true, show decide (("ask" : Str) = ("draw" : Str)) = false by decide +kernel, Bool.false_and, if_neg Bool.false_ne_true, show decide (("ask" : Str) = ("ask" : Str)) = true by decide +kernel, Bool.true_and]
    refine (if_pos (decide_eq_true rfl)).trans ?_
    show askOk T p d s.t = true
    unfold askOk
    rw [src_sg t hs, hd', decide_eq_true (by rw [t.p]; exact hp)]
    rfl
  · show plainOk T ["set", c, s.t] = true
    unfold plainOk
    dsimp only
    rw [show decide (("set" : Str) ∈ (["set", "add"] : List Str)) = true by decide +kernel, Bool.true_and]
    refine (if_pos (decide_eq_true rfl)).trans ?_
    show (decide (c ∈ T.cells) && srcOk T s.t) = true
    rw [src_sg t hs, decide_eq_true (by rw [t.c]; exact hc)]
    rfl
  · show plainOk T ["add", c, s.t] = true
    unfold plainOk
    dsimp only
    rw [show decide (("add" : Str) ∈ (["set", "add"] : List Str)) = true by decide +kernel, Bool.true_and]
    refine (if_pos (decide_eq_true rfl)).trans ?_
    show (decide (c ∈ T.cells) && srcOk T s.t) = true
    rw [src_sg t hs, decide_eq_true (by rw [t.c]; exact hc)]
    rfl
  · show plainOk T ["draw", c] = true
    unfold plainOk
    dsimp only
    rw [show decide (("draw" : Str) ∈ (["set", "add"] : List Str)) = false by decide +kernel, Bool.false_and, if_neg Bool.false_ne_true, show decide (("draw" : Str) = ("draw" : Str)) = true by decide +kernel, Bool.true_and]
    refine (if_pos (decide_eq_true rfl)).trans ?_
    show decide (c ∈ T.cells) = true
    exact decide_eq_true (by rw [t.c]; exact hc)
  · show plainOk T ["fail"] = true
    unfold plainOk
    dsimp only
    rw [show decide (("fail" : Str) ∈ (["set", "add"] : List Str)) = false by decide +kernel, Bool.false_and, if_neg Bool.false_ne_true, show decide (("fail" : Str) = ("draw" : Str)) = false by decide +kernel, Bool.false_and, if_neg Bool.false_ne_true, show decide (("fail" : Str) = ("ask" : Str)) = false by decide +kernel, Bool.false_and, if_neg Bool.false_ne_true, show decide (("fail" : Str) = ("answer" : Str)) = false by decide +kernel, Bool.false_and, if_neg Bool.false_ne_true]
    decide +kernel
  · show plainOk T ["answer", s.t] = true
    unfold plainOk
    dsimp only
    rw [show decide (("answer" : Str) ∈ (["set", "add"] : List Str)) = false by decide +kernel, Bool.false_and, if_neg Bool.false_ne_true, show decide (("answer" : Str) = ("draw" : Str)) = false by decide +kernel, Bool.false_and, if_neg Bool.false_ne_true, show decide (("answer" : Str) = ("ask" : Str)) = false by decide +kernel, Bool.false_and, if_neg Bool.false_ne_true, show decide (("answer" : Str) = ("answer" : Str)) = true by decide +kernel, Bool.true_and]
    refine (if_pos (decide_eq_true rfl)).trans ?_
    exact src_sg t hs
end
/-! ### blocks are read -/
def stJ (T : Tx) : Nat → List Str → Nat → Nat → Res
  | 0 => stmtR T (fun _ _ _ => .error 0) 3
  | j + 1 => stmtR T (blk T j) (2 - j)
theorem blk_eq {T : Tx} : ∀ {j : Nat} {af : Bool} {n m : Nat}, j ≤ 2 → blk T j af n m = blockR T (stJ T j) (3 - j) af 8 n m
  | 0, _, _, _, _ => rfl
  | j + 1, af, n, m, h => by
    show blockR T (stmtR T (blk T j) (2 - j)) (2 - j) af 8 n m = blockR T (stmtR T (blk T j) (2 - j)) (3 - (j + 1)) af 8 n m
    rw [show 3 - (j + 1) = 2 - j by omega]
def Below (d : Nat) (rest : List Row) : Prop := ∀ r rs, rest = r :: rs → r.d < d
theorem wA_at {Rs rest : List Row} {n d : Nat} {r : Row} (h : Rs.drop n = r :: rest) : wA Rs n d = if d = r.d then r.ws else [] := by
  have e : Rs[n]? = some r := by
    have := congrArg (fun l : List Row => l[0]?) h
    rw [List.getElem?_drop] at this
    exact this
  unfold wA
  rw [e]
theorem wA_below {Rs rest : List Row} {n d : Nat} (h : Rs.drop n = rest) (b : Below d rest) : wA Rs n d = [] := by
  cases rest with
  | nil =>
    unfold wA
    have e : Rs[n]? = none := by
      rw [List.getElem?_eq_none_iff]
      have := congrArg List.length h
      rw [List.length_drop, List.length_nil] at this
      omega
    rw [e]
  | cons r rs =>
    rw [wA_at h]
    have := b r rs rfl
    rw [if_neg (by omega)]
theorem drop_next {Rs rest : List Row} {n : Nat} {r : Row} (h : Rs.drop n = r :: rest) : Rs.drop (n + 1) = rest := by
  rw [← List.drop_drop, h]
  rfl
theorem drop_more {Rs a rest : List Row} {n : Nat} (h : Rs.drop n = a ++ rest) : Rs.drop (n + a.length) = rest := by
  rw [← List.drop_drop, h, List.drop_left]
/-- what stands at the head of a block's rows -/
theorem rowsB_head {m : Nat} {cs ps : List Str} {d : Nat} : ∀ {B : Bl}, okB m cs ps d B → 1 ≤ B.len → ∃ z ws l, rowsB d B = ⟨d, z :: ws⟩ :: l ∧ z ≠ "else"
  | .nil, _, h => absurd h (by decide)
  | .pl l r, h, _ => by
    rcases h.1 with ⟨p, d, s, rfl, _⟩ | ⟨c, s, rfl, _⟩ | ⟨c, s, rfl, _⟩ | ⟨c, rfl, _⟩ | rfl | ⟨s, rfl, _⟩
    · exact ⟨_, _, _, rfl, by unfold Sg.t; decide +kernel⟩
    · exact ⟨_, _, _, rfl, by unfold Sg.t; decide +kernel⟩
    · exact ⟨_, _, _, rfl, by unfold Sg.t; decide +kernel⟩
    · exact ⟨_, _, _, rfl, by unfold Sg.t; decide +kernel⟩
    · exact ⟨_, _, _, rfl, by unfold Sg.t; decide +kernel⟩
    · exact ⟨_, _, _, rfl, by unfold Sg.t; decide +kernel⟩
  | .wh c b r, h, _ => ⟨_, _, _, rfl, by decide +kernel⟩
  | .iff c b e r, h, _ => ⟨_, _, _, rfl, by decide +kernel⟩
theorem below_next {m : Nat} {cs ps : List Str} {d : Nat} {B : Bl} {rest : List Row} (h : okB m cs ps d B) (b : Below d rest) : Below (d + 1) (rowsB d B ++ rest) := by
  intro r rs e
  by_cases l : 1 ≤ B.len
  · obtain ⟨z, ws, l, e2, _⟩ := rowsB_head h l
    rw [e2] at e
    injection e with e3 e4
    rw [← e3]
    exact Nat.lt_succ_self d
  · have : B = .nil := by
      cases B with
      | nil => rfl
      | _ => simp only [Bl.len] at l; omega
    subst this
    have := b r rs e
    omega
theorem wA_else {m : Nat} {cs ps : List Str} {d n : Nat} {B : Bl} {Rs rest : List Row} (h : okB m cs ps d B) (b : Below d rest) (e : Rs.drop n = rowsB d B ++ rest) : wA Rs n d ≠ (["else"] : List Str) := by
  by_cases l : 1 ≤ B.len
  · obtain ⟨z, ws, l, e2, ne⟩ := rowsB_head h l
    rw [e2] at e
    rw [wA_at (r := ⟨d, z :: ws⟩) e, if_pos rfl]
    intro q
    injection q with q1 q2
    exact ne q1
  · have : B = .nil := by
      cases B with
      | nil => rfl
      | _ => simp only [Bl.len] at l; omega
    subst this
    rw [wA_below (rest := rest) e b]
    exact fun q => nomatch q
end K5
namespace K5
open PySem PySem.Spec PyProof.Rows L2
section
variable {T : Tx} {m : Nat} {cs ps : List Str} {Rs : List Row}
theorem stJ_eq : ∀ {j : Nat}, j ≤ 2 → ∃ sub : Bool → Nat → Nat → Res, stJ T j = stmtR T sub (3 - j) ∧ ∀ i, j = i + 1 → sub = blk T i
  | 0, _ => ⟨_, rfl, fun i e => nomatch e⟩
  | j + 1, h => ⟨blk T j, by show stmtR T (blk T j) (2 - j) = stmtR T (blk T j) (3 - (j + 1)); rw [show 3 - (j + 1) = 2 - j by omega], fun i e => by injection e with e; rw [e]⟩
/-- one turn of a block -/
theorem blk_turn {st : List Str → Nat → Nat → Res} {d f n k n1 k1 : Nat} {af : Bool} {z : Str} {ws : List Str} (hw : wordsAt T.rows n d = z :: ws) (hk : k < 24) (ha : f = 7 → af = true → z = "ask") (hs : st (z :: ws) n (k + 1) = .ok (n1, k1)) :
    blockR T st d af (f + 1) n k = blockR T st d af f n1 k1 := by
  show (if wordsAt T.rows n d = [] then _ else _) = _
  rw [hw, if_neg (fun e => nomatch e), if_pos hk, if_pos ?_, hs]
  rw [Bool.or_eq_true]
  by_cases c : f = 7
  · refine .inr ?_
    cases af with
    | false => rfl
    | true => exact decide_eq_true (ha c rfl)
  · exact .inl (decide_eq_true c)
theorem blk_end {st : List Str → Nat → Nat → Res} {d f n k : Nat} {af : Bool} (hw : wordsAt T.rows n d = []) (h : f ≠ 8) : blockR T st d af f n k = .ok (n, k) := by
  cases f with
  | zero =>
    show (if wordsAt T.rows n d = [] then _ else _) = _
    rw [if_pos hw]
  | succ f =>
    show (if wordsAt T.rows n d = [] then (if f = 7 then _ else _) else _) = _
    rw [if_pos hw, if_neg (by omega)]
def askFirst : Bl → Prop
  | .pl (.w z :: _) _ => z = "ask"
  | _ => False
theorem parse_block (t : TOk T m cs ps) (hT : T.rows = Rs.map rowT) (hR : ∀ r ∈ Rs, RowOk r) : ∀ (B : Bl) (d j : Nat), d + j = 3 → j ≤ 2 → okB m cs ps d B → ∀ (n k f : Nat) (af : Bool) (rest : List Row), Rs.drop n = rowsB d B ++ rest → Below d rest → k + B.sz ≤ 24 → B.len ≤ f → f ≤ 8 → (f = 8 → 1 ≤ B.len ∧ (af = true → askFirst B)) →
    blockR T (stJ T j) d af f n k = .ok (n + (rowsB d B).length, k + B.sz) := by
  have wa : ∀ {n d : Nat}, d ≤ 3 → wordsAt T.rows n d = wA Rs n d := fun h => by rw [hT]; exact words_rows hR h
  intro B
  induction B with
  | nil =>
    intro d j dj hj ok n k f af rest e b sz lf f8 h8
    refine blk_end ?_ (fun q => absurd (h8 q).1 (by decide))
    rw [wa (by omega), wA_below (rest := rest) e b]
  | pl l r ih =>
    intro d j dj hj ok n k f af rest e b sz lf f8 h8
    have e0 : Rs.drop n = ⟨d, l.map Sg.t⟩ :: (rowsB d r ++ rest) := e
    have hw : wordsAt T.rows n d = l.map Sg.t := by rw [wa (by omega), wA_at e0, if_pos rfl]
    have sz1 : k + (1 + r.sz) ≤ 24 := sz
    have lf1 : 1 + r.len ≤ f := lf
    obtain ⟨z, l', rfl, z1, z2⟩ := okP_head ok.1
    obtain ⟨g, rfl⟩ : ∃ g, f = g + 1 := ⟨f - 1, by omega⟩
    have z3 : z ≠ "while" := fun q => z1 (by rw [q]; decide +kernel)
    obtain ⟨sub, es, _⟩ := stJ_eq (T := T) hj
    have st1 : stJ T j (z :: l'.map Sg.t) n (k + 1) = .ok (n + 1, k + 1) := by
      rw [es]
      unfold stmtR
      show (if decide (z = "if") = true then _ else if decide (z = "while") = true then _ else if plainOk T (z :: l'.map Sg.t) = true then _ else _) = _
      rw [if_neg (fun q => z2 (of_decide_eq_true q)), if_neg (fun q => z3 (of_decide_eq_true q)), if_pos (show plainOk T (z :: l'.map Sg.t) = true from plain_ok t ok.1)]
    rw [blk_turn (z := z) (ws := l'.map Sg.t) hw (by omega) (fun q1 q2 => (h8 (by omega)).2 q2) st1]
    rw [ih d j dj hj ok.2 (n + 1) (k + 1) g af rest (drop_next e0) b (by omega) (by omega) (by omega) (fun q => absurd q (by omega))]
    show Except.ok _ = Except.ok (n + ((rowsB d r).length + 1), k + (1 + r.sz))
    congr 2 <;> omega
  | wh c b r ihb ihr =>
    intro d j dj hj ok n k f af rest e bl sz lf f8 h8
    obtain ⟨hd2, okc, ⟨p, en, sg, b', rfl⟩, lb, ok1, ok2⟩ := ok
    have e0 : Rs.drop n = ⟨d, "while" :: condW c⟩ :: ((rowsB (d + 1) (.pl [.w "ask", .w p, .w en, sg] b') ++ rowsB d r) ++ rest) := e
    rw [List.append_assoc] at e0
    have hw : wordsAt T.rows n d = ("while" : Str) :: condW c := by rw [wa (by omega), wA_at e0, if_pos rfl]
    have sz1 : k + (1 + (Bl.pl [.w "ask", .w p, .w en, sg] b').sz + r.sz) ≤ 24 := sz
    have lf1 : 1 + r.len ≤ f := lf
    obtain ⟨g, rfl⟩ : ∃ g, f = g + 1 := ⟨f - 1, by omega⟩
    obtain ⟨i, rfl⟩ : ∃ i, j = i + 1 := ⟨j - 1, by omega⟩
    obtain ⟨sub, es, hsub⟩ := stJ_eq (T := T) hj
    have hs := hsub i rfl
    have d3 : 3 - (i + 1) = d := by omega
    have i1 := ihb (d + 1) i (by omega) (by omega) ok1 (n + 1) (k + 1) 8 true (rowsB d r ++ rest) (drop_next e0) (below_next ok2 bl) (by omega) (by omega) (by omega) (fun _ => ⟨by show 1 ≤ 1 + b'.len; omega, fun _ => rfl⟩)
    have hk : headOk T d ("while" :: condW c) = true := by
      unfold headOk
      rw [Bool.and_eq_true]
      exact ⟨decide_eq_true hd2, cond_ok t okc⟩
    have st1 : stJ T (i + 1) ("while" :: condW c) n (k + 1) = .ok (n + 1 + (rowsB (d + 1) (.pl [.w "ask", .w p, .w en, sg] b')).length, k + 1 + (Bl.pl [.w "ask", .w p, .w en, sg] b').sz) := by
      rw [es, d3]
      unfold stmtR
      show (if decide (("while" : Str) = "if") = true then _ else if decide (("while" : Str) = "while") = true then whileR T sub d ("while" :: condW c) n (k + 1) else _) = _
      rw [if_neg (by decide +kernel), if_pos (by decide +kernel)]
      unfold whileR
      rw [if_pos hk, hs, blk_eq (by omega), show 3 - i = d + 1 by omega]
      exact i1
    rw [blk_turn (z := "while") (ws := condW c) hw (by omega) (fun q1 q2 => ((h8 (by omega)).2 q2).elim) st1]
    have e2 : Rs.drop (n + 1 + (rowsB (d + 1) (.pl [.w "ask", .w p, .w en, sg] b')).length) = rowsB d r ++ rest := drop_more (drop_next e0)
    rw [ihr d (i + 1) dj hj ok2 _ (k + 1 + (Bl.pl [.w "ask", .w p, .w en, sg] b').sz) g af rest e2 bl (by omega) (by omega) (by omega) (fun q => absurd q (by omega))]
    show Except.ok _ = Except.ok (n + ((rowsB (d + 1) (.pl [.w "ask", .w p, .w en, sg] b') ++ rowsB d r).length + 1), k + (1 + (Bl.pl [.w "ask", .w p, .w en, sg] b').sz + r.sz))
    rw [List.length_append]
    congr 2 <;> omega
  | iff c b el r ihb ihe ihr =>
    intro d j dj hj ok n k f af rest e bl sz lf f8 h8
    obtain ⟨hd2, okc, lb1, lb, le, ok1, oke, ok2⟩ := ok
    have e0 : Rs.drop n = ⟨d, "if" :: condW c⟩ :: ((rowsB (d + 1) b ++ (elseR' d (rowsB (d + 1) el) el ++ rowsB d r)) ++ rest) := e
    rw [List.append_assoc, List.append_assoc] at e0
    have hw : wordsAt T.rows n d = ("if" : Str) :: condW c := by rw [wa (by omega), wA_at e0, if_pos rfl]
    have sz1 : k + (1 + b.sz + el.sz + r.sz) ≤ 24 := sz
    have lf1 : 1 + r.len ≤ f := lf
    obtain ⟨g, rfl⟩ : ∃ g, f = g + 1 := ⟨f - 1, by omega⟩
    obtain ⟨i, rfl⟩ : ∃ i, j = i + 1 := ⟨j - 1, by omega⟩
    obtain ⟨sub, es, hsub⟩ := stJ_eq (T := T) hj
    have hs := hsub i rfl
    have d3 : 3 - (i + 1) = d := by omega
    have bel : Below (d + 1) (elseR' d (rowsB (d + 1) el) el ++ (rowsB d r ++ rest)) := by
      cases el with
      | nil => exact below_next ok2 bl
      | _ =>
        intro r0 rs0 q
        injection q with q1 q2
        rw [← q1]
        exact Nat.lt_succ_self d
    have i1 := ihb (d + 1) i (by omega) (by omega) ok1 (n + 1) (k + 1) 8 false _ (drop_next e0) bel (by omega) (by omega) (by omega) (fun _ => ⟨lb1, fun q => nomatch q⟩)
    have e2 : Rs.drop (n + 1 + (rowsB (d + 1) b).length) = elseR' d (rowsB (d + 1) el) el ++ (rowsB d r ++ rest) := drop_more (drop_next e0)
    have hk : headOk T d ("if" :: condW c) = true := by
      unfold headOk
      rw [Bool.and_eq_true]
      exact ⟨decide_eq_true hd2, cond_ok t okc⟩
    have st1 : stJ T (i + 1) ("if" :: condW c) n (k + 1) = .ok (n + 1 + (rowsB (d + 1) b).length + (elseR' d (rowsB (d + 1) el) el).length, k + 1 + b.sz + el.sz) := by
      rw [es, d3]
      unfold stmtR
      show (if decide (("if" : Str) = "if") = true then ifR T sub d ("if" :: condW c) n (k + 1) else _) = _
      rw [if_pos (by decide +kernel)]
      unfold ifR
      rw [if_pos hk, hs, blk_eq (by omega), show 3 - i = d + 1 by omega, i1]
      show elseR T (blk T i) d (n + 1 + (rowsB (d + 1) b).length) (k + 1 + b.sz) = _
      unfold elseR
      rw [wa (by omega)]
      by_cases nl : el = .nil
      · subst nl
        rw [if_neg (fun q => wA_else ok2 bl e2 (of_decide_eq_true q))]
        rfl
      · have ee : elseR' d (rowsB (d + 1) el) el = ⟨d, ["else"]⟩ :: rowsB (d + 1) el := by
          cases el with
          | nil => exact absurd rfl nl
          | _ => rfl
        have el1 : 1 ≤ el.len := by
          cases el with
          | nil => exact absurd rfl nl
          | _ => simp only [Bl.len] <;> omega
        rw [ee] at e2 ⊢
        have e2 : Rs.drop (n + 1 + (rowsB (d + 1) b).length) = ⟨d, ["else"]⟩ :: (rowsB (d + 1) el ++ (rowsB d r ++ rest)) := e2
        rw [wA_at e2, if_pos rfl, if_pos (decide_eq_true rfl), blk_eq (by omega), show 3 - i = d + 1 by omega]
        rw [ihe (d + 1) i (by omega) (by omega) oke _ (k + 1 + b.sz) 8 false _ (drop_next e2) (below_next ok2 bl) (by omega) (by omega) (by omega) (fun _ => ⟨el1, fun q => nomatch q⟩)]
        show Except.ok _ = Except.ok (_ + ((rowsB (d + 1) el).length + 1), _)
        congr 2
        omega
    rw [blk_turn (z := "if") (ws := condW c) hw (by omega) (fun q1 q2 => ((h8 (by omega)).2 q2).elim) st1]
    have e3 : Rs.drop (n + 1 + (rowsB (d + 1) b).length + (elseR' d (rowsB (d + 1) el) el).length) = rowsB d r ++ rest := drop_more e2
    rw [ihr d (i + 1) dj hj ok2 _ (k + 1 + b.sz + el.sz) g af rest e3 bl (by omega) (by omega) (by omega) (fun q => absurd q (by omega))]
    show Except.ok _ = Except.ok (n + ((rowsB (d + 1) b ++ (elseR' d (rowsB (d + 1) el) el ++ rowsB d r)).length + 1), k + (1 + b.sz + el.sz + r.sz))
    rw [List.length_append, List.length_append]
    congr 2 <;> omega
end
end K5
namespace K5
open PySem PySem.Spec PyProof.Rows L2
/-- what a text of a part has to be, to be read -/
structure PaOk (D : Dr) : Prop where
  m4 : D.m ≤ 4
  c3 : D.cs.length ≤ 3
  cn : ∀ q ∈ D.cs, q.1 ∈ someNm ∧ q.2 < D.m
  cd : (D.cs.map (·.1)).Nodup
  p2 : D.ps.length ≤ 2
  pn : ∀ z ∈ D.ps, z ∈ portNm
  pd : D.ps.Nodup
  d1 : 1 ≤ D.ds.length
  d3 : D.ds.length ≤ 3
  dn : ∀ q ∈ D.ds, q.1 ∈ doorNm
  dd : (D.ds.map (·.1)).Nodup
  db : ∀ q ∈ D.ds, okB D.m (D.cs.map (·.1)) D.ps 1 q.2 ∧ 1 ≤ q.2.len ∧ q.2.len ≤ 8
  tot : (D.ds.map (fun q => q.2.sz)).sum ≤ 24
theorem nm_names : (∀ z ∈ portNm, isName z = true) ∧ (∀ z ∈ someNm, decide (z ∈ (["it", "got", "lost", "busy"] : List Str)) = false) ∧ (∀ z ∈ doorNm, isDoor z = true) := by decide +kernel
theorem sum3 {f : Str × Bl → Nat} {k : Nat} : ∀ {l : List (Str × Bl)}, (∀ q ∈ l, f q ≤ k) → (l.map f).sum ≤ k * l.length
  | [], _ => Nat.zero_le _
  | q :: l, h => by
    have h1 := h q (List.mem_cons_self ..)
    have h2 := sum3 (l := l) fun p hp => h p (List.mem_cons_of_mem _ hp)
    rw [List.map_cons, List.sum_cons, List.length_cons, Nat.mul_succ]
    omega
section
variable {D : Dr}
theorem DrOk.tot (h : DrOk D) : (D.ds.map (fun q => q.2.sz)).sum ≤ 21 := by
  have h1 := sum3 (f := fun q => q.2.sz) (k := 22 / D.ds.length - 1) (l := D.ds) fun q hq => by
    have := (h.db q hq).2.2.2
    show q.2.sz ≤ _
    omega
  have : D.ds.length = 1 ∨ D.ds.length = 2 ∨ D.ds.length = 3 := by
    have := h.d1
    have := h.d3
    omega
  rcases this with e | e | e <;> rw [e] at h1 <;> omega
theorem DrOk.pa (h : DrOk D) : PaOk D where
  m4 := h.m4
  c3 := h.c3
  cn := h.cn
  cd := h.cd
  p2 := h.p2
  pn := h.pn
  pd := h.pd
  d1 := h.d1
  d3 := h.d3
  dn := h.dn
  dd := h.dd
  db := fun q hq => ⟨(h.db q hq).1, (h.db q hq).2.1, by have := (h.db q hq).2.2.1; omega⟩
  tot := by have := h.tot; omega
theorem PaOk.nc (h : PaOk D) : ∀ z, z ∈ D.cs.map (·.1) ∨ z ∈ D.ps → NmOk z := fun z hz => by
  refine someNm_ok z ?_
  rcases hz with hz | hz
  · obtain ⟨q, hq, rfl⟩ := List.mem_map.mp hz
    exact List.mem_append_left _ (h.cn q hq).1
  · exact h.pn z hz
theorem PaOk.rows (h : PaOk D) : ∀ r ∈ rowsD D, RowOk r := fun r hr => by
  unfold rowsD rowsP at hr
  rcases List.mem_append.mp hr with hr | hr
  · rcases List.mem_append.mp hr with hr | hr
    · obtain ⟨q, hq, rfl⟩ := List.mem_map.mp hr
      refine ⟨Nat.zero_le _, (fun e => nomatch e), Nat.le_of_ble_eq_true rfl, fun z hz => ?_⟩
      simp only [List.mem_cons, List.not_mem_nil, or_false] at hz
      rcases hz with rfl | rfl | rfl
      · exact nm1.1
      · exact h.nc _ (.inl (List.mem_map_of_mem hq))
      · exact nm_small ⟨q.2, Nat.lt_of_lt_of_le (h.cn q hq).2 h.m4⟩
    · obtain ⟨z, hz, rfl⟩ := List.mem_map.mp hr
      refine ⟨Nat.zero_le _, (fun e => nomatch e), Nat.le_of_ble_eq_true rfl, fun y hy => ?_⟩
      simp only [List.mem_cons, List.not_mem_nil, or_false] at hy
      rcases hy with rfl | rfl
      · exact nm1.2.1
      · exact h.nc _ (.inr hz)
  · exact rowsDo_ok h.m4 h.nc (fun q hq => ⟨doorNm_ok _ (h.dn q hq), (h.db q hq).1⟩) r hr
end
/-! ### cells, ports, doors are read -/
def cellRow (q : Str × Nat) : Row := ⟨0, ["cell", q.1, toString ((q.2 : Nat) : Int)]⟩
def portRow (z : Str) : Row := ⟨0, ["port", z]⟩
def cI (q : Str × Nat) : Str × Int := (q.1, (q.2 : Nat))
section
variable {Rs : List Row} {w : Int} {m : Nat}
theorem cells_read (hR : ∀ r ∈ Rs, RowOk r) (hw : (m : Int) ≤ w) (w4 : w ≤ 4) {e : Nat} (hne : (wA Rs e 0).take 1 ≠ (["cell"] : List Str)) : ∀ (rem done : List (Str × Nat)) (n f : Nat) (rest : List Row), Rs.drop n = rem.map cellRow ++ rest → n + rem.length = e → f + done.length = 4 → done.length + rem.length ≤ 3 →
    (∀ q ∈ rem, q.1 ∈ someNm ∧ q.2 < m) → ((done ++ rem).map (·.1)).Nodup → cellsR (Rs.map rowT) w f n (done.map cI) = .ok (e, (done ++ rem).map cI)
  | [], done, n, f, rest, hd, he, hf, hl, hn, nd => by
    obtain ⟨g, rfl⟩ : ∃ g, f = g + 1 := ⟨f - 1, by simp only [List.length_nil] at hl; omega⟩
    unfold cellsR
    rw [words_rows hR (by decide), if_neg (fun q => hne (by rw [← he]; exact of_decide_eq_true q)), List.append_nil, ← he]
    rfl
  | q :: rem, done, n, f, rest, hd, he, hf, hl, hn, nd => by
    simp only [List.length_cons] at he hl
    obtain ⟨g, rfl⟩ : ∃ g, f = g + 1 := ⟨f - 1, by omega⟩
    have hd0 : Rs.drop n = cellRow q :: (rem.map cellRow ++ rest) := hd
    have hwd : wordsAt (Rs.map rowT) n 0 = ([("cell" : Str), q.1, Str.ofString (toString ((q.2 : Nat) : Int))] : List Str) := by
      rw [words_rows hR (by decide), wA_at hd0]
      exact if_pos rfl
    obtain ⟨h1, h2⟩ := hn q (List.mem_cons_self ..)
    have hnum := num_of (k := q.2) (w := w) (by omega) w4
    have hni : q.1 ∉ (done.map cI).map (·.1) := by
      intro c
      rw [List.map_map] at c
      rw [List.map_append, List.map_cons] at nd
      have := (List.nodup_append.mp nd).2.2
      exact this q.1 c q.1 (List.mem_cons_self ..) rfl
    unfold cellsR
    rw [hwd]
    rw [if_pos (show decide (([("cell" : Str), q.1, Str.ofString (toString ((q.2 : Nat) : Int))] : List Str).take 1 = (["cell"] : List Str)) = true from decide_eq_true rfl)]
    rw [if_pos (show (decide (([("cell" : Str), q.1, Str.ofString (toString ((q.2 : Nat) : Int))] : List Str).length = 3) && decide ((done.map cI).length < 3)) = true by
      rw [Bool.and_eq_true]
      exact ⟨decide_eq_true rfl, decide_eq_true (by rw [List.length_map]; omega)⟩)]
    refine (if_pos (show (isName q.1 && (!decide (q.1 ∈ (["it", "got", "lost", "busy"] : List Str)) && !decide (q.1 ∈ (done.map cI).map (·.1)))) = true by
      rw [nm_names.1 q.1 (List.mem_append_left _ h1), nm_names.2.1 q.1 h1, decide_eq_false hni]
      rfl)).trans ?_
    show (if decide (0 ≤ numOf (Str.ofString (toString ((q.2 : Nat) : Int))) w) = true then cellsR (Rs.map rowT) w g (n + 1) (done.map cI ++ [(q.1, numOf (Str.ofString (toString ((q.2 : Nat) : Int))) w)]) else _) = _
    rw [hnum, if_pos (decide_eq_true (by omega))]
    have ih := cells_read hR hw w4 hne rem (done ++ [q]) (n + 1) g rest (drop_next hd0) (by omega) (by rw [List.length_append]; show g + (done.length + 1) = 4; omega) (by rw [List.length_append]; show done.length + 1 + rem.length ≤ 3; omega) (fun p hp => hn p (List.mem_cons_of_mem _ hp)) (by rw [List.append_assoc]; exact nd)
    rw [List.map_append, List.append_assoc] at ih
    exact ih
theorem ports_read (hR : ∀ r ∈ Rs, RowOk r) {e : Nat} (hne : (wA Rs e 0).take 1 ≠ (["port"] : List Str)) : ∀ (rem done : List Str) (n f : Nat) (rest : List Row), Rs.drop n = rem.map portRow ++ rest → n + rem.length = e → f + done.length = 3 → done.length + rem.length ≤ 2 →
    (∀ z ∈ rem, z ∈ portNm) → (done ++ rem).Nodup → portsR (Rs.map rowT) f n done = .ok (e, done ++ rem)
  | [], done, n, f, rest, hd, he, hf, hl, hn, nd => by
    obtain ⟨g, rfl⟩ : ∃ g, f = g + 1 := ⟨f - 1, by simp only [List.length_nil] at hl; omega⟩
    unfold portsR
    rw [words_rows hR (by decide), if_neg (fun q => hne (by rw [← he]; exact of_decide_eq_true q)), List.append_nil, ← he]
    rfl
  | z :: rem, done, n, f, rest, hd, he, hf, hl, hn, nd => by
    simp only [List.length_cons] at he hl
    obtain ⟨g, rfl⟩ : ∃ g, f = g + 1 := ⟨f - 1, by omega⟩
    have hd0 : Rs.drop n = portRow z :: (rem.map portRow ++ rest) := hd
    have hwd : wordsAt (Rs.map rowT) n 0 = ([("port" : Str), z] : List Str) := by
      rw [words_rows hR (by decide), wA_at hd0]
      exact if_pos rfl
    have h1 := hn z (List.mem_cons_self ..)
    have hni : z ∉ done := by
      intro c
      exact (List.nodup_append.mp nd).2.2 z c z (List.mem_cons_self ..) rfl
    unfold portsR
    rw [hwd]
    rw [if_pos (show decide (([("port" : Str), z] : List Str).take 1 = (["port"] : List Str)) = true from decide_eq_true rfl)]
    rw [if_pos (show (decide (([("port" : Str), z] : List Str).length = 2) && decide (done.length < 2)) = true by
      rw [Bool.and_eq_true]
      exact ⟨decide_eq_true rfl, decide_eq_true (by omega)⟩)]
    refine (if_pos (show (isName z && !decide (z ∈ done)) = true by
      rw [nm_names.1 z h1, decide_eq_false hni]
      rfl)).trans ?_
    have ih := ports_read hR hne rem (done ++ [z]) (n + 1) g rest (drop_next hd0) (by omega) (by rw [List.length_append]; show g + (done.length + 1) = 3; omega) (by rw [List.length_append]; show done.length + 1 + rem.length ≤ 2; omega) (fun p hp => hn p (List.mem_cons_of_mem _ hp)) (by rw [List.append_assoc]; exact nd)
    rw [List.append_assoc] at ih
    exact ih
theorem doors_read {T : Tx} {cs ps : List Str} (t : TOk T m cs ps) (hT : T.rows = Rs.map rowT) (hR : ∀ r ∈ Rs, RowOk r) : ∀ (rem : List (Str × Bl)) (done : List Str) (n f k : Nat), Rs.drop n = rowsDo rem → f + done.length = 4 → done.length + rem.length ≤ 3 → 1 ≤ done.length + rem.length → k + (rem.map (fun q => q.2.sz)).sum ≤ 24 →
    (∀ q ∈ rem, q.1 ∈ doorNm ∧ okB m cs ps 1 q.2 ∧ 1 ≤ q.2.len ∧ q.2.len ≤ 8) → (done ++ rem.map (·.1)).Nodup → doorsR T f n k done = .ok (n + (rowsDo rem).length, done ++ rem.map (·.1))
  | [], done, n, f, k, hd, hf, hl, h1, hk, hn, nd => by
    simp only [List.length_nil] at hl h1
    obtain ⟨g, rfl⟩ : ∃ g, f = g + 1 := ⟨f - 1, by omega⟩
    unfold doorsR
    rw [hT, words_rows hR (by decide), wA_below (rest := []) hd (fun r rs e => nomatch e)]
    rw [if_neg (fun q => ?_)]
    · rw [List.map_nil, List.append_nil]
      rfl
    · rw [Bool.or_eq_true] at q
      rcases q with q | q
      · exact absurd (of_decide_eq_true q) (fun e => nomatch e)
      · rw [of_decide_eq_true q] at h1
        exact absurd h1 (by decide)
  | q :: rem, done, n, f, k, hd, hf, hl, h1, hk, hn, nd => by
    simp only [List.length_cons] at hl
    rw [List.map_cons, List.sum_cons] at hk
    obtain ⟨g, rfl⟩ : ∃ g, f = g + 1 := ⟨f - 1, by omega⟩
    have hd0 : Rs.drop n = ⟨0, ["door", q.1]⟩ :: (rowsB 1 q.2 ++ rowsDo rem) := hd
    have hwd : wordsAt T.rows n 0 = ([("door" : Str), q.1] : List Str) := by
      rw [hT, words_rows hR (by decide), wA_at hd0]
      exact if_pos rfl
    obtain ⟨n1, ok, l1, l8⟩ := hn q (List.mem_cons_self ..)
    have hni : q.1 ∉ done := by
      intro c
      rw [List.map_cons] at nd
      exact (List.nodup_append.mp nd).2.2 q.1 c q.1 (List.mem_cons_self ..) rfl
    have bel : Below 1 (rowsDo rem) := by
      intro r rs e
      cases rem with
      | nil => cases e
      | cons p rem =>
        injection e with e1 e2
        rw [← e1]
        exact Nat.zero_lt_one
    have hb := parse_block t hT hR q.2 1 2 rfl (by decide) ok (n + 1) k 8 false (rowsDo rem) (drop_next hd0) bel (by omega) l8 (by decide) (fun _ => ⟨l1, fun q => nomatch q⟩)
    unfold doorsR
    rw [hwd]
    have t1 : decide (([("door" : Str), q.1] : List Str).take 1 = (["door"] : List Str)) = true := decide_eq_true rfl
    rw [t1, if_pos (show (true || decide (done = [])) = true from rfl)]
    rw [if_pos (show (true && (decide (([("door" : Str), q.1] : List Str).length = 2) && decide (done.length < 3))) = true by
      rw [Bool.true_and, Bool.and_eq_true]
      exact ⟨decide_eq_true rfl, decide_eq_true (by omega)⟩)]
    refine (if_pos (show (isDoor q.1 && !decide (q.1 ∈ done)) = true by
      rw [nm_names.2.2 q.1 n1, decide_eq_false hni]
      rfl)).trans ?_
    rw [blk_eq (by decide), show 3 - 2 = 1 from rfl, hb]
    have ih := doors_read t hT hR rem (done ++ [q.1]) (n + 1 + (rowsB 1 q.2).length) g (k + q.2.sz) (drop_more (drop_next hd0)) (by rw [List.length_append]; show g + (done.length + 1) = 4; omega) (by rw [List.length_append]; show done.length + 1 + rem.length ≤ 3; omega) (by rw [List.length_append]; show 1 ≤ done.length + 1 + rem.length; omega) (by omega) (fun p hp => hn p (List.mem_cons_of_mem _ hp)) (by rw [List.append_assoc]; exact nd)
    rw [List.append_assoc] at ih
    refine ih.trans ?_
    show Except.ok _ = Except.ok (n + ((rowsB 1 q.2 ++ rowsDo rem).length + 1), _)
    rw [List.length_append]
    congr 2
    omega
/-- the text of a part is read -/
theorem part_read {D : Dr} (h : PaOk D) (hw : (D.m : Int) ≤ w) (w4 : w ≤ 4) : partR w (rowsOf (textD D)) = .ok (D.cs.map cI, D.ps, D.ds.map (·.1)) := by
  have hR := h.rows
  have d1 := h.d1
  have ne : rowsDo D.ds ≠ [] := by
    cases e : D.ds with
    | nil => rw [e] at d1; exact absurd d1 (by decide)
    | cons q l => exact fun q => nomatch q
  have ne2 : rowsD D ≠ [] := fun e => ne (List.append_eq_nil_iff.mp e).2
  obtain ⟨q0, l0, e0⟩ : ∃ q l, D.ds = q :: l := by
    cases e : D.ds with
    | nil => rw [e] at d1; exact absurd d1 (by decide)
    | cons q l => exact ⟨q, l, rfl⟩
  unfold textD
  rw [rows_text ne2 hR]
  unfold partR
  have r0 : (rowsD D).drop 0 = D.cs.map cellRow ++ (D.ps.map portRow ++ rowsDo D.ds) := by
    show D.cs.map cellRow ++ D.ps.map portRow ++ rowsDo D.ds = _
    rw [List.append_assoc]
  have r1 : (rowsD D).drop (0 + D.cs.length) = D.ps.map portRow ++ rowsDo D.ds := by
    have := drop_more r0
    rw [List.length_map] at this
    exact this
  have r2 : (rowsD D).drop (0 + D.cs.length + D.ps.length) = rowsDo D.ds := by
    have := drop_more r1
    rw [List.length_map] at this
    exact this
  have door0 : wA (rowsD D) (0 + D.cs.length + D.ps.length) 0 = ([("door" : Str), q0.1] : List Str) := by
    rw [e0] at r2
    exact (wA_at (r := ⟨0, ["door", q0.1]⟩) r2).trans (if_pos rfl)
  have hc : (wA (rowsD D) (0 + D.cs.length) 0).take 1 ≠ (["cell"] : List Str) := by
    cases ep : D.ps with
    | nil =>
      rw [ep] at door0
      rw [show 0 + D.cs.length = 0 + D.cs.length + ([] : List Str).length from rfl, door0]
      exact fun e => absurd e (show ¬ (["door"] : List Str) = (["cell"] : List Str) by decide +kernel)
    | cons z l =>
      rw [ep] at r1
      have w1 : wA (rowsD D) (0 + D.cs.length) 0 = ([("port" : Str), z] : List Str) := (wA_at (r := portRow z) r1).trans (if_pos rfl)
      rw [w1]
      exact fun e => absurd e (show ¬ (["port"] : List Str) = (["cell"] : List Str) by decide +kernel)
  have hp : (wA (rowsD D) (0 + D.cs.length + D.ps.length) 0).take 1 ≠ (["port"] : List Str) := by
    rw [door0]
    exact fun e => absurd e (show ¬ (["door"] : List Str) = (["port"] : List Str) by decide +kernel)
  have a := cells_read hR hw w4 hc D.cs [] 0 4 _ r0 rfl rfl (by simpa using h.c3) h.cn h.cd
  rw [List.nil_append, List.map_nil] at a
  rw [a]
  have b := ports_read hR hp D.ps [] (0 + D.cs.length) 3 _ r1 rfl rfl (by simpa using h.p2) h.pn h.pd
  rw [List.nil_append] at b
  dsimp only
  rw [b]
  have cc : (D.cs.map cI).map (·.1) = D.cs.map (·.1) := by
    rw [List.map_map]
    rfl
  have t : TOk ⟨(rowsD D).map rowT, w, (D.cs.map cI).map (·.1), D.ps⟩ D.m (D.cs.map (·.1)) D.ps := ⟨hw, w4, cc, rfl⟩
  have c := doors_read t rfl hR D.ds [] (0 + D.cs.length + D.ps.length) 4 0 r2 rfl (by simpa using h.d3) (by simpa using d1) (by have := h.tot; omega) (fun q hq => ⟨h.dn q hq, h.db q hq⟩) (by simpa using h.dd)
  dsimp only
  rw [c]
  dsimp only
  rw [if_pos ?_]
  · rfl
  · rw [List.length_map]
    unfold rowsD rowsP
    rw [List.length_append, List.length_append, List.length_map, List.length_map]
    omega
end
end K5
namespace K5
open PySem PySem.Spec PyProof.Rows L2
/-! ### == and != by an own __eq__, the other of any type -/
section
variable {X : Cx} {pins : List (Addr × Obj)} {σ : L2.St} {H : Hp} {s : Shared} {C f : Addr}
theorem looks_tyx {x : V} {u t : Value} (I : Inv X pins σ H s) (rx : RelV x u) (ty : TyX X.K H x t) : PySem.W.Looks (model X.prog X.w) s.heap (typeOf u) t := by
  obtain ⟨P, k, hp, _⟩ := kit_of I rx ty
  exact k.ty _ _ I.kIn hp
/-- x == y, x an instance of the class at C with an own __eq__ at f -/
def rPEq (K : PySem.W.Frag) (C : Addr) (sp : Sp) : R2 := fun x y H Q => ∃ (a dx : Addr) (fs : List (Str × V)) (t : Value), x = .ref a ∧ H a = some (.ins C dx fs) ∧ TyX K H y t ∧ PySem.W.notFirst K C t = true ∧ sp [x, y] H (fun v H' => ∃ b, v = .bl b ∧ Q (.bl b) H') E0
theorem op_peq {CX : CXT} {n : Nat} {fd : FuncData} {ps : List Str} {sp : Sp} (F : FnOk X.prog X.w X.K X.mg X.base CX n f fd ps sp) (hb : Binds X.K fd ps []) (hs : PySem.W.findIn X.K (.ref C) "__eq__" = some (some (.ref f))) (hf : PySem.W.isFn X.K (.ref f) = true)
    (hr : Room n X.A) (hx : Passes CX X E0) : OpR X (compareOp .Eq) (rPEq X.K C sp) := by
  intro pins s σ H x y v u Q I rx ry h
  obtain ⟨a, dx, fs, t, rfl, ha, ty, hn, q⟩ := h
  cases rx
  obtain ⟨mA, J, _⟩ := ins_get I.hok ha
  obtain ⟨od, J, _⟩ := J.look
  obtain ⟨m, hF⟩ := I.fr
  show wpAny (model X.prog X.w) X.A (richCompare .Eq (.ref a) u) (EP X pins σ Q) X.xe s
  refine PySem.W.cmp_K (op := .Eq) (tb := t) hr.units0 hF I.ok.mod.kin J (looks_tyx I ry ty) hn hs hf ?_
  have F2 := F.raw hb (dvs := []) .nil
  refine wpAny_mono (wpAny_call (run_fnR (us := [.ref a, u]) (vs := [.ref a, y]) F2 hr hx I (.cons rfl (.cons ry .nil)) q)) (fun w s' z => ?_) fun _ _ x => x
  obtain ⟨z', H', I', rz, b, eb, qz⟩ := z
  subst eb
  exact SlX.cmpback rz ⟨.bl b, H', I', rz, qz⟩
theorem ifBound_objNe {M : Model} {A : Around} {E : Value → Shared → Prop} {K : PySem.W.Frag} {x : Addr} {ox : Obj} {od : Option Obj} {args : List Value} {Q : Option Value → Shared → Prop} (XI : K.In s.heap) (I : PySem.W.InstAt s.heap x ox C od) (hs : PySem.W.findIn K (.ref C) "__ne__" = some (some (.builtin "object.__ne__")))
    (h : wpAny M A (call (.builtin "object.__ne__") (.ref x :: args)) (fun v => Q (some v)) E s) : wpAny M A (callSpecialIfBound? (.ref x) "__ne__" args) Q E s := by
  simp only [callSpecialIfBound?, bindSpecialIfBound?]
  refine wpAny_holding (wpAny_bind (wpAny_bind (wpAny_bind (I.type.here ((PySem.W.looks_findIn XI hs).here ?_)))))
  refine wpAny_bind (wpAny_askSetting (wpAny_ite ?_))
  have fin : wpAny M A (call (.builtin "object.__ne__") ([.ref x] ++ args) >>= fun v => pure (some v)) Q E s := wpAny_bind (wpAny_mono h (fun v s' h' => wpAny_pure h') fun _ _ h' => h')
  split
  · exact wpAny_bind (wpAny_of_eq (F.cmp_object.ne.bind _) (wpAny_pure (by exact fin)))
  · exact wpAny_tryCatch (wpAny_bind (wpAny_of_eq (F.cmp_object.ne.bind _) (wpAny_pure (by exact fin))))
/-- x != y -/
def rPNe (K : PySem.W.Frag) (C : Addr) (sp : Sp) : R2 := fun x y H Q => ∃ (a dx : Addr) (fs : List (Str × V)) (t : Value), x = .ref a ∧ H a = some (.ins C dx fs) ∧ TyX K H y t ∧ PySem.W.notFirst K C t = true ∧ sp [x, y] H (fun v H' => ∃ b, v = .bl b ∧ Q (.bl (!b)) H') E0
theorem op_pne {CX : CXT} {n : Nat} {fd : FuncData} {ps : List Str} {sp : Sp} (F' : FnOk X.prog X.w X.K X.mg X.base CX n f fd ps sp) (hb : Binds X.K fd ps []) (hs : PySem.W.findIn X.K (.ref C) "__eq__" = some (some (.ref f))) (hf : PySem.W.isFn X.K (.ref f) = true)
    (hne : PySem.W.findIn X.K (.ref C) "__ne__" = some (some (.builtin "object.__ne__"))) (hm : PySem.W.mroIn X.K C (.type "object") = some true) (hr : Room (n + 2) X.A) (hx : Passes CX X E0) : OpR X (compareOp .NotEq) (rPNe X.K C sp) := by
  intro pins s σ H x y v u Q I rx ry h
  obtain ⟨a, dx, fs, t, rfl, ha, ty, hn, q⟩ := h
  cases rx
  obtain ⟨mA, J0, _⟩ := ins_get I.hok ha
  obtain ⟨od, J, _⟩ := J0.look
  obtain ⟨m, hF⟩ := I.fr
  have F2 := F'.raw hb (dvs := []) .nil
  have hu : X.A.in1.units < cLine := (show Room (n + 1) X.A.in1 from Room.in1 hr).units0
  have entry : wpAny (model X.prog X.w) X.A.in1 (Builtin.«object.__ne__» ⟨[.ref a, u], []⟩) (fun r s' => ∃ v, r = .done (.ret v) ∧ EP X pins σ Q v s' ∧ ∃ b, v = .bool b) X.xe s := by
    have sub : wpAny (model X.prog X.w) X.A.in1 (callSpecialIfBound? (.ref a) "__eq__" [u]) (fun r s' => ∃ b, r = some (.bool b) ∧ EP X pins σ Q (.bool (!b)) s') X.xe s := by
      refine PySem.W.ifBound_K I.kIn J hs hf (wpAny_mono (wpAny_call (SlX.run_at (A := X.A.in1) (us := [.ref a, u]) (ws := [.ref a, y]) F2 ((show Room (n + 1) X.A.in1 from Room.in1 hr).mono (by omega)) I.env0.in1 hx I (.cons rfl (.cons ry .nil)) q)) (fun w s' z => ?_) fun _ _ x => x)
      obtain ⟨z', H', I', rz, b, eb, qz⟩ := z
      subst eb
      cases (show w = Value.bool b from rz)
      exact ⟨b, rfl, .bl (!b), H', I', rfl, qz⟩
    unfold Builtin.«object.__ne__»
    repeat (first | with_reducible refine wpAny_cRoomFor hu ?_ | with_reducible refine wpAny_bind (wpAny_mono sub (fun r s' z => ?_) fun _ _ e => e) | with_reducible refine wpAny_mono sub (fun r s' z => ?_) fun _ _ e => e | wp_step)
    obtain ⟨b, rfl, e⟩ := z
    repeat (first | with_reducible refine wpAny_bind (wpAny_truthy_bool ?_) | with_reducible refine wpAny_truthy_bool ?_ | wp_step)
    exact ⟨_, rfl, e, _, rfl⟩
  show wpAny (model X.prog X.w) X.A (richCompare .NotEq (.ref a) u) (EP X pins σ Q) X.xe s
  have one : wpAny (model X.prog X.w) X.A (tryCompare (.ref a) "__ne__" u) (fun r s' => ∃ v, r = some v ∧ EP X pins σ Q v s') X.xe s := by
    unfold tryCompare
    refine wpAny_bind (ifBound_objNe I.kIn J hne (wpAny_call (codeAny_call_builtin F.cmp_object.ne.plain F.cmpEntry_ne (PySem.W.check_slot F.cmpKind_ne F.cmpSplit_ne (J.type.andThen (PySem.W.looks_mroIn I.kIn hm)) (F.cmpArgs_ne _ _) (wpAny_mono entry (fun r s' z => ?_) fun _ _ e => e)))))
    obtain ⟨v, rfl, e, b, rfl⟩ := z
    exact wpAny_pure ⟨_, rfl, e⟩
  have hbk := looks_tyx I ry ty
  unfold richCompare
  simp only [oneThing_ref]
  refine wpAny_holding (wpAny_bind (wpAny_cRoomFor hr.units0 ?_))
  refine wpAny_bind (J.type.here (wpAny_bind (hbk.here ?_)))
  split
  · rename_i q2
    have e : PySem.W.subIn X.K t (.ref C) = some false := by
      rcases Bool.or_eq_true_iff.mp hn with e | e
      · rw [beq_iff_eq.mp e] at q2; simp at q2
      · exact beq_iff_eq.mp e
    refine wpAny_bind ((PySem.W.looks_subIn I.kIn e).here ?_)
    simp only [Bool.false_eq_true, if_false]
    refine wpAny_bind (wpAny_mono one (fun r s' z => ?_) fun _ _ e => e)
    obtain ⟨v, rfl, hq⟩ := z
    exact wpAny_pure hq
  · refine wpAny_bind (wpAny_pure ?_)
    simp only [Bool.false_eq_true, if_false]
    refine wpAny_bind (wpAny_mono one (fun r s' z => ?_) fun _ _ e => e)
    obtain ⟨v, rfl, hq⟩ := z
    exact wpAny_pure hq
end
end K5
namespace K5
open PySem PySem.Spec PyProof.Rows L2
/-! ### parts are equal -/
section
variable {x y : V} {ct pt sd dt stp ak : Addr}
theorem pt_worths : (partF x y ct pt sd dt stp ak).lookup ("worths" : Str) = some x := lk_hd
theorem pt_text : (partF x y ct pt sd dt stp ak).lookup ("text" : Str) = some y := (lk_tl (by decide +kernel)).trans lk_hd
theorem pt_cells : (partF x y ct pt sd dt stp ak).lookup ("cells" : Str) = some (.ref ct) := (lk_tl (by decide +kernel)).trans ((lk_tl (by decide +kernel)).trans lk_hd)
theorem pt_ports : (partF x y ct pt sd dt stp ak).lookup ("ports" : Str) = some (.ref pt) := (lk_tl (by decide +kernel)).trans ((lk_tl (by decide +kernel)).trans ((lk_tl (by decide +kernel)).trans lk_hd))
theorem pt_doors : (partF x y ct pt sd dt stp ak).lookup ("doors" : Str) = some (.ref dt) := (lk_tl (by decide +kernel)).trans ((lk_tl (by decide +kernel)).trans ((lk_tl (by decide +kernel)).trans ((lk_tl (by decide +kernel)).trans ((lk_tl (by decide +kernel)).trans lk_hd))))
end
abbrev s_Part___eq__ : Stmt := inClass (topS 22) 1
theorem sc_Part___eq__ : FnScope ["self", "other"] ["self", "other"] (defScope s_Part___eq__) := ⟨rfl, rfl, rfl, by decide +kernel, rfl, by decide +kernel, by decide +kernel⟩
def othT : List String := ["str", "NoneType", "tuple", "int", "list"]
structure EqF (K : PySem.W.Frag) (mg : Str → Option Value) (Pt fE : Addr) (dE : FuncData) : Prop where
  F : Fun K "__eq__" "Part.__eq__" s_Part___eq__ fE dE
  b : Binds K dE ["self", "other"] []
  gP : mg "Part" = some (.ref Pt)
  CC : ClT K Pt
  si : SlX.SIsi K Pt
  eqf : PySem.W.findIn K (.ref Pt) "__eq__" = some (some (.ref fE))
  fn : PySem.W.isFn K (.ref fE) = true
  ne : PySem.W.findIn K (.ref Pt) "__ne__" = some (some (.builtin "object.__ne__"))
  kit : ∀ T ∈ othT, PySem.W.kitOne K (.type T) (.ref Pt) = some false ∧ PySem.W.notFirst K Pt (.type T) = true
def PartAt (Pt : Addr) (H : Hp) (a : Addr) (w : Int) (z : Str) : Prop := ∃ da ct pt sd dt stp ak, H a = some (.ins Pt da (partF (.int w) (.str z) ct pt sd dt stp ak))
def OthAt (K : PySem.W.Frag) (Pt : Addr) (H : Hp) (y : V) (o : Option (Int × Str)) : Prop := (o = none ∧ ∃ T ∈ othT, TyX K H y (.type T)) ∨ ∃ b w z, y = .ref b ∧ PartAt Pt H b w z ∧ o = some (w, z)
def eqO (w : Int) (z : Str) : Option (Int × Str) → Bool
  | none => false
  | some q => decide (V.int w = V.int q.1) && decide (V.str z = V.str q.2)
def spPEq (K : PySem.W.Frag) (Pt : Addr) : Sp := fun vs H Q _ => ∃ (a : Addr) (y : V) (w : Int) (z : Str) (o : Option (Int × Str)), vs = [.ref a, y] ∧ PartAt Pt H a w z ∧ OthAt K Pt H y o ∧ Q (.bl (eqO w z o)) H
theorem kit_self {K : PySem.W.Frag} {C : Addr} : PySem.W.kitOne K (.ref C) (.ref C) = some true := by
  unfold PySem.W.kitOne
  rw [if_pos (beq_self_eq_true _)]
theorem nf_self {K : PySem.W.Frag} {C : Addr} : PySem.W.notFirst K C (.ref C) = true := by
  unfold PySem.W.notFirst
  rw [Bool.or_eq_true]
  exact .inl (beq_self_eq_true _)
section
variable {P : Program} {w : World} {K : PySem.W.Frag} {mg : Str → Option Value} {base : Heap} {Pt fE : Addr} {dE : FuncData}
theorem EqF.ty (N : EqF K mg Pt fE dE) {H : Hp} {b : Addr} {w' : Int} {z : Str} (h : PartAt Pt H b w' z) : TyX K H (.ref b) (.ref Pt) := by
  obtain ⟨da, ct, pt, sd, dt, stp, ak, h⟩ := h
  exact .base (.ins h N.CC.cl N.si.ca N.si.cn N.si.ct N.si.cm)
theorem ok_part_eq (B : Bt mg) (N : EqF K mg Pt fE dE) : FnOk P w K mg base CX0 1 fE dE ["self", "other"] (spPEq K Pt) := by
  refine N.F.ok sc_Part___eq__ (fun vs H Q E h => ?_) (fun cdv A outer s H vs Q E hr h => ?_)
  · obtain ⟨a, y, w, z, o, rfl, _⟩ := h
    rfl
  · obtain ⟨a, y, w1, z1, o, rfl, ha, hy, k⟩ := h
    have S := sc_Part___eq__
    refine ⟨_, (pss_one (ps_ret (pe_and (pe_callB call_isi (by rfl) B.m_isinstance PyProof.Rows.boot_isinstance (pa_cons (pv 1) (pa_cons (pe_glob (v := .ref Pt) (by rfl) N.gP rfl) pa_nil))) (pe_and (pe_cmpR op_eq (pe_fld (pv 0) rfl) (pe_fld (pv 1) rfl) (nomark _)) (pe_one (pe_cmpR op_eq (pe_fld (pv 0) rfl) (pe_fld (pv 1) rfl) (nomark _))))))), ?_⟩
    have nw : NoAttr K Pt "worths" := N.CC.na _ (by decide +kernel)
    have nt : NoAttr K Pt "text" := N.CC.na _ (by decide +kernel)
    try dsimp only [tRet, tAndV, tCB, tCons, tNil]
    refine (val_var rfl) _ ?_
    rcases hy with ⟨rfl, T, hT, ty⟩ | ⟨b, w2, z2, rfl, hb, rfl⟩
    · exact val_c _ ⟨_, .ref Pt, .type T, .ref Pt, false, rfl, .own Pt, ty, (N.kit T hT).1, _, rfl, iteF k⟩
    · refine val_c _ ⟨_, .ref Pt, .ref Pt, .ref Pt, true, rfl, .own Pt, N.ty hb, kit_self, _, rfl, iteT ?_⟩
      obtain ⟨da, ct, pt, sd, dt, stp, ak, ha⟩ := ha
      obtain ⟨db, ct', pt', sd', dt', stp', ak', hb⟩ := hb
      refine (val_fld (val_var rfl) ha N.CC.cl nw pt_worths) _ ((val_fld (val_var rfl) hb N.CC.cl nw pt_worths) _ ⟨rfl, _, rfl, ?_⟩)
      have k : Q (.bl (decide (V.int w1 = V.int w2) && decide (V.str z1 = V.str z2))) H := k
      cases c : decide (V.int w1 = V.int w2) with
      | false =>
        rw [c] at k
        exact iteF k
      | true =>
        rw [c] at k
        exact iteT ((val_fld (val_var rfl) ha N.CC.cl nt pt_text) _ ((val_fld (val_var rfl) hb N.CC.cl nt pt_text) _ ⟨rfl, k⟩))
abbrev s__law_same : Stmt := topS 39
theorem sc__law_same : FnScope ["_law_one", "_law_other"] ["_law_one", "_law_other"] (defScope s__law_same) := ⟨rfl, rfl, rfl, by decide +kernel, rfl, by decide +kernel, by decide +kernel⟩
theorem ok_same {f : Addr} {fd : FuncData} (B : Bt mg) (N : EqF K mg Pt fE dE) (D : Df K mg "_law_same" s__law_same f fd ["_law_one", "_law_other"]) : FnOk P w K mg base CX0 5 f fd ["_law_one", "_law_other"] (spPEq K Pt) := by
  have GE : FnOk P w K mg base CX0 1 fE dE ["self", "other"] (spPEq K Pt) := ok_part_eq B N
  refine D.F.ok sc__law_same (fun vs H Q E h => ?_) (fun cdv A outer s H vs Q E hr h => ?_)
  · obtain ⟨a, y, w, z, o, rfl, _⟩ := h
    rfl
  · obtain ⟨a, y, w1, z1, o, rfl, ha, hy, k⟩ := h
    have S := sc__law_same
    refine ⟨_, (pss_one (ps_ret (pe_and (pe_cmpR (op_peq GE N.b N.eqf N.fn (hr.mono (by decide)) pass0) (pv 0) (pv 1) (nomark _)) (pe_one (pe_not (pe_cmpR (op_pne GE N.b N.eqf N.fn N.ne N.si.cm (hr.mono (by decide)) pass0) (pv 0) (pv 1) (nomark _))))))), ?_⟩
    try dsimp only [tRet, tAndV, tNotV, tOp]
    obtain ⟨da, ct, pt, sd, dt, stp, ak, ha'⟩ := id ha
    have tyN : ∃ t, TyX K H y t ∧ PySem.W.notFirst K Pt t = true := by
      rcases hy with ⟨_, T, hT, ty⟩ | ⟨b, w2, z2, rfl, hb, _⟩
      · exact ⟨_, ty, (N.kit T hT).2⟩
      · exact ⟨_, N.ty hb, nf_self⟩
    obtain ⟨t, ty, nf⟩ := tyN
    refine (val_var rfl) _ ((val_var rfl) _ ⟨a, da, _, t, rfl, ha', ty, nf, a, y, w1, z1, o, rfl, ha, hy, _, rfl, _, rfl, ?_⟩)
    cases c : eqO w1 z1 o with
    | false =>
      rw [c] at k
      exact iteF k
    | true =>
      refine iteT ((val_var rfl) _ ((val_var rfl) _ ⟨a, da, _, t, rfl, ha', ty, nf, a, y, w1, z1, o, rfl, ha, hy, _, rfl, _, rfl, ?_⟩))
      rw [c] at k ⊢
      exact k
end
end K5
namespace K5
open PySem PySem.Spec PyProof.Rows L2
/-! ### the text's size and signs -/
theorem rowT_len2 {r : Row} (h : RowOk r) : (rowT r).length ≤ 50 := by
  unfold rowT
  rw [app_len']
  have h1 := (margin_ok h.1).2
  have h2 := jn_len (l := r.ws) fun z hz => (h.2.2.2 z hz).2.1
  have h3 := h.2.2.1
  omega
theorem rowsDo_len2 : ∀ l : List (Str × Bl), (rowsDo l).length ≤ l.length + 2 * (l.map (fun q => q.2.sz)).sum
  | [] => Nat.zero_le _
  | q :: l => by
    have h2 := rowsDo_len2 l
    have h3 := rowsB_len (B := q.2) (d := 1)
    show (rowsB 1 q.2 ++ rowsDo l).length + 1 ≤ (l.length + 1) + 2 * ((q :: l).map (fun q => q.2.sz)).sum
    rw [List.length_append, List.map_cons, List.sum_cons]
    omega
theorem PaOk.len {D : Dr} (h : PaOk D) : (rowsD D).length ≤ 60 := by
  unfold rowsD rowsP
  have := rowsDo_len2 D.ds
  have := h.tot
  have := h.c3
  have := h.p2
  have := h.d3
  rw [List.length_append, List.length_append, List.length_map, List.length_map]
  omega
theorem nl : ("\n" : Str) = ⟨#[10]⟩ := by decide +kernel
theorem joinN_len : ∀ {l : List Str}, (∀ z ∈ l, z.length ≤ 50) → (Str.join "\n" l).length ≤ 51 * l.length
  | [], _ => Nat.zero_le _
  | [x], h => by
    have := h x (List.mem_cons_self ..)
    show x.length ≤ 51
    omega
  | x :: z :: r, h => by
    rw [join2, app_len', app_len']
    have h1 := h x (List.mem_cons_self ..)
    have h2 := joinN_len (l := z :: r) fun y hy => h y (List.mem_cons_of_mem _ hy)
    have h3 : ("\n" : Str).length = 1 := by decide +kernel
    simp only [List.length_cons] at h2 ⊢
    omega
theorem mem_joinC {c k : Nat} : ∀ {ps : List Str}, c ∈ (Str.join ⟨#[k]⟩ ps).cps.toList → c = k ∨ ∃ p ∈ ps, c ∈ p.cps.toList
  | [], h => by
    have h : c ∈ ([] : List Nat) := h
    exact nomatch h
  | [x], h => .inr ⟨x, List.mem_cons_self .., h⟩
  | x :: y :: r, h => by
    rw [join_list] at h
    rcases List.mem_append.mp h with h | h
    · exact .inr ⟨x, List.mem_cons_self .., h⟩
    · rcases List.mem_cons.mp h with h | h
      · exact .inl h
      · rcases mem_joinC (ps := y :: r) h with h | ⟨p, hp, h⟩
        · exact .inl h
        · exact .inr ⟨p, List.mem_cons_of_mem _ hp, h⟩
theorem strOk_iff {z : Str} : PyData.strOk z = true ↔ ∀ c ∈ z.cps.toList, PyData.strOk ⟨#[c]⟩ = true := by
  unfold PyData.strOk
  rw [Array.all_eq_true']
  constructor
  · intro h c hc
    have := h c (Array.mem_toList_iff.mp hc)
    simpa using this
  · intro h c hc
    have := h c (Array.mem_toList_iff.mpr hc)
    simpa using this
theorem row_ok {r : Row} (h : RowOk r) : PyData.strOk (rowT r) = true := by
  rw [strOk_iff, row_list h]
  intro c hc
  rcases List.mem_append.mp hc with hc | hc
  · rw [(List.mem_replicate.mp hc).2]
    decide +kernel
  · rw [space] at hc
    rcases mem_joinC hc with rfl | ⟨p, hp, hc⟩
    · decide +kernel
    · exact strOk_iff.mp (h.2.2.2 p hp).1 c hc
theorem text_ok {D : Dr} (h : PaOk D) : (textD D).length ≤ 3100 ∧ PyData.strOk (textD D) = true := by
  constructor
  · have h1 := joinN_len (l := (rowsD D).map rowT) fun z hz => by
      obtain ⟨r, hr, rfl⟩ := List.mem_map.mp hz
      exact rowT_len2 (h.rows r hr)
    have h2 := h.len
    rw [List.length_map] at h1
    unfold textD
    omega
  · unfold textD
    rw [strOk_iff, nl]
    intro c hc
    rcases mem_joinC hc with rfl | ⟨p, hp, hc⟩
    · decide +kernel
    · obtain ⟨r, hr, rfl⟩ := List.mem_map.mp hp
      exact strOk_iff.mp (row_ok (h.rows r hr)) c hc
/-! ### a part is made -/
def PartFull (Pt : Addr) (H : Hp) (a : Addr) (w : Int) (D : Dr) : Prop := ∃ (da ct pt sd dt stp ak : Addr) (ts : List Addr), H a = some (.ins Pt da (partF (.int w) (.str (textD D)) ct pt sd dt stp ak)) ∧ H ct = some (.tup (ts.map V.ref)) ∧ Pairs H ts (D.cs.map cI) ∧ H pt = some (.tup (D.ps.map V.str)) ∧ H dt = some (.tup ((D.ds.map (·.1)).map V.str))
theorem PartFull.at_ {Pt a : Addr} {H : Hp} {w : Int} {D : Dr} (h : PartFull Pt H a w D) : PartAt Pt H a w (textD D) := by
  obtain ⟨da, ct, pt, sd, dt, stp, ak, ts, h, _⟩ := h
  exact ⟨da, ct, pt, sd, dt, stp, ak, h⟩
def KeepTB (P : Addr) (H H' : Hp) : Prop := ∀ b o, b ≠ P → H b = some o → H' b = some o
theorem tab_ne {H : Hp} {P p : Addr} {o : HO} (t : GxR.TabG H P) (h : H p = some o) (n : ∀ ps, o ≠ .tbl ps) : p ≠ P := fun e => by
  obtain ⟨ps, h1, _⟩ := t
  rw [e, h1] at h
  injection h with h
  exact n _ h.symm
theorem TabG.keep {H H' : Hp} {P : Addr} (t : GxR.TabG H P) (s : Same H H') : GxR.TabG H' P := by
  obtain ⟨ps, h1, h2⟩ := t
  exact ⟨ps, s _ _ h1, h2⟩
theorem PartFull.keep {Pt a TB : Addr} {H H' : Hp} {w : Int} {D : Dr} (h : PartFull Pt H a w D) (t : GxR.TabG H TB) (k : KeepTB TB H H') : PartFull Pt H' a w D := by
  obtain ⟨da, ct, pt, sd, dt, stp, ak, ts, h1, h2, h3, h4, h5⟩ := h
  have kt : ∀ {b : Addr} {o : HO}, H b = some o → (∀ ps, o ≠ .tbl ps) → H' b = some o := fun e n => k _ _ (tab_ne t e n) e
  exact ⟨da, ct, pt, sd, dt, stp, ak, ts, kt h1 (fun _ e => nomatch e), kt h2 (fun _ e => nomatch e), pairs_to h3 (fun b zs e => kt e (fun _ q => nomatch q)), kt h4 (fun _ e => nomatch e), kt h5 (fun _ e => nomatch e)⟩
theorem PartAt.keep {Pt a TB : Addr} {H H' : Hp} {w : Int} {z : Str} (h : PartAt Pt H a w z) (t : GxR.TabG H TB) (k : KeepTB TB H H') : PartAt Pt H' a w z := by
  obtain ⟨da, ct, pt, sd, dt, stp, ak, h1⟩ := h
  exact ⟨da, ct, pt, sd, dt, stp, ak, k _ _ (tab_ne t h1 (fun _ e => nomatch e)) h1⟩
section
variable {σ : L2.St} {H : Hp} {Q : VK} {E : XK} {tw tt : TE} {TB Pt CT CW : Addr}
theorem mk_part {w : Int} {D : Dr} (ok : PaOk D) (hw : (D.m : Int) ≤ w) (w2 : 2 ≤ w) (w4 : w ≤ 4) (tab : GxR.TabG H TB) (vw : Val tw σ H (.int w)) (vt : ∀ R : VK, (∀ H', Same H H' → R (.str (textD D)) H') → tt σ H R)
    (k : ∀ (H' : Hp) (a : Addr), KeepTB TB H H' → GxR.TabG H' TB → PartFull Pt H' a w D → Q (.ref a) H') : tMake Pt (spPart TB Pt CT CW) [] E (tCons tw (tCons tt tNil)) σ H Q := by
  try dsimp only [tMake, tCons, tNil]
  refine vw _ (vt _ fun H1 s1 => ?_)
  refine fun a da na nda neq => ?_
  have n0 : (upd H1 da (.own a)) a = none := by
    rw [upd_ne neq.symm]
    exact na
  have sP : Same H1 (upd (upd H1 da (.own a)) a (.ins Pt da [])) := (same_upd nda).trans (same_upd n0)
  have hP : (upd (upd H1 da (.own a)) a (.ins Pt da [])) a = some (.ins Pt da []) := upd_same
  have tbP := TabG.keep (TabG.keep tab s1) sP
  have aT : a ≠ TB := tab_ne tbP hP fun ps e => nomatch e
  have bAx : ∀ x o, H1 x = some o → x ≠ a := fun x o e => ne_of_none e na
  have six : ∀ x o, H1 x = some o → (upd (upd H1 da (.own a)) a (.ins Pt da [])) x = some o := fun x o e => sP _ _ e
  generalize (upd (upd H1 da (.own a)) a (.ins Pt da [])) = HP at sP hP tbP six
  have wok : worthsOk (.int w) = true := by
    have : w = 2 ∨ w = 3 ∨ w = 4 := by omega
    rcases this with rfl | rfl | rfl <;> decide
  refine ⟨a, da, .int w, .str (textD D), _, _, rfl, hP, .int w, .str _, tbP, aT, (fun e => absurd (wok.symm.trans e) (by decide)), fun wn ex ew => ⟨fun e => (nomatch (show true = false from e)), fun z ez => ?_⟩⟩
  cases ex
  cases ez
  obtain ⟨t1, t2⟩ := text_ok ok
  refine ⟨by omega, t2, ?_⟩
  rw [part_read ok hw w4]
  intro H7 ct pt sd dt stp ak ts kp tb7 hi hct pr hpt hdt
  refine ⟨rfl, k H7 a (fun x o nT e => kp x o nT (bAx _ _ (s1 _ _ e)) (six _ _ (s1 _ _ e))) tb7 ⟨da, ct, pt, sd, dt, stp, ak, ts, hi, hct, pr, hpt, hdt⟩⟩
end
end K5
namespace K5
open PySem PySem.Spec PyProof.Rows L2
/-! ### promises of defs that show things: they are called while nothing is being shown -/
structure FnG (P : Program) (w : World) (K : PySem.W.Frag) (mg : Str → Option Value) (base : Heap) (cx : CXT) (lv : Nat) (g : Addr) (rec : FuncData) (ns : List Str) (pr : Sp) : Prop where
  many : ∀ xs G R T, pr xs G R T → xs.length = ns.length
  does : ∀ (B : Around) (out : List Env) (st : Shared) (G : Hp) (as : Args) (zs : List Value) (xs : List V) (R : VK) (T : XK), B.guards = some [] → Room lv B →
    Env0 P w K mg base B out st G → BindsTo st rec as (ns.zip zs) → Vals xs zs → pr xs G R T → codeAny (model P w) B (.call (.ref g) as) (CR cx out P w G st R T) st
section
variable {P : Program} {w : World} {K : PySem.W.Frag} {mg : Str → Option Value} {base : Heap}
theorem okG {x qual : Str} {d : Stmt} {g : Addr} {rec : FuncData} {N ns : List Str} {lv : Nat} {pr : Sp} {cx : CXT} (F : Fun K x qual d g rec) (S : FnScope N ns (defScope d)) (many : ∀ xs G R T, pr xs G R T → xs.length = ns.length)
    (runs : ∀ (cd : Value) (B : Around) (out : List Env) (st : Shared) (G : Hp) (xs : List V) (R : VK) (T : XK), B.guards = some [] → Room lv (B.deeper (envOfC qual (defScope d) st.heap.objs.size g cd)) → pr xs G R T →
      ∃ t, PSs (cxOf cx P w K mg base N qual (defScope d) g cd B out st G T) (defBody d) t ∧ t { nx := fun _ G' => R .non G', rt := R } (start N xs) G) : FnG P w K mg base cx (lv + 1) g rec ns pr := by
  obtain ⟨oc, od, kV, doc, pm, an, cd, ct, sl, rfl, lk, hcd⟩ := F.ex
  constructor
  · exact many
  intro B out st G as zs xs R T gu room e bind rel p
  have size := many _ _ _ _ p
  have still : ∀ b o, base.get? b = some o → st.heap.get? b = some o := fun b o z => (e.bs b o z).1
  have inK : K.In st.heap := e.mod.kin.keeps still
  have nol : st.heap.NoLimit := e.mod.nolimit.keeps still
  have kinds : ∀ y ∈ ns.zip zs, (defScope d).names.lookup y.1 = some .local ∨ ((defScope d).names.lookup y.1 = some .cell ∧ ((cellsFrom (st.heap.objs.size + 1) (defScope d).names []).lookup y.1).isSome = true) := by
    rintro ⟨n, v⟩ hy
    have q := S.par n (List.of_mem_zip hy).1
    exact q.imp id fun c => ⟨c, PySem.W.cellsFrom_some _ _ _ (.inl c)⟩
  apply codeAny_call_function room.depth (inK _ _ lk) rfl S.co S.gen rfl (PySem.W.codeRec_of inK hcd)
  refine bind _ _ _ _ (wpAny_newFunctionEnv_cells S.kind kinds ?_)
  intro env he s1 ic
  subst he
  obtain ⟨t, ht, hq⟩ := runs cd B out st G xs R T gu (room.deeper _) p
  have I0 := inv_start (CX := cx) (P := P) (w := w) (K := K) (mg := mg) (base := base) (qual := qual) (cd := cd) (f := g) (E := T) S room.hd e size rel ic
  refine ⟨nol.keeps ic.toInCall.keep, codeAny_func (wpAny_mono (ht.run [] s1 (start N xs) G _ I0 hq) ?_ fun _ _ z => z)⟩
  intro fl s2 hs
  have ends : ∀ {σ2 : L2.St} {G2 : Hp} {v : V} {u : Value}, Inv (cxOf cx P w K mg base N qual (defScope d) g cd B out st G T) [] σ2 G2 s2 → RelV v u → R v G2 → CE out P w G st R u s2 := by
    intro σ2 G2 v u J r q
    exact ⟨v, G2, J.os, J.bare, J.base, J.hok, r, q⟩
  match fl, hs with
  | .ret u, ⟨v, σ2, G2, J, r, q⟩ => exact ends J r q
  | .next, ⟨σ2, G2, J, q⟩ => exact ends (v := V.non) (u := Value.none) J rfl q
  | .brk, ⟨_, _, _, q⟩ => exact q.elim
  | .cont, ⟨_, _, _, q⟩ => exact q.elim
end
section
variable {X : Cx} {cx : CXT} {k : Nat} {f : Addr} {fd : FuncData} {ps : List Str} {sp : Sp} {x : Str} {E : XK} {p pos : Pos} {e : Expr} {es : List Expr} {t : TA}
theorem pe_callG (F : FnG X.prog X.w X.K X.mg X.base cx k f fd ps sp) (gu : X.A.guards = some []) (room : Room k X.A) (gl : Gl X x) (hm : X.mg x = some (.ref f)) (kp : PySem.W.keepIn X.K (.ref f) = true) (hb : Binds X.K fd ps []) (out : Passes cx X E)
    (ha : PA X (e :: es) t) (hdb : (x == ("__debug__" : Str)) = false := by decide) (he : starEach (e :: es) X.env = (false, eval e X.env) :: starEach es X.env := by rfl) (hpl : (backTo pos (starEach es X.env)).any (·.1) = false := by rfl) :
    PE X (.Call (.Name x p) (e :: es) [] pos) (tCall sp [] E t) := by
  constructor
  intro pins s σ H Q I h
  apply wpAny_Call_Name_kw
  apply ld_glob I gl hm _ hdb
  apply PySem.W.callWith_K (h₀ := X.base) I.ok.mod.kin kp _ he hpl
  refine thn (ha.run pos pins s σ H _ I h) ?_
  rintro us s1 ⟨vs, H1, I1, r, q⟩
  rw [List.append_nil] at q
  refine ⟨I1.kIn, wpAny_call (codeAny_mono (F.does X.A X.stack s1 H1 ⟨us, []⟩ us vs Q E gu room I1.env0 ?_ r q) ?_)⟩
  · have z := hb s1 us I1.kIn (by rw [List.append_nil, ← r.length]; exact F.many _ _ _ _ q)
    rw [List.append_nil] at z
    exact z
  · intro res s2 hq
    match res, hq with
    | .error v, hq => exact out pins σ H1 s1 v s2 I1 hq
    | .ok (.ret u), hq => exact I1.after hq
    | .ok .next, hq => exact hq.elim
    | .ok .brk, hq => exact hq.elim
    | .ok .cont, hq => exact hq.elim
end
end K5
namespace K5
open PySem PySem.Spec PyProof.Rows L2
/-! ### repr of what is laid out -/
/-- data that can be shown: such as == reads, or an empty dict -/
inductive Sd (K : PySem.W.Frag) (H : Hp) : V → PyData → Prop
  | dp {x : V} {d : PyData} (h : Dp K H x d) (n : d.hasDict = false) : Sd K H x d
  | dk {a : Addr} (h : H a = some (.dK [])) : Sd K H (.ref a) (.dict [])
/-- repr(t), t a tuple or a list of data, or a tuple of a text and such a thing -/
def rRepr (K : PySem.W.Frag) : List V → Hp → VK → Prop := fun xs H Q => ∃ (a : Addr) (d : PyData), xs = [.ref a] ∧ ((Dp K H (.ref a) d ∧ d.hasDict = false) ∨ ∃ (z : Str) (y : V) (e : PyData), SqT K H a [.str z, y] ∧ Sd K H y e ∧ d = .tuple [.str z, e]) ∧
  d.showable = true ∧ d.shown.length ≤ sizeLine ∧ d.depth ≤ 50 ∧ Q (.str d.shown) H
section
variable {X : Cx} {pins : List (Addr × Obj)} {σ : L2.St} {H : Hp} {s : Shared}
theorem hasDict2 {z : Str} {e : PyData} : (PyData.tuple [.str z, e]).hasDict = e.hasDict := by
  simp only [PyData.hasDict, PyData.hasDictAll, Bool.false_or, Bool.or_false]
theorem reads_dk {a : Addr} (I : Inv X pins σ H s) (h : H a = some (.dK [])) : Reads s.heap (.ref a) (.dict []) [a] ∧ a ≠ sysModules := by
  obtain ⟨_, nm, vs, rel, dd⟩ := dk_of I.hok h
  cases rel
  obtain ⟨o, es, ep, ho, hc, hd, _, ps, _⟩ := dd
  refine ⟨?_, fun z => by rw [z] at nm; cases nm⟩
  have e0 : es.toList = [] := by
    revert ps
    generalize es.toList = l
    intro ps
    cases ps
    rfl
  have r1 : ReadsAll s.heap (es.toList.map (·.key)) (([] : List (PyData × PyData)).map (·.1)) [] := by
    rw [e0]
    exact .nil
  have r2 : ReadsAll s.heap (es.toList.map (·.val)) (([] : List (PyData × PyData)).map (·.2)) [] := by
    rw [e0]
    exact .nil
  exact Reads.dict ho hc.1 hd r1 r2
theorem Sd.reads (I : Inv X pins σ H s) {x : V} {d : PyData} {u : Value} (h : Sd X.K H x d) (r : RelV x u) : ∃ as, Reads s.heap u d as ∧ (d.hasDict = true → sysModules ∉ as) := by
  cases h with
  | dp h n =>
    obtain ⟨as, q⟩ := Dp.reads I d x u h r
    exact ⟨as, q, fun z => by rw [n] at z; cases z⟩
  | dk h =>
    cases r
    obtain ⟨q, n⟩ := reads_dk I h
    exact ⟨_, q, fun _ z => n (List.mem_singleton.mp z).symm⟩
theorem call_reprD (gu : X.A.guards = some []) (hu : X.A.units + 64 < cLine) : CallR X (.builtin "repr") (rRepr X.K) := by
  intro pins s σ H xs us Q I r h
  obtain ⟨a, d, rfl, hd, hs, hz, dp, q⟩ := h
  obtain ⟨u, rfl, ru⟩ := r.one
  cases ru
  have go : ∀ as, Reads s.heap (.ref a) d as → (d.hasDict = true → sysModules ∉ as) → wpAny (model X.prog X.w) X.A (call (.builtin "repr") [.ref a]) (EP X pins σ Q) X.xe s := fun as rd hm =>
    repr_of_reads' rd hs hm gu (by omega) (fun _ _ e => e) (fun h' u tk hk => ⟨.str d.shown, H, I.kept hk, ⟨u, rfl⟩, q⟩) hz
  rcases hd with ⟨h, n⟩ | ⟨z, y, e, ht, hy, rfl⟩
  · obtain ⟨as, rd⟩ := Dp.reads I d _ _ h rfl
    exact go as rd fun c => by rw [n] at c; cases c
  · obtain ⟨its, rv, ⟨o, ho, hc, n, hd⟩, _⟩ := I.tuple ht
    obtain ⟨its, n2, rfl, rfl⟩ : ∃ (l : List Value) (n2 : Nat), its = l ∧ n = n2 := ⟨_, _, rfl, rfl⟩
    cases rv with
    | cons r1 r2 =>
      obtain ⟨t, rfl⟩ := r1
      cases r2 with
      | cons r2 r3 =>
        cases r3
        obtain ⟨as, rd, hm⟩ := Sd.reads I hy r2
        exact go _ (.tuple ho hc hd (.cons (.str z t) (.cons rd .nil))) fun c => by
          rw [hasDict2] at c
          simpa using hm c
end
end K5
namespace K5
open PySem PySem.Spec PyProof.Rows L2
/-! ### what a part tells, as data -/
def cellD (q : Str × Nat) : PyData := .tuple [.str q.1, .int (q.2 : Nat)]
def partD (w : Int) (D : Dr) : PyData := .tuple [.int w, .str (textD D), .tuple (D.cs.map cellD), .tuple (D.ps.map .str), .tuple ((D.ds.map (·.1)).map .str)]
/-- data that is small and can be shown -/
structure DaOk (ds : List PyData) (wt dp : Nat) : Prop where
  lay : PyData.canLayAll0 ds = true
  sh : PyData.showableAll ds = true
  nd : PyData.hasDictAll ds = false
  sm : PyData.intsShortAll 13 ds = true
  wt : PyData.weightAll ds ≤ wt
  dp : PyData.depthAll ds ≤ dp
theorem DaOk.nil : DaOk [] 0 0 := ⟨rfl, rfl, rfl, rfl, Nat.le_refl _, Nat.le_refl _⟩
theorem DaOk.str {z : Str} {ds : List PyData} {k a b : Nat} (hz : PyData.strOk z = true) (hl : z.length ≤ k) (h : DaOk ds a b) : DaOk (.str z :: ds) (k + 1 + a) b := by
  obtain ⟨h1, h2, h3, h4, h5, h6⟩ := h
  refine ⟨?_, ?_, ?_, ?_, ?_, ?_⟩
  · show (PyData.strOk z && PyData.canLayAll0 ds) = true
    rw [hz, h1]
    rfl
  · show (true && PyData.showableAll ds) = true
    rw [h2]
    rfl
  · show (false || PyData.hasDictAll ds) = false
    rw [h3]
    rfl
  · show (true && PyData.intsShortAll 13 ds) = true
    rw [h4]
    rfl
  · show z.length + 1 + PyData.weightAll ds ≤ _
    omega
  · show max 0 (PyData.depthAll ds) ≤ b
    omega
theorem int_small : ∀ i : Fin 5, (PyData.showable (.int ((i.val : Nat) : Int)) && (PyData.intsShort 13 (.int ((i.val : Nat) : Int)) && decide (PyData.weight (.int ((i.val : Nat) : Int)) ≤ 3))) = true := by decide +kernel
theorem DaOk.int {i : Int} {ds : List PyData} {a b : Nat} (h0 : 0 ≤ i) (h4 : i ≤ 4) (h : DaOk ds a b) : DaOk (.int i :: ds) (4 + a) b := by
  obtain ⟨h1, h2, h3, hh, h5, h6⟩ := h
  have q := int_small ⟨i.toNat, by omega⟩
  have e : (((⟨i.toNat, by omega⟩ : Fin 5).val : Nat) : Int) = i := by show ((i.toNat : Nat) : Int) = i; omega
  rw [e, Bool.and_eq_true, Bool.and_eq_true] at q
  refine ⟨?_, ?_, ?_, ?_, ?_, ?_⟩
  · show (true && PyData.canLayAll0 ds) = true
    rw [h1]
    rfl
  · show (PyData.showable (.int i) && PyData.showableAll ds) = true
    rw [h2, q.1]
    rfl
  · show (false || PyData.hasDictAll ds) = false
    rw [h3]
    rfl
  · show (PyData.intsShort 13 (.int i) && PyData.intsShortAll 13 ds) = true
    rw [hh, q.2.1]
    rfl
  · have := of_decide_eq_true q.2.2
    show PyData.weight (.int i) + 1 + PyData.weightAll ds ≤ _
    omega
  · show max 0 (PyData.depthAll ds) ≤ b
    omega
theorem DaOk.tup {xs ds : List PyData} {a b c d : Nat} (x : DaOk xs a b) (h : DaOk ds c d) : DaOk (.tuple xs :: ds) (a + 1 + c) (max (b + 1) d) := by
  obtain ⟨x1, x2, x3, x4, x5, x6⟩ := x
  obtain ⟨h1, h2, h3, hh, h5, h6⟩ := h
  refine ⟨?_, ?_, ?_, ?_, ?_, ?_⟩
  · show (PyData.canLayAll0 xs && PyData.canLayAll0 ds) = true
    rw [x1, h1]
    rfl
  · show (PyData.showableAll xs && PyData.showableAll ds) = true
    rw [x2, h2]
    rfl
  · show (PyData.hasDictAll xs || PyData.hasDictAll ds) = false
    rw [x3, h3]
    rfl
  · show (PyData.intsShortAll 13 xs && PyData.intsShortAll 13 ds) = true
    rw [x4, hh]
    rfl
  · show PyData.weightAll xs + 1 + PyData.weightAll ds ≤ _
    omega
  · show max (PyData.depthAll xs + 1) (PyData.depthAll ds) ≤ _
    omega
theorem DaOk.mono {ds : List PyData} {a b c d : Nat} (h : DaOk ds a b) (h1 : a ≤ c) (h2 : b ≤ d) : DaOk ds c d := ⟨h.lay, h.sh, h.nd, h.sm, Nat.le_trans h.wt h1, Nat.le_trans h.dp h2⟩
theorem da_strs : ∀ {l : List Str}, (∀ z ∈ l, NmOk z) → DaOk (l.map .str) (11 * l.length) 0
  | [], _ => DaOk.nil
  | z :: l, h => by
    have hz := h z (List.mem_cons_self ..)
    exact (DaOk.str hz.1 hz.2.1 (da_strs fun y hy => h y (List.mem_cons_of_mem _ hy))).mono (by simp only [List.length_cons]; omega) (Nat.le_refl _)
theorem da_cells : ∀ {l : List (Str × Nat)}, (∀ q ∈ l, NmOk q.1 ∧ q.2 ≤ 4) → DaOk (l.map cellD) (20 * l.length) 1
  | [], _ => DaOk.nil.mono (Nat.le_refl _) (Nat.zero_le _)
  | q :: l, h => by
    obtain ⟨h1, h2⟩ := h q (List.mem_cons_self ..)
    exact (DaOk.tup (DaOk.str h1.1 h1.2.1 (DaOk.int (i := ((q.2 : Nat) : Int)) (by omega) (by omega) DaOk.nil)) (da_cells fun y hy => h y (List.mem_cons_of_mem _ hy))).mono (by simp only [List.length_cons]; omega) (by decide)
theorem da_part {D : Dr} {w : Int} (ok : PaOk D) (w0 : 0 ≤ w) (w4 : w ≤ 4) : DaOk [partD w D] 5000 4 := by
  have c3 := ok.c3
  have p2 := ok.p2
  have d3 := ok.d3
  obtain ⟨t1, t2⟩ := text_ok ok
  have a := da_cells (l := D.cs) fun q hq => ⟨ok.nc _ (.inl (List.mem_map_of_mem hq)), by have := (ok.cn q hq).2; have := ok.m4; omega⟩
  have b := da_strs (l := D.ps) fun z hz => ok.nc _ (.inr hz)
  have c := da_strs (l := D.ds.map (·.1)) fun z hz => by
    obtain ⟨q, hq, rfl⟩ := List.mem_map.mp hz
    exact doorNm_ok _ (ok.dn q hq)
  rw [List.length_map] at c
  exact (DaOk.tup (DaOk.int w0 w4 (DaOk.str t2 t1 (DaOk.tup a (DaOk.tup b (DaOk.tup c DaOk.nil))))) DaOk.nil).mono (by omega) (by decide)
theorem partD_ok {D : Dr} {w : Int} (ok : PaOk D) (w0 : 0 ≤ w) (w4 : w ≤ 4) : (partD w D).showable = true ∧ (partD w D).shown.length ≤ sizeLine ∧ (partD w D).depth ≤ 50 ∧ (partD w D).hasDict = false := by
  obtain ⟨h1, h2, h3, h4, h5, h6⟩ := da_part ok w0 w4
  have h1 : ((partD w D).canLay0 && true) = true := h1
  have h2 : ((partD w D).showable && true) = true := h2
  have h3 : ((partD w D).hasDict || false) = false := h3
  have h4 : ((partD w D).intsShort 13 && true) = true := h4
  have h5 : (partD w D).weight + 1 + 0 ≤ 5000 := h5
  have h6 : max (partD w D).depth 0 ≤ 4 := h6
  rw [Bool.and_true] at h1 h2 h4
  rw [Bool.or_false] at h3
  refine ⟨h2, ?_, by omega, h3⟩
  refine Nat.le_trans (shown_le13 ?_ h4) (by decide)
  unfold PyData.layable0
  rw [h1, decide_eq_true (show (partD w D).depth ≤ 64 by omega), decide_eq_true (show (partD w D).weight ≤ 2 ^ 20 from Nat.le_trans (by omega : _ ≤ 5000) (by decide))]
  rfl
end K5
namespace K5
open PySem PySem.Spec PyProof.Rows L2
/-! ### the other parts -/
def failB : Bl := .pl [.w "fail"] .nil
theorem rowsB_app {S : Bl} : ∀ {B : Bl} {d : Nat}, rowsB d (B.app S) = rowsB d B ++ rowsB d S
  | .nil, d => rfl
  | .pl l r, d => by
    show _ :: rowsB d (r.app S) = _ :: (rowsB d r ++ rowsB d S)
    rw [rowsB_app]
  | .wh c b r, d => by
    show _ :: (rowsB (d + 1) b ++ rowsB d (r.app S)) = _ :: (rowsB (d + 1) b ++ rowsB d r) ++ rowsB d S
    rw [rowsB_app, List.cons_append, List.append_assoc]
  | .iff c b e r, d => by
    show _ :: (rowsB (d + 1) b ++ (elseR' d (rowsB (d + 1) e) e ++ rowsB d (r.app S))) = _ :: (rowsB (d + 1) b ++ (elseR' d (rowsB (d + 1) e) e ++ rowsB d r)) ++ rowsB d S
    rw [rowsB_app, List.cons_append, List.append_assoc, List.append_assoc]
def addFail : List (Str × Bl) → List (Str × Bl)
  | [] => []
  | [q] => [(q.1, q.2.app failB)]
  | q :: p :: r => q :: addFail (p :: r)
theorem addFail_rows : ∀ {l : List (Str × Bl)}, l ≠ [] → rowsDo (addFail l) = rowsDo l ++ [⟨1, ["fail"]⟩]
  | [], h => absurd rfl h
  | [q], _ => by
    show ⟨0, ["door", q.1]⟩ :: (rowsB 1 (q.2.app failB) ++ []) = ⟨0, ["door", q.1]⟩ :: (rowsB 1 q.2 ++ []) ++ [⟨1, ["fail"]⟩]
    rw [rowsB_app, List.append_nil, List.append_nil, List.cons_append]
    rfl
  | q :: p :: r, _ => by
    show ⟨0, ["door", q.1]⟩ :: (rowsB 1 q.2 ++ rowsDo (addFail (p :: r))) = ⟨0, ["door", q.1]⟩ :: (rowsB 1 q.2 ++ rowsDo (p :: r)) ++ [⟨1, ["fail"]⟩]
    rw [addFail_rows (l := p :: r) (fun e => nomatch e), List.cons_append, List.append_assoc]
theorem addFail_names : ∀ l : List (Str × Bl), (addFail l).map (·.1) = l.map (·.1)
  | [] => rfl
  | [q] => rfl
  | q :: p :: r => by
    show q.1 :: (addFail (p :: r)).map (·.1) = _
    rw [addFail_names (p :: r)]
    rfl
theorem addFail_mem : ∀ {l : List (Str × Bl)} {q : Str × Bl}, q ∈ addFail l → ∃ p ∈ l, q.1 = p.1 ∧ (q.2 = p.2 ∨ q.2 = p.2.app failB)
  | [p], q, h => ⟨p, List.mem_cons_self .., by
    rw [List.mem_singleton.mp h]
    exact ⟨rfl, .inr rfl⟩⟩
  | p :: p2 :: r, q, h => by
    rcases List.mem_cons.mp h with rfl | h
    · exact ⟨q, List.mem_cons_self .., rfl, .inl rfl⟩
    · obtain ⟨p', hp, h2⟩ := addFail_mem (l := p2 :: r) h
      exact ⟨p', List.mem_cons_of_mem _ hp, h2⟩
theorem addFail_tot : ∀ l : List (Str × Bl), ((addFail l).map (fun q => q.2.sz)).sum ≤ (l.map (fun q => q.2.sz)).sum + 1
  | [] => Nat.zero_le _
  | [q] => by
    show (q.2.app failB).sz + 0 ≤ q.2.sz + 0 + 1
    rw [Bl.sz_app]
    exact Nat.le_refl _
  | q :: p :: r => by
    have := addFail_tot (p :: r)
    show q.2.sz + ((addFail (p :: r)).map (fun q => q.2.sz)).sum ≤ q.2.sz + ((p :: r).map (fun q => q.2.sz)).sum + 1
    omega
theorem join_snoc {c x : Str} : ∀ {l : List Str}, l ≠ [] → Str.join c (l ++ [x]) = Str.join c l ++ (c ++ x)
  | [], h => absurd rfl h
  | [y], _ => by
    show Str.join c [y, x] = y ++ (c ++ x)
    rw [join2]
    rfl
  | y :: z :: r, _ => by
    show Str.join c (y :: z :: (r ++ [x])) = Str.join c (y :: z :: r) ++ (c ++ x)
    rw [join2, join2]
    have ih := join_snoc (c := c) (x := x) (l := z :: r) (fun e => nomatch e)
    rw [show Str.join c (z :: (r ++ [x])) = Str.join c (z :: r) ++ (c ++ x) from ih, app_assoc3, app_assoc3]
section
variable {D : Dr}
def failD (D : Dr) : Dr := ⟨D.m, D.cs, D.ps, addFail D.ds⟩
theorem DrOk.ne (h : DrOk D) : D.ds ≠ [] := fun e => by
  have := h.d1
  rw [e] at this
  exact absurd this (by decide)
theorem DrOk.rne (h : DrOk D) : (rowsD D).map rowT ≠ [] := fun e => by
  have e := List.map_eq_nil_iff.mp e
  have e := (List.append_eq_nil_iff.mp e).2
  have ne := h.ne
  cases q : D.ds with
  | nil => exact ne q
  | cons a l => rw [q] at e; exact nomatch e
theorem fail_text (h : DrOk D) : textD (failD D) = textD D ++ "\n  fail" := by
  unfold textD
  have e : rowsD (failD D) = rowsD D ++ [⟨1, ["fail"]⟩] := by
    show rowsP D ++ rowsDo (addFail D.ds) = (rowsP D ++ rowsDo D.ds) ++ _
    rw [addFail_rows h.ne, List.append_assoc]
  rw [e, List.map_append, List.map_cons, List.map_nil, join_snoc h.rne]
  rw [show rowT ⟨1, ["fail"]⟩ = "  fail" by decide +kernel, show ("\n" : Str) ++ "  fail" = "\n  fail" by decide +kernel]
theorem fail_pa (h : DrOk D) : PaOk (failD D) where
  m4 := h.m4
  c3 := h.c3
  cn := h.cn
  cd := h.cd
  p2 := h.p2
  pn := h.pn
  pd := h.pd
  d1 := by
    have := congrArg List.length (addFail_names D.ds)
    rw [List.length_map, List.length_map] at this
    show 1 ≤ (addFail D.ds).length
    have := h.d1
    omega
  d3 := by
    have := congrArg List.length (addFail_names D.ds)
    rw [List.length_map, List.length_map] at this
    show (addFail D.ds).length ≤ 3
    have := h.d3
    omega
  dn := fun q hq => by
    obtain ⟨p, hp, e, _⟩ := addFail_mem hq
    rw [e]
    exact h.dn p hp
  dd := by
    show ((addFail D.ds).map (·.1)).Nodup
    rw [addFail_names]
    exact h.dd
  db := fun q hq => by
    obtain ⟨p, hp, _, e⟩ := addFail_mem hq
    obtain ⟨h1, h2, h3, h4⟩ := h.db p hp
    rcases e with e | e
    · rw [e]
      exact ⟨h1, h2, by omega⟩
    · rw [e]
      refine ⟨okB_app (S := failB) (show okB D.m (D.cs.map (·.1)) D.ps 1 failB from ⟨.inr (.inr (.inr (.inr (.inl rfl)))), trivial⟩) h1, ?_, ?_⟩
      · rw [Bl.len_app]
        omega
      · rw [Bl.len_app]
        show p.2.len + 1 ≤ 8
        omega
  tot := by
    have := addFail_tot D.ds
    have := h.tot
    show ((addFail D.ds).map (fun q => q.2.sz)).sum ≤ 24
    omega
theorem fail_ne (h : DrOk D) : textD (failD D) ≠ textD D := fun e => by
  rw [fail_text h] at e
  have := congrArg Str.length e
  rw [app_len'] at this
  have l : ("\n  fail" : Str).length = 7 := by decide +kernel
  omega
/-- the first cell's worth is another -/
def nextC (m : Nat) : List (Str × Nat) → List (Str × Nat)
  | [] => []
  | q :: r => (q.1, (q.2 + 1) % m) :: r
def nextD (D : Dr) : Dr := ⟨D.m, nextC D.m D.cs, D.ps, D.ds⟩
theorem next_names (m : Nat) : ∀ l : List (Str × Nat), (nextC m l).map (·.1) = l.map (·.1)
  | [] => rfl
  | q :: r => rfl
theorem next_len (m : Nat) : ∀ l : List (Str × Nat), (nextC m l).length = l.length
  | [] => rfl
  | q :: r => rfl
theorem next_mem {m : Nat} (h : 0 < m) : ∀ {l : List (Str × Nat)} {q : Str × Nat}, q ∈ nextC m l → (∀ p ∈ l, p.1 ∈ someNm ∧ p.2 < m) → q.1 ∈ someNm ∧ q.2 < m
  | p :: r, q, hq, hl => by
    rcases List.mem_cons.mp hq with rfl | hq
    · exact ⟨(hl p (List.mem_cons_self ..)).1, Nat.mod_lt _ h⟩
    · exact hl q (List.mem_cons_of_mem _ hq)
theorem next_ok (h : DrOk D) : DrOk (nextD D) where
  m2 := h.m2
  m4 := h.m4
  c3 := by show (nextC D.m D.cs).length ≤ 3; rw [next_len]; exact h.c3
  cn := fun q hq => next_mem (Nat.lt_of_lt_of_le (by decide) h.m2) hq h.cn
  cd := by show ((nextC D.m D.cs).map (·.1)).Nodup; rw [next_names]; exact h.cd
  p2 := h.p2
  pn := h.pn
  pd := h.pd
  d1 := h.d1
  d3 := h.d3
  dn := h.dn
  dd := h.dd
  db := fun q hq => by
    show okB D.m ((nextC D.m D.cs).map (·.1)) D.ps 1 q.2 ∧ _
    rw [next_names]
    exact h.db q hq
theorem next_ne (h : DrOk D) (hc : D.cs ≠ []) : textD (nextD D) ≠ textD D := fun e => by
  have m4 := h.m4
  have m2 := h.m2
  have a := part_read (w := (D.m : Nat)) h.pa (Int.le_refl _) (show ((D.m : Nat) : Int) ≤ 4 by omega)
  have b := part_read (w := (D.m : Nat)) (next_ok h).pa (show (((nextD D).m : Nat) : Int) ≤ ((D.m : Nat) : Int) from Int.le_refl _) (show ((D.m : Nat) : Int) ≤ 4 by omega)
  rw [e, a] at b
  injection b with b
  have b1 : D.cs.map cI = (nextC D.m D.cs).map cI := congrArg (fun z => z.1) b
  have cn := h.cn
  cases q : D.cs with
  | nil => exact hc q
  | cons p r =>
    rw [q] at b1 cn
    have b2 : cI p :: r.map cI = cI (p.1, (p.2 + 1) % D.m) :: r.map cI := b1
    injection b2 with b3 _
    have b4 : ((p.2 : Nat) : Int) = (((p.2 + 1) % D.m : Nat) : Int) := congrArg (fun z : Str × Int => z.2) b3
    have b5 : p.2 = (p.2 + 1) % D.m := by omega
    have lt := (cn p (List.mem_cons_self ..)).2
    by_cases c : p.2 + 1 < D.m
    · rw [Nat.mod_eq_of_lt c] at b5
      omega
    · have c2 : p.2 + 1 = D.m := by omega
      rw [c2, Nat.mod_self] at b5
      omega
end
end K5
namespace K5
open PySem PySem.Spec PyProof.Rows L2
abbrev s__law_right : Stmt := topS 40
theorem sc__law_right : FnScope ["_law_box_here", "_law_worths", "_law_plain", "_law_page", "_law_part", "_law_twin", "_law_due", "_law_others", "_law_name", "_law_first", "_law_rest", "_law_more", "_law_block", "_law_other"] ["_law_box_here"] (defScope s__law_right) := ⟨rfl, rfl, rfl, by decide +kernel, rfl, by decide +kernel, by decide +kernel⟩
def KeepX (TB b : Addr) (H H' : Hp) : Prop := ∀ x o, x ≠ TB → x ≠ b → H x = some o → H' x = some o
def spRight (TB : Addr) : Sp := fun vs H Q _ => ∃ (b : Addr) (p q n : Int), vs = [.ref b] ∧ H b = some (.lst (bx p q n)) ∧ Box p q n ∧ n + 4000 < 1000000 ∧ GxR.TabG H TB ∧
  ∀ (H' : Hp) (p' n' : Int), KeepX TB b H H' → GxR.TabG H' TB → H' b = some (.lst (bx p' q n')) → Box p' q n' → n' ≤ n + 1600 → Q (.bl true) H'
/-! ### the others -/
inductive Oth (Pt : Addr) (H : Hp) : V → Option (Int × Str) → Prop
  | non : Oth Pt H .non none
  | int (i : Int) : Oth Pt H (.int i) none
  | str (z : Str) : Oth Pt H (.str z) none
  | tup {a : Addr} {xs : List V} (h : H a = some (.tup xs)) : Oth Pt H (.ref a) none
  | lst {a : Addr} {xs : List V} (h : H a = some (.lst xs)) : Oth Pt H (.ref a) none
  | part {a : Addr} {w : Int} {z : Str} (h : PartAt Pt H a w z) : Oth Pt H (.ref a) (some (w, z))
theorem Oth.keep {Pt TB : Addr} {H H' : Hp} {x : V} {o : Option (Int × Str)} (t : GxR.TabG H TB) (k : KeepTB TB H H') (h : Oth Pt H x o) : Oth Pt H' x o := by
  cases h with
  | non => exact .non
  | int i => exact .int i
  | str z => exact .str z
  | tup h => exact .tup (k _ _ (tab_ne t h fun _ e => nomatch e) h)
  | lst h => exact .lst (k _ _ (tab_ne t h fun _ e => nomatch e) h)
  | part h => exact .part (h.keep t k)
theorem Oth.at_ {K : PySem.W.Frag} {Pt : Addr} {H : Hp} {x : V} {o : Option (Int × Str)} (h : Oth Pt H x o) : OthAt K Pt H x o := by
  cases h with
  | non => exact .inl ⟨rfl, "NoneType", by decide, .base .non⟩
  | int i => exact .inl ⟨rfl, "int", by decide, .base (.int i)⟩
  | str z => exact .inl ⟨rfl, "str", by decide, .base (.str z)⟩
  | tup h => exact .inl ⟨rfl, "tuple", by decide, .base (.tup h)⟩
  | lst h => exact .inl ⟨rfl, "list", by decide, .base (.lst h)⟩
  | part h => exact .inr ⟨_, _, _, rfl, h, rfl⟩
def OthL (Pt : Addr) (H : Hp) (w : Int) (z : Str) (xs : List V) : Prop := ∀ x ∈ xs, ∃ o, Oth Pt H x o ∧ eqO w z o = false
theorem OthL.keep {Pt TB : Addr} {H H' : Hp} {w : Int} {z : Str} {xs : List V} (h : OthL Pt H w z xs) (t : GxR.TabG H TB) (k : KeepTB TB H H') : OthL Pt H' w z xs := fun x hx => by
  obtain ⟨o, h1, h2⟩ := h x hx
  exact ⟨o, h1.keep t k, h2⟩
theorem eqO_w {w w' : Int} {z z' : Str} (h : w ≠ w') : eqO w z (some (w', z')) = false := by
  show (decide (V.int w = V.int w') && _) = false
  rw [decide_eq_false (fun e => h (by injection e))]
  rfl
theorem eqO_z {w w' : Int} {z z' : Str} (h : z ≠ z') : eqO w z (some (w', z')) = false := by
  show (decide (V.int w = V.int w') && decide (V.str z = V.str z')) = false
  rw [decide_eq_false (show ¬ V.str z = V.str z' from fun e => h (by injection e)), Bool.and_false]
theorem eqO_same {w : Int} {z : Str} : eqO w z (some (w, z)) = true := by
  show (decide (V.int w = V.int w) && decide (V.str z = V.str z)) = true
  rw [decide_eq_true rfl, decide_eq_true rfl]
  rfl
theorem app_nil (z : Str) : z ++ "" = z := by
  refine str_list' ?_
  rw [cps_append]
  exact List.append_nil _
section
variable {K : PySem.W.Frag} {H : Hp}
theorem dp_pairs : ∀ {ts : List Addr} {cs : List (Str × Nat)}, Pairs H ts (cs.map cI) → DpAll K H (ts.map V.ref) (cs.map cellD)
  | _, [], .nil => .nil
  | _, q :: cs, .cons h t => .cons (.tup (SqT.of h) (.cons (.str _) (.cons (.int _) .nil))) (dp_pairs t)
theorem dp_prv : ∀ {xs : List V} {cs : List (Str × Nat)}, PrV H xs cs → DpAll K H xs (cs.map cellD)
  | _, [], .nil => .nil
  | _, q :: cs, .cons h t => by
    obtain ⟨p, rfl, h⟩ := h
    exact .cons (.tup (SqT.of h) (.cons (.str _) (.cons (.int _) .nil))) (dp_prv t)
end
theorem Oth.updL {Pt L : Addr} {H : Hp} {ys zs : List V} {x : V} {o : Option (Int × Str)} (hL : H L = some (.lst ys)) (n : x ≠ .ref L) (h : Oth Pt H x o) : Oth Pt (upd H L (.lst zs)) x o := by
  cases h with
  | non => exact .non
  | int i => exact .int i
  | str z => exact .str z
  | tup h => exact .tup (by rw [upd_ne (ne_of h hL fun e => nomatch e)]; exact h)
  | lst h => exact .lst (by rw [upd_ne (fun e => n (by rw [e]))]; exact h)
  | part h =>
    obtain ⟨da, ct, pt, sd, dt, stp, ak, h⟩ := h
    exact .part ⟨da, ct, pt, sd, dt, stp, ak, by rw [upd_ne (ne_of h hL fun e => nomatch e)]; exact h⟩
theorem eqv_cells : ∀ l : List (Str × Nat), PyData.eqv (.tuple (l.map cellD)) (.tuple []) = decide (l = [])
  | [] => rfl
  | q :: l => (decide_eq_false (fun e => nomatch e)).symm
theorem ne_cells {K : PySem.W.Frag} {σ : L2.St} {H : Hp} {te : TE} {p : Addr} {xs : List V} {D : Dr} (ok : PaOk D) (ht : Val te σ H (.ref p)) (hp : H p = some (.tup xs)) (hC : PrV H xs D.cs) : AnsS (tTest (tOp (rNeD K) te (tTup tNil))) σ H (!decide (D.cs = [])) := fun Q q => by
  dsimp only [tTest, tOp, tTup, tNil]
  refine ht _ ⟨Nat.zero_le _, fun r nr => ?_⟩
  have s1 := same_upd (o := .tup []) nr
  have a := da_cells (l := D.cs) fun q hq => ⟨ok.nc _ (.inl (List.mem_map_of_mem hq)), by have := (ok.cn q hq).2; have := ok.m4; omega⟩
  refine ⟨.tuple (D.cs.map cellD), .tuple [], .tup (SqT.of (s1 _ _ hp)) (dp_prv (hC.mono (Same.tup s1))), .tup (SqT.of upd_same) .nil, ?_, by decide, _, rfl, ?_⟩
  · unfold SeqAt.shaped
    rw [Bool.and_eq_true]
    refine ⟨a.lay, decide_eq_true ?_⟩
    have := a.dp
    show PyData.depthAll (D.cs.map cellD) + 1 ≤ 64
    omega
  · rw [eqv_cells]
    exact q _ s1
theorem paired_app {α β : Type} {F : α → β → Prop} {xs xs' : List α} {ys ys' : List β} (h : Paired F xs ys) (g : Paired F xs' ys') : Paired F (xs ++ xs') (ys ++ ys') := by
  induction h with
  | nil => exact g
  | cons e t ih => exact .cons e ih
theorem merge_pl {tc tp td t : Addr} : mergeK [] (plK tc tp td ++ [((.inr "cells" : Key), .ref t)]) = plK t tp td := by
  show putK (mergeK [] [((.inr "cells" : Key), .ref tc), (.inr "ports", .ref tp), (.inr "doors", .ref td)]) (.inr ("cells" : Str)) (.ref t) = _
  rw [disp3]
  unfold putK
  rw [valV_any, show valV [((.inr "cells" : Key), V.ref tc), (.inr "ports", .ref tp), (.inr "doors", .ref td)] (.inr ("cells" : Str)) = some (.ref tc) from valV_pos rfl, show (some (V.ref tc)).isSome = true from rfl, if_pos rfl]
  have h2 : ¬ ((Sum.inr ("ports" : Str) : Key) = Sum.inr ("cells" : Str)) := by decide +kernel
  have h3 : ¬ ((Sum.inr ("doors" : Str) : Key) = Sum.inr ("cells" : Str)) := by decide +kernel
  rw [List.map_cons, List.map_cons, List.map_cons, List.map_nil, if_neg h2, if_neg h3, if_pos rfl]
  rfl
structure Rk (P : Program) (w : World) (K : PySem.W.Frag) (mg : Str → Option Value) (base : Heap) (TB Pt CT CW : Addr) (fT fW fX fP fS fE : Addr) (dT dW dX dP dS dE : FuncData) : Prop where
  B : Bt mg
  m_any : mg "any" = none
  m_dict : mg "dict" = none
  Dt : Df K mg "_law_take" sTake fT dT ["_law_box_here", "_law_many"]
  Dw : Df K mg "_law_whole_part" s__law_whole_part fW dW ["_law_box_here", "_law_worths"]
  Gw : FnOk P w K mg base CX0 8 fW dW ["_law_box_here", "_law_worths"] spWhole
  Dx : Df K mg "_law_part_text" s__law_part_text fX dX ["_law_plain"]
  Gx : FnOk P w K mg base CX0 5 fX dX ["_law_plain"] spPartText
  Ds : Df K mg "_law_same" s__law_same fS dS ["_law_one", "_law_other"]
  Gs : FnOk P w K mg base CX0 5 fS dS ["_law_one", "_law_other"] (spPEq K Pt)
  MP : Mk K Pt fP
  gP : mg "Part" = some (.ref Pt)
  bP : Binds K dP ["self", "worths", "text"] []
  GP : FnOk P w K mg base (L2.CX P w) 22 fP dP ["self", "worths", "text"] (spPart TB Pt CT CW)
  N : EqF K mg Pt fE dE
theorem call_reprK {X : Cx} {K : PySem.W.Frag} (e : X.K = K) (gu : X.A.guards = some []) (hu : X.A.units + 64 < cLine) : CallR X (.builtin "repr") (rRepr K) := by
  subst e
  exact call_reprD gu hu
section
variable {P : Program} {w : World} {K : PySem.W.Frag} {mg : Str → Option Value} {base : Heap} {TB Pt CT CW : Addr} {fT fW fX fP fS fE : Addr} {dT dW dX dP dS dE : FuncData}
theorem ok_right {f : Addr} {fd : FuncData} (R : Rk P w K mg base TB Pt CT CW fT fW fX fP fS fE dT dW dX dP dS dE) (D : Df K mg "_law_right" s__law_right f fd ["_law_box_here"]) : FnG P w K mg base (L2.CX P w) 25 f fd ["_law_box_here"] (spRight TB) := by
  have Gt : FnOk P w K mg base CX0 1 fT dT ["_law_box_here", "_law_many"] spTake := ok_take (CX := CX0) R.Dt.F R.B.m_int
  refine okG D.F sc__law_right (fun vs H Q E h => ?_) (fun cdv A outer s H vs Q E gu hr h => ?_)
  · obtain ⟨b, p, q, n, rfl, _⟩ := h
    rfl
  · obtain ⟨b, p, q, n, rfl, hb, Bx, few, tab, k⟩ := h
    have S := sc__law_right
    have hu := hr.units
    refine ⟨_, (pss_cons (ps_set (i := 1) S.nd rfl (.inl rfl) (pe_op op_add pe_int (pe_call Gt (hr.mono (by decide)) (by rfl) R.Dt.g R.Dt.F.kp R.Dt.b .nil pass0 (pa_cons (pv 0) (pa_cons pe_int pa_nil)))))
      (pss_cons (ps_set (i := 2) S.nd rfl (.inl rfl) (pe_call R.Gw (hr.mono (by decide)) (by rfl) R.Dw.g R.Dw.F.kp R.Dw.b .nil pass0 (pa_cons (pv 0) (pa_cons (pv 1) pa_nil))))
      (pss_cons (ps_set (i := 3) S.nd rfl (.inr rfl) (pe_call R.Gx (hr.mono (by decide)) (by rfl) R.Dx.g R.Dx.F.kp R.Dx.b .nil pass0 (pa_cons (pv 2) pa_nil)))
      (pss_cons (ps_asg (pe_tup (pa_cons (pe_make R.MP R.GP (hr.mono (by decide)) (by rfl) R.gP R.bP .nil passL (pa_cons (pv 1) (pa_cons (pv 3) pa_nil))) (pa_cons (pe_make R.MP R.GP (hr.mono (by decide)) (by rfl) R.gP R.bP .nil passL (pa_cons (pv 1) (pa_cons (pe_op op_add_str (pv 3) pe_str) pa_nil))) pa_nil))) (pg_tup (by rfl) (pgs_cons (pg_name (i := 4) S.nd rfl (.inr rfl)) (pgs_cons (pg_name (i := 5) S.nd rfl (.inl rfl)) pgs_nil))))
      (pss_cons (ps_set (i := 6) S.nd rfl (.inl rfl) (pe_tup (pa_cons (pv 1) (pa_cons (pv 3) (pa_cons (pe_dget (hu_of hr) (pv 2) pe_str (fun _ _ => rfl)) (pa_cons (pe_dget (hu_of hr) (pv 2) pe_str (fun _ _ => rfl)) (pa_cons (pe_tupleOf (by rfl) R.B.m_tuple (pe_lc (own := [("_law_name", 8), ("_law_block", 12)]) (g := gTup K 2 (gCons (gName 8) (gCons (gName 12) gNil))) (tt := tYes) rfl S.nd (pi_tup (pe_dget (hu_of hr) (pv 2) pe_str (fun _ _ => rfl))) (blkOk_by (own := [("_law_name", 8), ("_law_block", 12)]) (N := ["_law_box_here", "_law_worths", "_law_plain", "_law_page", "_law_part", "_law_twin", "_law_due", "_law_others", "_law_name", "_law_first", "_law_rest", "_law_more", "_law_block", "_law_other"]) (sc := defScope s__law_right) (by decide +kernel)) (fun _ _ _ _ _ => pg_tup (by rfl) (pgs_cons (pg_name (i := 8) S.nd rfl (Or.inl rfl)) (pgs_cons (pg_name (i := 12) S.nd rfl (Or.inl rfl)) pgs_nil))) (fun _ _ _ _ _ => pts_nil) (fun _ _ _ _ _ => pv 8))) pa_nil)))))))
      (pss_cons (ps_if (PW.pt (pw_or (pt_cmpR op_ne (pe_callB (by refine call_reprK (K := K) rfl ?_ ?_ <;> first | exact gu | exact hu) (by rfl) R.B.m_repr PyProof.Rows.boot_repr (pa_cons (pe_tup (pa_cons (pe_fld (pv 4) rfl) (pa_cons (pe_fld (pv 4) rfl) (pa_cons (pe_fld (pv 4) rfl) (pa_cons (pe_fld (pv 4) rfl) (pa_cons (pe_fld (pv 4) rfl) pa_nil)))))) pa_nil)) (pe_callB (by refine call_reprK (K := K) rfl ?_ ?_ <;> first | exact gu | exact hu) (by rfl) R.B.m_repr PyProof.Rows.boot_repr (pa_cons (pv 6) pa_nil)) (nomark _)) (pw_or1 (pt_not (pt_val (pe_call R.Gs (hr.mono (by decide)) (by rfl) R.Ds.g R.Ds.F.kp R.Ds.b .nil pass0 (pa_cons (pv 4) (pa_cons (pv 5) pa_nil))))))))
        (pss_one (ps_ret pe_bl))
        pss_nil)
      (pss_cons (ps_set (i := 7) S.nd rfl (.inl rfl) (pe_lst (pa_cons (pv 3) (pa_cons pe_non (pa_cons (pe_tup (pa_cons (pv 1) (pa_cons (pv 3) pa_nil))) (pa_cons (pv 1) (pa_cons (pe_lst (pa_cons (pv 4) pa_nil)) (pa_cons (pe_make R.MP R.GP (hr.mono (by decide)) (by rfl) R.gP R.bP .nil passL (pa_cons (pv 1) (pa_cons (pe_op op_add_str (pv 3) pe_str) pa_nil))) pa_nil))))))))
      (pss_cons (ps_expr (pe_bm PySem.F.plainAttrs_list PySem.F.slot_list_extend PySem.F.type_list_extend mt_extend (pv 7) (pa_cons (pe_lc (own := [("_law_more", 11)]) (g := gName 11) (tt := tYes) rfl S.nd (pi_range2 (by rfl) R.B.m_range (pa_cons (pe_op op_add (pv 1) pe_int) (pa_cons pe_int pa_nil))) (blkOk_by (own := [("_law_more", 11)]) (N := ["_law_box_here", "_law_worths", "_law_plain", "_law_page", "_law_part", "_law_twin", "_law_due", "_law_others", "_law_name", "_law_first", "_law_rest", "_law_more", "_law_block", "_law_other"]) (sc := defScope s__law_right) (by decide +kernel)) (fun _ _ _ _ _ => pg_name (i := 11) S.nd rfl (Or.inl rfl)) (fun _ _ _ _ _ => pts_nil) (fun _ _ _ _ _ => pe_make R.MP R.GP (hr.mono (by decide)) (by rfl) R.gP R.bP .nil passL (pa_cons (pv 11) (pa_cons (pv 3) pa_nil)))) pa_nil)))
      (pss_cons (ps_if (pt_cmpR (op_neD (by exact hu)) (pe_dget (hu_of hr) (pv 2) pe_str (fun _ _ => rfl)) (pe_tup pa_nil) (nomark _))
        (pss_cons (ps_asg (pe_ix ix_tup (pe_dget (hu_of hr) (pv 2) pe_str (fun _ _ => rfl)) pe_int (fun _ _ => rfl)) (pg_tup (by rfl) (pgs_cons (pg_name (i := 8) S.nd rfl (.inl rfl)) (pgs_cons (pg_name (i := 9) S.nd rfl (.inl rfl)) pgs_nil))))
        (pss_cons (ps_set (i := 10) S.nd rfl (.inl rfl) (pe_disp (pps_cons pe_str (pe_op op_catA (pe_tup (pa_cons (pe_tup (pa_cons (pv 8) (pa_cons (pe_op op_mod (pe_toInt (by rfl) R.B.m_int (pe_op op_add (pv 9) pe_int)) (pv 1)) pa_nil))) pa_nil)) (pe_slice sl_tup (pe_dget (hu_of hr) (pv 2) pe_str (fun _ _ => rfl)) (po_some pe_int) po_none)) pps_nil) (by rfl) (by rfl) (by simp) (by decide)))
        (pss_one (ps_expr (pe_bm PySem.F.plainAttrs_list PySem.F.slot_list_append PySem.F.type_list_append mt_append (pv 7) (pa_cons (pe_make R.MP R.GP (hr.mono (by decide)) (by rfl) R.gP R.bP .nil passL (pa_cons (pv 1) (pa_cons (pe_call R.Gx (hr.mono (by decide)) (by rfl) R.Dx.g R.Dx.F.kp R.Dx.b .nil pass0 (pa_cons (pe_callTy (call_dictP rfl) (by rfl) R.m_dict (by decide +kernel) (pa_cons (pe_op op_cat (LiI.pe_listItems (by rfl) (pv 2) (by rfl) R.B.m_list PyProof.Rows.boot_list) (LiI.pe_listItems (by rfl) (pv 10) (by rfl) R.B.m_list PyProof.Rows.boot_list)) pa_nil)) pa_nil)) pa_nil))) pa_nil))))))
        pss_nil)
      (pss_one (ps_ret (pe_not (pe_callB (cr_any rfl) (by rfl) R.m_any (by decide +kernel) (pa_cons (pe_lc (own := [("_law_other", 13)]) (g := gName 13) (tt := tYes) rfl S.nd (pi_list (pv 7)) (blkOk_by (own := [("_law_other", 13)]) (N := ["_law_box_here", "_law_worths", "_law_plain", "_law_page", "_law_part", "_law_twin", "_law_due", "_law_others", "_law_name", "_law_first", "_law_rest", "_law_more", "_law_block", "_law_other"]) (sc := defScope s__law_right) (by decide +kernel)) (fun _ _ _ _ _ => pg_name (i := 13) S.nd rfl (Or.inl rfl)) (fun _ _ _ _ _ => pts_nil) (fun _ _ _ _ _ => pe_call R.Gs (hr.mono (by decide)) (by rfl) R.Ds.g R.Ds.F.kp R.Ds.b .nil pass0 (pa_cons (pv 4) (pa_cons (pv 13) pa_nil)))) pa_nil)))))))))))))), ?_⟩
    try dsimp only [tSeq, tAsg, tOp]
    refine val_c _ (take_box rfl val_c hb Bx (by decide) (by decide) (by omega) fun d p1 n1 d0 d1 B1 h1 => ?_)
    refine ⟨2, d, rfl, rfl, ?_⟩
    try dsimp only [gName]
    have ed : (2 : Int) + d = ((2 + d.toNat : Nat) : Int) := by omega
    rw [ed]
    have m2 : 2 ≤ 2 + d.toNat := by omega
    have m4 : 2 + d.toNat ≤ 4 := by omega
    generalize 2 + d.toNat = m at m2 m4
    have hb1 : (upd H b (.lst (bx p1 q n1))) b = some (.lst (bx p1 q n1)) := upd_same
    have k1 : ∀ x o, x ≠ b → H x = some o → (upd H b (.lst (bx p1 q n1))) x = some o := fun x o n e => by
      rw [upd_ne n]
      exact e
    generalize (upd H b (.lst (bx p1 q n1))) = H1 at hb1 k1
    try dsimp only [gName, tSeq, tAsg]
    try dsimp only [tCall, tCons, tNil]
    refine (val_var rfl) _ ((val_var rfl) _ ⟨b, m, p1, q, n1, rfl, hb1, B1, m2, m4, by omega, fun H2 r Dd p2 n2 sb2 hb2 B2 le2 eD ok hP => ?_⟩)
    subst eD
    have bT : b ≠ TB := tab_ne tab hb fun _ e => nomatch e
    have tab2 : GxR.TabG H2 TB := by
      obtain ⟨ps, t1, t2⟩ := tab
      exact ⟨ps, sb2 _ _ bT.symm (k1 _ _ bT.symm t1), t2⟩
    have kx2 : KeepX TB b H H2 := fun x o _ nb e => sb2 x o nb (k1 x o nb e)
    clear k1 sb2 hb1
    try dsimp only [gName, tSeq, tAsg]
    try dsimp only [tCall, tCons, tNil]
    refine (val_var rfl) _ ⟨r, Dd, rfl, hP, ok, fun H3 s3 => ?_⟩
    have tab3 := TabG.keep tab2 s3
    have kx3 : KeepX TB b H H3 := fun x o n1 n2 e => s3 _ _ (kx2 x o n1 n2 e)
    have hb3 := s3 _ _ hb2
    obtain ⟨tc, tp, td, xs, ys, hr0, htc, hC, htp, htd, hDo⟩ := hP
    have hr0 := s3 _ _ hr0
    have htc := s3 _ _ htc
    have hC := hC.mono (Same.tup s3)
    have htp := s3 _ _ htp
    have htd := s3 _ _ htd
    have hDo := DoV.mono hDo (Same.tup s3)
    clear s3 kx2 tab2 hb2
    have w2 : (2 : Int) ≤ ((Dd.m : Nat) : Int) := by omega
    have w4 : ((Dd.m : Nat) : Int) ≤ 4 := by omega
    have tl := (text_ok ok.pa).1
    have l0 : ("" : Str).length = 0 := by decide +kernel
    try dsimp only [gName, tSeq, tAsg]
    try dsimp only [tTup, tCons, tNil]
    refine mk_part (tw := tVar 1) (tt := tVar 3) (w := ((Dd.m : Nat) : Int)) (D := Dd) ok.pa (Int.le_refl _) w2 w4 tab3 (val_var rfl) (fun R h => (val_var rfl) _ (h _ (Same.refl _))) fun H4 a k4 t4 F4 => ?_
    refine mk_part (tw := tVar 1) (tt := tOp rAddS (tVar 3) (tC (.str ""))) (w := ((Dd.m : Nat) : Int)) (D := Dd) ok.pa (Int.le_refl _) w2 w4 t4 (val_var rfl) (fun R h => (val_addS (z := textD Dd) (y := "") (val_var rfl) val_c (by omega)) _ (by rw [app_nil]; exact h _ (Same.refl _))) fun H5 a2 k5 t5 F5 => ?_
    refine ⟨by show 2 ≤ sizeLine; decide, fun u nu => ?_⟩
    have s6 := same_upd (o := .tup [.ref a, .ref a2]) nu
    have hu6 : (upd H5 u (.tup [.ref a, .ref a2])) u = some (.tup [.ref a, .ref a2]) := upd_same
    generalize (upd H5 u (.tup [.ref a, .ref a2])) = H6 at s6 hu6
    refine ⟨u, _, rfl, SqT.of hu6, rfl, _, _, rfl, _, _, rfl, rfl, ?_⟩
    have k36 : KeepTB TB H3 H6 := fun x o n e => s6 _ _ (k5 x o n (k4 x o n e))
    have k46 : KeepTB TB H4 H6 := fun x o n e => s6 _ _ (k5 x o n e)
    have k56 : KeepTB TB H5 H6 := fun x o n e => s6 _ _ e
    have t6 := TabG.keep t5 s6
    have F4 := F4.keep t4 k46
    have F5 := F5.keep t5 k56
    have kp : ∀ {x : Addr} {o : HO}, H3 x = some o → (∀ ps, o ≠ .tbl ps) → H6 x = some o := fun e n => k36 _ _ (tab_ne tab3 e n) e
    have hr0 := kp hr0 (fun _ e => nomatch e)
    have htc := kp htc (fun _ e => nomatch e)
    have hC := hC.mono (H' := H6) (fun x zs e => kp e (fun _ e => nomatch e))
    have htp := kp htp (fun _ e => nomatch e)
    have htd := kp htd (fun _ e => nomatch e)
    have hDo := DoV.mono hDo (H' := H6) (fun x zs e => kp e (fun _ e => nomatch e))
    have hb6 := kp hb3 (fun _ e => nomatch e)
    have kx6 : KeepX TB b H H6 := fun x o n1 n2 e => k36 x o n1 (kx3 x o n1 n2 e)
    clear kp k36 k46 k56 s6 hu6 nu kx3 hb3 tab3 t4 t5 k4 k5
    -- what is due
    try dsimp only [gName, tSeq, tAsg]
    try dsimp only [tTup, tCons, tNil]
    refine (val_var rfl) _ ((val_var rfl) _ ((val_pc rfl hr0) _ ((val_pp rfl hr0) _ ?_)))
    try dsimp only [tThen]
    have d3 := ok.d3
    refine lc_texts (K := K) (p := td) (xs := ys) (zs := Dd.ds.map (·.1)) (val_pd rfl hr0) htd (by rw [List.length_map]; exact Paired.length hDo) (by rw [List.length_map]; omega) (fun i x z H' hx hz s => ?_) fun H7 L s7 hL => ?_
    · obtain ⟨qd, hq, pq, t, zs, rfl, g1, g2, g3⟩ := pgetL hDo hx
      rw [List.getElem?_map, hq] at hz
      have hz : qd.1 = z := Option.some.inj hz
      refine ⟨_, fun P hP => ⟨pq, _, rfl, SqT.of (s _ _ g1), rfl, _, _, rfl, _, _, rfl, rfl, hP⟩, rfl, fun R hR => ?_⟩
      rw [← hz] at hR
      exact (val_var rfl) _ (hR _ (Same.refl _))
    refine .inl ⟨L, _, rfl, SqL.of hL, fun tn ntn => ?_⟩
    have s8 := same_upd (o := .tup ((Dd.ds.map (·.1)).map V.str)) ntn
    have htn : (upd H7 tn (.tup ((Dd.ds.map (·.1)).map V.str))) tn = some (.tup ((Dd.ds.map (·.1)).map V.str)) := upd_same
    generalize (upd H7 tn (.tup ((Dd.ds.map (·.1)).map V.str))) = H8 at s8 htn
    refine ⟨by show 5 ≤ sizeLine; decide, fun du ndu => ?_⟩
    have s9 := same_upd (o := .tup [.int (Dd.m : Nat), .str (textD Dd), .ref tc, .ref tp, .ref tn]) ndu
    have hdu : (upd H8 du (.tup [.int (Dd.m : Nat), .str (textD Dd), .ref tc, .ref tp, .ref tn])) du = some (.tup [.int (Dd.m : Nat), .str (textD Dd), .ref tc, .ref tp, .ref tn]) := upd_same
    generalize (upd H8 du (.tup [.int (Dd.m : Nat), .str (textD Dd), .ref tc, .ref tp, .ref tn])) = H9 at s9 hdu
    have s69 : Same H6 H9 := s7.trans (s8.trans s9)
    have t9 := TabG.keep t6 s69
    have kx9 : KeepX TB b H H9 := fun x o n1 n2 e => s69 _ _ (kx6 x o n1 n2 e)
    have F4 := F4.keep t6 (fun x o _ e => s69 _ _ e)
    have F5 := F5.keep t6 (fun x o _ e => s69 _ _ e)
    have hr0 := s69 _ _ hr0
    have htc := s69 _ _ htc
    have hC := hC.mono (Same.tup s69)
    have htp := s69 _ _ htp
    have htd := s69 _ _ htd
    have hDo := DoV.mono hDo (Same.tup s69)
    have hb9 := s69 _ _ hb6
    have htn := s9 _ _ htn
    clear s7 s8 s9 s69 hL kx6 hb6 t6
    -- it is shown alike
    obtain ⟨g1, g2, g3, g4⟩ := partD_ok (w := ((Dd.m : Nat) : Int)) ok.pa (by omega) w4
    try dsimp only [gName]
    try dsimp only [tSeq, tIfS, tOr, tTest, tOp, tCB, tTup, tCons, tNil]
    obtain ⟨da, ct, pt, sd, dt, stp, ak, ts, e1, e2, e3, e4, e5⟩ := id F4
    have CC := R.N.CC
    refine (val_fld (val_var rfl) e1 CC.cl (CC.na _ (by decide +kernel)) pt_worths) _ ?_
    refine (val_fld (val_var rfl) e1 CC.cl (CC.na _ (by decide +kernel)) pt_text) _ ?_
    refine (val_fld (val_var rfl) e1 CC.cl (CC.na _ (by decide +kernel)) pt_cells) _ ?_
    refine (val_fld (val_var rfl) e1 CC.cl (CC.na _ (by decide +kernel)) pt_ports) _ ?_
    refine (val_fld (val_var rfl) e1 CC.cl (CC.na _ (by decide +kernel)) pt_doors) _ ?_
    refine ⟨by show 5 ≤ sizeLine; decide, fun v nv => ?_⟩
    have s10 := same_upd (o := .tup [.int (Dd.m : Nat), .str (textD Dd), .ref ct, .ref pt, .ref dt]) nv
    have hv : (upd H9 v (.tup [.int (Dd.m : Nat), .str (textD Dd), .ref ct, .ref pt, .ref dt])) v = some (.tup [.int (Dd.m : Nat), .str (textD Dd), .ref ct, .ref pt, .ref dt]) := upd_same
    generalize (upd H9 v (.tup [.int (Dd.m : Nat), .str (textD Dd), .ref ct, .ref pt, .ref dt])) = H10 at s10 hv
    have dp1 : Dp K H10 (.ref v) (partD ((Dd.m : Nat) : Int) Dd) := .tup (SqT.of hv) (.cons (.int _) (.cons (.str _) (.cons (.tup (SqT.of (s10 _ _ e2)) (dp_pairs (pairs_to e3 fun x zs e => s10 _ _ e))) (.cons (.tup (SqT.of (s10 _ _ e4)) dp_strs) (.cons (.tup (SqT.of (s10 _ _ e5)) dp_strs) .nil)))))
    have dp2 : Dp K H10 (.ref du) (partD ((Dd.m : Nat) : Int) Dd) := .tup (SqT.of (s10 _ _ hdu)) (.cons (.int _) (.cons (.str _) (.cons (.tup (SqT.of (s10 _ _ htc)) (dp_prv (hC.mono (Same.tup s10)))) (.cons (.tup (SqT.of (s10 _ _ htp)) dp_strs) (.cons (.tup (SqT.of (s10 _ _ htn)) dp_strs) .nil)))))
    refine ⟨v, _, rfl, .inl ⟨dp1, g4⟩, g1, g2, g3, ?_⟩
    refine (val_var rfl) _ ⟨du, _, rfl, .inl ⟨dp2, g4⟩, g1, g2, g3, ?_⟩
    refine ⟨rfl, _, rfl, ?_⟩
    rw [show (!decide (V.str (partD ((Dd.m : Nat) : Int) Dd).shown = V.str (partD ((Dd.m : Nat) : Int) Dd).shown)) = false by rw [decide_eq_true rfl]; rfl]
    refine iteF ?_
    try dsimp only [tNot, tB]
    try dsimp only [tCall, tCons, tNil]
    have t10 := TabG.keep t9 s10
    have F4 := F4.keep t9 (fun x o _ e => s10 _ _ e)
    have F5 := F5.keep t9 (fun x o _ e => s10 _ _ e)
    refine (val_var rfl) _ ((val_var rfl) _ ⟨a, .ref a2, ((Dd.m : Nat) : Int), textD Dd, some (((Dd.m : Nat) : Int), textD Dd), rfl, F4.at_, (Oth.part F5.at_).at_, ?_⟩)
    rw [eqO_same]
    refine ⟨true, rfl, iteF ?_⟩
    have kx10 : KeepX TB b H H10 := fun x o n1 n2 e => s10 _ _ (kx9 x o n1 n2 e)
    have hr0 := s10 _ _ hr0
    have htc := s10 _ _ htc
    have hC := hC.mono (Same.tup s10)
    have htp := s10 _ _ htp
    have htd := s10 _ _ htd
    have hDo := DoV.mono hDo (Same.tup s10)
    have hb10 := s10 _ _ hb9
    clear dp1 dp2 g1 g2 g3 g4 e1 e2 e3 e4 e5 hv s10 hb9 kx9 t9 F5 hdu htn
    -- the others
    try dsimp only [tNext]
    try dsimp only [tSeq, tAsg]
    try dsimp only [tLst, tTup, tCons, tNil]
    refine (val_var rfl) _ (val_c _ ((val_var rfl) _ ((val_var rfl) _ ⟨by show 2 ≤ sizeLine; decide, fun o1 no1 => ?_⟩)))
    have s11 := same_upd (o := .tup [.int (Dd.m : Nat), .str (textD Dd)]) no1
    have ho1 : (upd H10 o1 (.tup [.int (Dd.m : Nat), .str (textD Dd)])) o1 = some (.tup [.int (Dd.m : Nat), .str (textD Dd)]) := upd_same
    generalize (upd H10 o1 (.tup [.int (Dd.m : Nat), .str (textD Dd)])) = H11 at s11 ho1
    refine (val_var rfl) _ ((val_var rfl) _ ⟨by show 1 ≤ sizeLine; decide, fun o2 no2 => ?_⟩)
    have s12 := same_upd (o := .lst [.ref a]) no2
    have ho2 : (upd H11 o2 (.lst [.ref a])) o2 = some (.lst [.ref a]) := upd_same
    generalize (upd H11 o2 (.lst [.ref a])) = H12 at s12 ho2
    have s1012 : Same H10 H12 := s11.trans s12
    have t12 := TabG.keep t10 s1012
    have lf : ("\n  fail" : Str).length = 7 := by decide +kernel
    refine mk_part (tw := tVar 1) (tt := tOp rAddS (tVar 3) (tC (.str "\n  fail"))) (w := ((Dd.m : Nat) : Int)) (D := failD Dd) (fail_pa ok) (Int.le_refl _) w2 w4 t12 (val_var rfl) (fun R h => (val_addS (z := textD Dd) (y := "\n  fail") (val_var rfl) val_c (by omega)) _ (by rw [← fail_text ok]; exact h _ (Same.refl _))) fun H13 o3 k13 t13 F13 => ?_
    refine ⟨by show 6 ≤ sizeLine; decide, fun L nL => ?_⟩
    have s14 := same_upd (o := .lst [.str (textD Dd), .non, .ref o1, .int (Dd.m : Nat), .ref o2, .ref o3]) nL
    have hL : (upd H13 L (.lst [.str (textD Dd), .non, .ref o1, .int (Dd.m : Nat), .ref o2, .ref o3])) L = some (.lst [.str (textD Dd), .non, .ref o1, .int (Dd.m : Nat), .ref o2, .ref o3]) := upd_same
    generalize (upd H13 L (.lst [.str (textD Dd), .non, .ref o1, .int (Dd.m : Nat), .ref o2, .ref o3])) = H14 at s14 hL
    have t14 := TabG.keep t13 s14
    have nlo : ∀ x ∈ ([.str (textD Dd), .non, .ref o1, .int (Dd.m : Nat), .ref o2, .ref o3] : List V), x ≠ .ref L := fun x hx q => by
      rw [q] at hx
      simp only [List.mem_cons, List.not_mem_nil, or_false, V.ref.injEq, reduceCtorEq, false_or] at hx
      rcases hx with e | e | e
      · rw [e, k13 _ _ (tab_ne t12 (s12 _ _ ho1) (fun _ e => nomatch e)) (s12 _ _ ho1)] at nL; cases nL
      · rw [e, k13 _ _ (tab_ne t12 ho2 (fun _ e => nomatch e)) ho2] at nL; cases nL
      · obtain ⟨da, ct, pt, sd, dt, stp, ak, h1⟩ := F13.at_
        rw [e, h1] at nL; cases nL
    have nLb : L ≠ b := fun e => by
      have e1 := k13 _ _ bT (s1012 _ _ hb10)
      rw [← e] at e1
      rw [e1] at nL; cases nL
    have nLx : ∀ x o, H x = some o → x ≠ L := fun x o e q => by
      by_cases c1 : x = TB
      · obtain ⟨ps, q1, _⟩ := t13
        rw [← q, c1, q1] at nL; cases nL
      · by_cases c2 : x = b
        · exact nLb (q.symm.trans c2)
        · have e1 := k13 _ _ c1 (s1012 _ _ (kx10 x o c1 c2 e))
          rw [q] at e1
          rw [e1] at nL; cases nL
    have k1214 : KeepTB TB H12 H14 := fun x o n e => s14 _ _ (k13 x o n e)
    have k1014 : KeepTB TB H10 H14 := fun x o n e => k1214 x o n (s1012 _ _ e)
    have ol : OthL Pt H14 ((Dd.m : Nat) : Int) (textD Dd) [.str (textD Dd), .non, .ref o1, .int (Dd.m : Nat), .ref o2, .ref o3] := fun x hx => by
      simp only [List.mem_cons, List.not_mem_nil, or_false] at hx
      rcases hx with rfl | rfl | rfl | rfl | rfl | rfl
      · exact ⟨none, .str _, rfl⟩
      · exact ⟨none, .non, rfl⟩
      · exact ⟨none, (Oth.tup (s12 _ _ ho1)).keep t12 k1214, rfl⟩
      · exact ⟨none, .int _, rfl⟩
      · exact ⟨none, (Oth.lst ho2).keep t12 k1214, rfl⟩
      · exact ⟨_, (Oth.part F13.at_).keep t13 (fun x o _ e => s14 _ _ e), eqO_z (fun e => fail_ne ok e.symm)⟩
    have kp : ∀ {x : Addr} {o : HO}, H10 x = some o → (∀ ps, o ≠ .tbl ps) → H14 x = some o := fun e n => k1014 _ _ (tab_ne t10 e n) e
    have F4 := F4.keep t10 k1014
    have hr0 := kp hr0 (fun _ e => nomatch e)
    have htc := kp htc (fun _ e => nomatch e)
    have hC := hC.mono (H' := H14) (fun x zs e => kp e (fun _ e => nomatch e))
    have htp := kp htp (fun _ e => nomatch e)
    have htd := kp htd (fun _ e => nomatch e)
    have hDo := DoV.mono hDo (H' := H14) (fun x zs e => kp e (fun _ e => nomatch e))
    have hb14 := kp hb10 (fun _ e => nomatch e)
    have kx14 : KeepX TB b H H14 := fun x o n1 n2 e => k1014 x o n1 (kx10 x o n1 n2 e)
    clear kp k1014 k1214 s14 t13 k13 F13 t12 s1012 s12 s11 ho1 ho2 kx10 hb10 t10 nL no1 no2
    -- of more worths
    try dsimp only [gName]
    try dsimp only [tSeq, tDrop]
    refine bm_run (x := .ref L) (val_var rfl) (.inl ⟨rfl, _, SqL.of hL⟩) ?_
    try dsimp only [tCons, tNil, tLc, iRng2, tOp]
    refine (val_var rfl) _ (val_c _ ⟨_, _, rfl, rfl, val_c _ ⟨((Dd.m : Nat) : Int) + 1, 5, rfl, by omega, fun M nM => ?_⟩⟩)
    have nLM : L ≠ M := ne_of_none hL nM
    have MT : M ≠ TB := fun e => by
      obtain ⟨ps, q1, _⟩ := t14
      rw [e, q1] at nM
      cases nM
    refine lc_range (lo := ((Dd.m : Nat) : Int) + 1) (n := (5 - (((Dd.m : Nat) : Int) + 1)).toNat) (fun i H' => ∃ zs, KeepTB TB H14 H' ∧ GxR.TabG H' TB ∧ H' M = some (.lst zs) ∧ (∀ x ∈ zs, ∃ e w', x = V.ref e ∧ PartAt Pt H' e w' (textD Dd) ∧ ((Dd.m : Nat) : Int) < w') ∧ zs.length = i) ⟨[], fun x o _ e => (same_upd nM) _ _ e, TabG.keep t14 (same_upd nM), upd_same, (fun x hx => nomatch hx), rfl⟩ (fun i H' hi hI => ?_) fun H' hI => ?_
    · obtain ⟨zs, kk, tI, hM, pz, lz⟩ := hI
      refine ⟨rfl, ?_⟩
      try dsimp only [tYes]
      rw [if_pos rfl]
      refine mk_part (tw := tVar 11) (tt := tVar 3) (w := ((Dd.m : Nat) : Int) + 1 + (i : Nat)) (D := Dd) ok.pa (by omega) (by omega) (by omega) tI (val_var rfl) (fun R h => (val_var rfl) _ (h _ (Same.refl _))) fun H'' oo kO tO FO => ?_
      have hM2 := kO _ _ MT hM
      have up : ∀ x o, x ≠ M → H'' x = some o → (upd H'' M (.lst (zs ++ [.ref oo]))) x = some o := fun x o n e => by
        rw [upd_ne n]
        exact e
      have upP : ∀ {e : Addr} {w' : Int}, PartAt Pt H'' e w' (textD Dd) → PartAt Pt (upd H'' M (.lst (zs ++ [.ref oo]))) e w' (textD Dd) := fun h => by
        obtain ⟨da, ct, pt, sd, dt, stp, ak, h⟩ := h
        exact ⟨da, ct, pt, sd, dt, stp, ak, up _ _ (ne_of h hM2 fun e => nomatch e) h⟩
      refine ⟨zs, hM2, by rw [lz]; exact Nat.lt_of_le_of_lt (show i ≤ 10 by omega) (by decide), zs ++ [.ref oo], fun x o n e => up _ _ (ne_of_none e nM) (kO x o n (kk x o n e)), ?_, upd_same, fun x hx => ?_, by rw [List.length_append, lz]; rfl⟩
      · obtain ⟨ps, q1, q2⟩ := tO
        exact ⟨ps, up _ _ MT.symm q1, q2⟩
      · rcases List.mem_append.mp hx with hx | hx
        · obtain ⟨e, w', rfl, h1, h2⟩ := pz x hx
          exact ⟨e, w', rfl, upP (h1.keep tI kO), h2⟩
        · rw [List.mem_singleton.mp hx]
          exact ⟨oo, _, rfl, upP FO.at_, by omega⟩
    · obtain ⟨zs, kk, tI, hM, pz, lz⟩ := hI
      have LT : L ≠ TB := tab_ne t14 hL fun _ e => nomatch e
      have hL2 := kk _ _ LT hL
      refine ⟨L, M, _, zs, rfl, rfl, hL2, hM, by rw [lz]; exact Nat.le_trans (show 6 + _ ≤ 20 by omega) (by decide), ?_⟩
      have up : ∀ x o, x ≠ L → H' x = some o → (upd H' L (.lst ([.str (textD Dd), .non, .ref o1, .int (Dd.m : Nat), .ref o2, .ref o3] ++ zs))) x = some o := fun x o n e => by
        rw [upd_ne n]
        exact e
      have nl : ∀ x ∈ ([.str (textD Dd), .non, .ref o1, .int (Dd.m : Nat), .ref o2, .ref o3] : List V), x ≠ .ref L := nlo
      have ol15 : OthL Pt (upd H' L (.lst ([.str (textD Dd), .non, .ref o1, .int (Dd.m : Nat), .ref o2, .ref o3] ++ zs))) ((Dd.m : Nat) : Int) (textD Dd) ([.str (textD Dd), .non, .ref o1, .int (Dd.m : Nat), .ref o2, .ref o3] ++ zs) := fun x hx => by
        rcases List.mem_append.mp hx with hx | hx
        · obtain ⟨o, g1, g2⟩ := ol x hx
          exact ⟨o, (g1.keep t14 kk).updL hL2 (nl x hx), g2⟩
        · obtain ⟨e, w', rfl, h1, h2⟩ := pz x hx
          refine ⟨some (w', textD Dd), (Oth.part h1).updL hL2 (fun q => ?_), eqO_w (by omega)⟩
          injection q with q
          obtain ⟨da, ct, pt, sd, dt, stp, ak, h1⟩ := h1
          rw [q, hL2] at h1
          cases h1
      have nl15 : ∀ x ∈ ([.str (textD Dd), .non, .ref o1, .int (Dd.m : Nat), .ref o2, .ref o3] ++ zs : List V), x ≠ .ref L := fun x hx => by
        rcases List.mem_append.mp hx with hx | hx
        · exact nl x hx
        · obtain ⟨e, w', rfl, h1, h2⟩ := pz x hx
          intro q
          injection q with q
          obtain ⟨da, ct, pt, sd, dt, stp, ak, h1⟩ := h1
          rw [q, hL2] at h1
          cases h1
      have len15 : ([.str (textD Dd), .non, .ref o1, .int (Dd.m : Nat), .ref o2, .ref o3] ++ zs : List V).length ≤ 20 := by
        rw [List.length_append, lz]
        show 6 + _ ≤ 20
        omega
      have hL15 : (upd H' L (.lst ([.str (textD Dd), .non, .ref o1, .int (Dd.m : Nat), .ref o2, .ref o3] ++ zs))) L = some (.lst ([.str (textD Dd), .non, .ref o1, .int (Dd.m : Nat), .ref o2, .ref o3] ++ zs)) := upd_same
      have t15 : GxR.TabG (upd H' L (.lst ([.str (textD Dd), .non, .ref o1, .int (Dd.m : Nat), .ref o2, .ref o3] ++ zs))) TB := by
        obtain ⟨ps, q1, q2⟩ := tI
        exact ⟨ps, up _ _ LT.symm q1, q2⟩
      have kp : ∀ {x : Addr} {o : HO}, H14 x = some o → (∀ ps, o ≠ .tbl ps) → (∀ ys, o ≠ .lst ys) → (upd H' L (.lst ([.str (textD Dd), .non, .ref o1, .int (Dd.m : Nat), .ref o2, .ref o3] ++ zs))) x = some o := fun e n n2 => up _ _ (ne_of e hL (n2 _)) (kk _ _ (tab_ne t14 e n) e)
      have F15 : PartAt Pt (upd H' L (.lst ([.str (textD Dd), .non, .ref o1, .int (Dd.m : Nat), .ref o2, .ref o3] ++ zs))) a ((Dd.m : Nat) : Int) (textD Dd) := by
        obtain ⟨da, ct, pt, sd, dt, stp, ak, h1⟩ := F4.at_
        exact ⟨da, ct, pt, sd, dt, stp, ak, kp h1 (fun _ e => nomatch e) (fun _ e => nomatch e)⟩
      have hr0 := kp hr0 (fun _ e => nomatch e) (fun _ e => nomatch e)
      have htc := kp htc (fun _ e => nomatch e) (fun _ e => nomatch e)
      have ktup : TupK H14 (upd H' L (.lst ([.str (textD Dd), .non, .ref o1, .int (Dd.m : Nat), .ref o2, .ref o3] ++ zs))) := fun x zs e => kp e (fun _ e => nomatch e) (fun _ e => nomatch e)
      have hC := PrV.mono hC ktup
      have htp := ktup _ _ htp
      have htd := ktup _ _ htd
      have hDo := DoV.mono hDo ktup
      have Lb : L ≠ b := nLb
      have hb15 := up _ _ Lb.symm (kk _ _ bT hb14)
      have kx15 : KeepX TB b H (upd H' L (.lst ([.str (textD Dd), .non, .ref o1, .int (Dd.m : Nat), .ref o2, .ref o3] ++ zs))) := fun x o n1 n2 e => up _ _ (nLx x o e) (kk _ _ n1 (kx14 x o n1 n2 e))
      clear kp ktup up ol nl hL2 hL pz lz hM tI kk
      generalize ([.str (textD Dd), .non, .ref o1, .int (Dd.m : Nat), .ref o2, .ref o3] ++ zs : List V) = os at ol15 nl15 len15 hL15 t15 F15 hr0 htc hC htp htd hDo hb15 kx15 ⊢
      generalize (upd H' L (.lst os)) = H15 at ol15 hL15 t15 F15 hr0 htc hC htp htd hDo hb15 kx15 ⊢
      -- the end: none of them is equal
      have fin : ∀ (H16 : Hp) (os : List V) (s8 s9 s10 : Option V), OthL Pt H16 ((Dd.m : Nat) : Int) (textD Dd) os → os.length ≤ 30 → H16 L = some (.lst os) → GxR.TabG H16 TB → PartAt Pt H16 a ((Dd.m : Nat) : Int) (textD Dd) → H16 b = some (.lst (bx p2 q n2)) → KeepX TB b H H16 →
          tNotV (tCB (rAny K) (tCons (tLc (iList K (tVar 7)) (gName 13) tYes (tCall (spPEq K Pt) [] E0 (tCons (tVar 4) (tCons (tVar 13) tNil))) [13]) tNil)) [some (.ref b), some (.int (Dd.m : Nat)), some (.ref r), some (.str (textD Dd)), some (.ref a), some (.ref a2), some (.ref du), some (.ref L), s8, s9, s10, none, none, none] H16 Q := by
        intro H16 os s8 s9 s10 ol lo hL t16 F16 hb16 kx16
        try dsimp only [tNotV, tCB, tCons, tNil, tLc, iList]
        refine (val_var rfl) _ ⟨L, rfl, ⟨_, SqL.of hL⟩, fun M nM => ?_⟩
        have LM : L ≠ M := ne_of_none hL nM
        refine lc_list (K := K) (a := L) (xs := os) (fun i H' => Same H16 H' ∧ H' M = some (.lst ((List.replicate i false).map V.bl))) ⟨same_upd nM, upd_same⟩ (fun i H' _ h => SqL.of (h.1 _ _ hL)) (fun i x H' hx h => ?_) fun H' h => ?_
        · obtain ⟨sI, hM⟩ := h
          refine ⟨rfl, ?_⟩
          try dsimp only [tYes]
          rw [if_pos rfl]
          try dsimp only [tCall, tCons, tNil]
          obtain ⟨o, g1, g2⟩ := ol x (List.mem_of_getElem? hx)
          have hi := (List.getElem?_eq_some_iff.mp hx).1
          have kI : KeepTB TB H16 H' := fun x o _ e => sI _ _ e
          refine (val_var rfl) _ ((val_var rfl) _ ⟨a, x, ((Dd.m : Nat) : Int), textD Dd, o, rfl, F16.keep t16 kI, (g1.keep t16 kI).at_, ?_⟩)
          rw [g2]
          refine ⟨_, hM, by rw [List.length_map, List.length_replicate]; exact Nat.lt_of_le_of_lt (show i ≤ 30 by omega) (by decide), fun x o e => ?_, ?_⟩
          · rw [upd_ne (ne_of_none e nM)]
            exact sI _ _ e
          · rw [upd_same, List.replicate_succ', List.map_append]
            rfl
        · obtain ⟨sI, hM⟩ := h
          refine ⟨M, List.replicate os.length false, rfl, SqL.of hM, _, rfl, ?_⟩
          rw [show (List.replicate os.length false).any id = false by
            rw [List.any_eq_false]
            intro x hx
            rw [(List.mem_replicate.mp hx).2]
            exact fun e => nomatch e]
          exact k H' p2 n2 (fun x o n1 n2 e => sI _ _ (kx16 x o n1 n2 e)) (TabG.keep t16 sI) (sI _ _ hb16) (by assumption) (by omega)
      try dsimp only [tSeq, tIfS]
      refine (ne_cells ok.pa (val_pc rfl hr0) htc hC) _ fun H16 s16 => ?_
      have hL16 := s16 _ _ hL15
      have ol16 := ol15.keep t15 (fun x o _ e => s16 _ _ e)
      have F16 := F15.keep t15 (fun x o _ e => s16 _ _ e)
      have t16 := TabG.keep t15 s16
      have hb16 := s16 _ _ hb15
      have kx16 : KeepX TB b H H16 := fun x o n1 n2 e => s16 _ _ (kx15 x o n1 n2 e)
      refine ite2 (fun en => ?_) fun en => ?_
      · have cne : Dd.cs ≠ [] := fun z => by
          rw [z] at en
          exact absurd en (by decide)
        have hr0 := s16 _ _ hr0
        have htc := s16 _ _ htc
        have hC := hC.mono (Same.tup s16)
        have htp := s16 _ _ htp
        have htd := s16 _ _ htd
        have hDo := DoV.mono hDo (Same.tup s16)
        obtain ⟨q0, cr, ec⟩ := List.exists_cons_of_ne_nil cne
        have hC' := hC
        rw [ec] at hC'
        obtain ⟨xr, p0, rfl, h0, hCr⟩ : ∃ xr p0, xs = .ref p0 :: xr ∧ H16 p0 = some (.tup [.str q0.1, .int (q0.2 : Nat)]) ∧ PrV H16 xr cr := by
          cases hC' with
          | cons e t =>
            obtain ⟨p0, rfl, h0⟩ := e
            exact ⟨_, p0, rfl, h0, t⟩
        have c3 := ok.c3
        have lxr : xr.length ≤ 2 := by
          have e1 : xr.length = cr.length := Paired.length hCr
          rw [ec, List.length_cons] at c3
          omega
        try dsimp only [tSeq, tAsg]
        refine (val_ixT (i := 0) (val_pc rfl hr0) htc rfl) _ ?_
        refine ⟨p0, _, rfl, SqT.of h0, rfl, _, _, rfl, _, _, rfl, rfl, ?_⟩
        try dsimp only [gName]
        try dsimp only [tSeq, tAsg]
        refine fun rr nrr => ?_
        have s17 := same_upd (o := .dK []) nrr
        have hrr : (upd H16 rr (.dK [])) rr = some (.dK []) := upd_same
        generalize (upd H16 rr (.dK [])) = H17 at s17 hrr
        try dsimp only [tPairs, tOp, tTup, tCons, tNil]
        have mp : (0 : Int) < ((Dd.m : Nat) : Int) := by omega
        have em : ((q0.2 : Nat) : Int) + 1 = ((q0.2 + 1 : Nat) : Int) := by omega
        refine val_c _ ((val_var rfl) _ ?_)
        refine (val_iC (C := fun _ j => 0 < j) (val_toInt (val_i0 (val_var rfl) val_c)) (val_var rfl) mp) _ ?_
        have em2 : (((q0.2 : Nat) : Int) + 1) % ((Dd.m : Nat) : Int) = (((q0.2 + 1) % Dd.m : Nat) : Int) := by
          rw [em]
          rfl
        rw [em2]
        refine ⟨by show 2 ≤ sizeLine; decide, fun y1 ny1 => ?_⟩
        have s18 := same_upd (o := .tup [.str q0.1, .int (((q0.2 + 1) % Dd.m : Nat) : Int)]) ny1
        have hy1 : (upd H17 y1 (.tup [.str q0.1, .int (((q0.2 + 1) % Dd.m : Nat) : Int)])) y1 = some (.tup [.str q0.1, .int (((q0.2 + 1) % Dd.m : Nat) : Int)]) := upd_same
        generalize (upd H17 y1 (.tup [.str q0.1, .int (((q0.2 + 1) % Dd.m : Nat) : Int)])) = H18 at s18 hy1
        refine ⟨by show 1 ≤ sizeLine; decide, fun y2 ny2 => ?_⟩
        have s19 := same_upd (o := .tup [.ref y1]) ny2
        have hy2 : (upd H18 y2 (.tup [.ref y1])) y2 = some (.tup [.ref y1]) := upd_same
        generalize (upd H18 y2 (.tup [.ref y1])) = H19 at s19 hy2
        have s1619 : Same H16 H19 := s17.trans (s18.trans s19)
        try dsimp only [L2.tSl, tPart, tNoPart]
        refine (val_pc rfl (s1619 _ _ hr0)) _ (val_c _ ⟨1, rfl, tc, _, rfl, SqT.of (s1619 _ _ htc), ?_, fun y3 ny3 => ?_⟩)
        · rw [show HT.sIx (V.ref p0 :: xr).length 0 (some 1) = min 1 (V.ref p0 :: xr).length from HT.sIx_nat _ 0 1]
          intro z
          have := z.1
          rw [List.length_cons] at this
          omega
        rw [cut1]
        have s20 := same_upd (o := .tup xr) ny3
        have hy3 : (upd H19 y3 (.tup (List.drop 1 (V.ref p0 :: xr)))) y3 = some (.tup xr) := upd_same
        have s20' : Same H19 (upd H19 y3 (.tup (List.drop 1 (V.ref p0 :: xr)))) := same_upd ny3
        generalize (upd H19 y3 (.tup (List.drop 1 (V.ref p0 :: xr)))) = H20 at s20' hy3
        refine catA_run (s20' _ _ hy2) hy3 (fun e => nomatch e) (by show 1 + _ ≤ 1000; omega) fun H21 y4 s21 hy4 => ?_
        have s1721 : Same H17 H21 := s18.trans (s19.trans (s20'.trans s21))
        refine ⟨s1721 _ _ hrr, [((.inr "cells" : Key), .ref y4)], rfl, Nat.le_of_ble_eq_true rfl, ?_⟩
        have hrr21 := s1721 _ _ hrr
        have nrr : ∀ {x : Addr} {o : HO}, H16 x = some o → x ≠ rr := fun e => ne_of_none e nrr
        have s22 : ∀ x o, x ≠ rr → H21 x = some o → (upd H21 rr (.dK (mergeK [] [((.inr "cells" : Key), .ref y4)]))) x = some o := fun x o n e => by
          rw [upd_ne n]
          exact e
        have h22 : (upd H21 rr (.dK (mergeK [] [((.inr "cells" : Key), .ref y4)]))) rr = some (.dK [((.inr "cells" : Key), .ref y4)]) := upd_same
        have kt : TupK H21 (upd H21 rr (.dK (mergeK [] [((.inr "cells" : Key), .ref y4)]))) := fun x zs e => s22 _ _ (ne_of e hrr21 fun e => nomatch e) e
        generalize (upd H21 rr (.dK (mergeK [] [((.inr "cells" : Key), .ref y4)]))) = H22 at s22 h22 kt
        have s1622 : Same H16 H22 := fun x o e => s22 _ _ (nrr e) (s1721 _ _ (s17 _ _ e))
        have hy4 := kt _ _ hy4
        have hy1 := kt _ _ (s21 _ _ (s20' _ _ (s19 _ _ hy1)))
        have hL22 := s1622 _ _ hL16
        have t22 := TabG.keep t16 s1622
        have k22 : KeepTB TB H16 H22 := fun x o _ e => s1622 _ _ e
        have ol22 := ol16.keep t16 k22
        have F22 := F16.keep t16 k22
        have hb22 := s1622 _ _ hb16
        have kx22 : KeepX TB b H H22 := fun x o n1 n2 e => s1622 _ _ (kx16 x o n1 n2 e)
        have hr22 := s1622 _ _ hr0
        have htp22 := s1622 _ _ htp
        have htd22 := s1622 _ _ htd
        have hCr22 := hCr.mono (Same.tup s1622)
        have hDo22 := DoV.mono hDo (Same.tup s1622)
        have nLp : ∀ w, PartAt Pt H22 L w (textD Dd) → False := fun w h => by
          obtain ⟨da, ct, pt, sd, dt, stp, ak, h⟩ := h
          rw [hL22] at h
          cases h
        clear s22 s1622 kt s1721 s21 s20' s19 s18 s17 s1619 k22 hr0 htp htd hCr hDo hL16 t16 ol16 F16 hb16 kx16 hC hC' htc
        try dsimp only [gName]
        try dsimp only [tDrop]
        refine bm_run (x := .ref L) (val_var rfl) (.inl ⟨rfl, _, SqL.of hL22⟩) ?_
        refine mk_part (w := ((Dd.m : Nat) : Int)) (D := nextD Dd) (next_ok ok).pa (Int.le_refl _) w2 w4 t22 (val_var rfl) (fun R hR => ?_) fun H23 o4 k23 t23 F23 => ?_
        · try dsimp only [tCall, tCB, tOp, tCons, tNil, LiI.tListItems]
          refine (val_var rfl) _ ⟨r, _, rfl, hr22, fun Ha pa tsa ka npa nta pna hpa pra => ?_⟩
          refine (val_var rfl) _ ⟨rr, _, rfl, ka _ _ h22, fun Hb pb tsb kb npb ntb pnb hpb prb => ?_⟩
          have la : tsa.length = 3 := Paired.length pra
          have lb : tsb.length = 1 := Paired.length prb
          refine ⟨pa, pb, _, _, rfl, rfl, kb _ _ hpa, hpb, by rw [List.length_map, List.length_map, la, lb]; decide, fun l nl => ?_⟩
          have sl := same_upd (o := .lst (tsa.map V.ref ++ tsb.map V.ref)) nl
          have hl : (upd Hb l (.lst (tsa.map V.ref ++ tsb.map V.ref))) l = some (.lst ((tsa ++ tsb).map V.ref)) := by rw [upd_same, List.map_append]
          generalize (upd Hb l (.lst (tsa.map V.ref ++ tsb.map V.ref))) = Hc at sl hl
          have paB : Paired (fun p (kv : Key × V) => SqT K Hc p [kV kv.1, kv.2]) (tsa ++ tsb) (plK tc tp td ++ [((.inr "cells" : Key), .ref y4)]) := by
            have g1 : Paired (fun p (kv : Key × V) => SqT K Hc p [kV kv.1, kv.2]) tsa (plK tc tp td) := paired_imp (fun x q e => SqT.of (sl _ _ (kb _ _ e))) pra
            have g2 : Paired (fun p (kv : Key × V) => SqT K Hc p [kV kv.1, kv.2]) tsb [((.inr "cells" : Key), .ref y4)] := paired_imp (fun x q e => SqT.of (sl _ _ e)) prb
            exact paired_app g1 g2
          refine ⟨l, tsa ++ tsb, _, rfl, SqL.of hl, paB, fun d nd => ?_⟩
          rw [merge_pl]
          have sd := same_upd (o := .dK (plK y4 tp td)) nd
          have hd : (upd Hc d (.dK (plK y4 tp td))) d = some (.dK (plK y4 tp td)) := upd_same
          generalize (upd Hc d (.dK (plK y4 tp td))) = Hd at sd hd
          have sE : Same H22 Hd := fun x o e => sd _ _ (sl _ _ (kb _ _ (ka _ _ e)))
          refine ⟨d, nextD Dd, rfl, ⟨y4, tp, td, .ref y1 :: xr, ys, hd, sE _ _ hy4, ?_, sE _ _ htp22, sE _ _ htd22, DoV.mono hDo22 (Same.tup sE)⟩, next_ok ok, fun H' s' => hR _ (sE.trans s')⟩
          show PrV Hd _ (nextC Dd.m Dd.cs)
          rw [ec]
          exact .cons ⟨y1, rfl, sE _ _ hy1⟩ (hCr22.mono (Same.tup sE))
        · have hL23 := k23 _ _ (tab_ne t22 hL22 fun _ e => nomatch e) hL22
          have ol23 := ol22.keep t22 k23
          have F23' := F22.keep t22 k23
          refine ⟨L, os, .ref o4, rfl, rfl, hL23, small1000 (by omega), ?_⟩
          have up : ∀ x o, x ≠ L → H23 x = some o → (upd H23 L (.lst (os ++ [.ref o4]))) x = some o := fun x o n e => by
            rw [upd_ne n]
            exact e
          have n4 : V.ref o4 ≠ V.ref L := fun q => by
            injection q with q
            obtain ⟨da, ct, pt, sd, dt, stp, ak, h⟩ := F23.at_
            rw [q, hL23] at h
            cases h
          have olA : OthL Pt (upd H23 L (.lst (os ++ [.ref o4]))) ((Dd.m : Nat) : Int) (textD Dd) (os ++ [.ref o4]) := fun x hx => by
            rcases List.mem_append.mp hx with hx | hx
            · obtain ⟨o, g1, g2⟩ := ol23 x hx
              exact ⟨o, g1.updL hL23 (nl15 x hx), g2⟩
            · rw [List.mem_singleton.mp hx]
              exact ⟨_, (Oth.part F23.at_).updL hL23 n4, eqO_z (fun e => next_ne ok cne e.symm)⟩
          refine fin _ (os ++ [.ref o4]) _ _ _ olA (by rw [List.length_append]; show _ + 1 ≤ 30; omega) upd_same ?_ ?_ (up _ _ Lb.symm (k23 _ _ bT hb22)) fun x o n1 n2 e => up _ _ (nLx x o e) (k23 _ _ n1 (kx22 x o n1 n2 e))
          · obtain ⟨ps, q1, q2⟩ := t23
            exact ⟨ps, up _ _ LT.symm q1, q2⟩
          · obtain ⟨da, ct, pt, sd, dt, stp, ak, h⟩ := F23'
            exact ⟨da, ct, pt, sd, dt, stp, ak, up _ _ (ne_of h hL23 fun e => nomatch e) h⟩
      · try dsimp only [tNext, tRet]
        exact fin H16 os _ _ _ ol16 (by omega) hL16 t16 F16 hb16 kx16
end
end K5
namespace K5
open PySem PySem.Spec PyProof.Rows L2
/-! ### the law's call, where the caller shows nothing -/
/-- what is tracked at the call: empty tables, and the script unless the text has written it -/
def atCall (K : PySem.W.Frag) (ts : List Addr) (a : Addr) (ob : Obj) (ns : List Int) : Hp := fun b =>
  if b ∈ ts then some (.tbl #[]) else if b = a ∧ K.lookup a = none then some (.frz ob (.lst (ns.map V.int))) else none
section
variable {K : PySem.W.Frag} {ts : List Addr} {a b : Addr} {ob : Obj} {ns : List Int}
theorem atCall_tab (h : b ∈ ts) : atCall K ts a ob ns b = some (.tbl #[]) := if_pos h
theorem atCall_arg (h : a ∉ ts) (free : K.lookup a = none) : atCall K ts a ob ns a = some (.frz ob (.lst (ns.map V.int))) := (if_neg h).trans (if_pos ⟨rfl, free⟩)
theorem atCall_not (h : b ∉ ts) (n : ¬ (b = a ∧ K.lookup a = none)) : atCall K ts a ob ns b = none := (if_neg h).trans (if_neg n)
theorem atCall_cases (K : PySem.W.Frag) (ts : List Addr) (a b : Addr) (ob : Obj) (ns : List Int) : atCall K ts a ob ns b = none ∨ (b ∈ ts ∧ atCall K ts a ob ns b = some (.tbl #[])) ∨ (b ∉ ts ∧ b = a ∧ K.lookup a = none ∧ atCall K ts a ob ns b = some (.frz ob (.lst (ns.map V.int)))) := by
  by_cases h : b ∈ ts
  · exact .inr (.inl ⟨h, atCall_tab h⟩)
  · by_cases n : b = a ∧ K.lookup a = none
    · exact .inr (.inr ⟨h, n.1, n.2, (if_neg h).trans (if_pos n)⟩)
    · exact .inl (atCall_not h n)
end
theorem law_G {P : Program} {w : World} {K : PySem.W.Frag} {mg mb : Str → Option Value} {cx : CXT} {lv : Nat} {fa a : Addr} {cs : List (Addr × Addr)} {rec : FuncData} {x : Str} {pr : Sp} {st : Shared} {us : List Value} {ns : List Int}
    (inK : K.In st.heap) (gl : st.heap.Ns mainGlobals mg) (bl : st.heap.Ns builtinsNs mb) (std : ∀ y : Str, y ≠ "__name__" → mb y = bootBuiltins y) (nol : st.heap.NoLimit) (noGens : st.gens = #[])
    (tabs : ∀ p ∈ cs, st.heap.get? p.2 = some { cls := .none, data := .fields #[] }) (outK : ∀ p ∈ cs, K.lookup p.2 = none) (codes : ∀ p ∈ cs, PySem.W.CodeHd st.heap p.1 p.2)
    (bmod : ∃ (bm : Addr) (o : Obj), mg "__builtins__" = some (.ref bm) ∧ bm ≠ builtinsNs ∧ st.heap.get? bm = some o ∧ o.cls = .type "module" ∧ o.dict = some builtinsNs ∧ o.data = .plain)
    (arg : st.heap.get? a = some { cls := .type "list", data := .seq us.toArray }) (wholes : IntsAre us ns) (few : ns.length ≤ sizeLine) (room : Room lv callerA)
    (F : ∀ base : Heap, K.In base → base.Ns mainGlobals mg → (∀ p ∈ cs, GxR.TabB base mg p.1 p.2) → FnG P w K mg base cx lv fa rec [x] pr) (binds : ∀ (s : Shared) (u : Value), BindsTo s rec ⟨[u], []⟩ [(x, u)])
    (goes : ∀ H : Hp, (∀ p ∈ cs, H p.2 = some (.tbl #[])) → SqL K H a (ns.map V.int) → pr [.ref a] H (fun v _ => v = .bl true) fun _ _ _ => False)
    (quiet : ∀ H e s2, cx [] H st (fun _ _ _ => False) e s2 → False) :
    codeAny (model P w) callerA (.call (.ref fa) ⟨[.ref a], []⟩) (fun r s2 => r = .ok (.ret (.bool true)) ∧ OldK st.heap s2.heap ∧ s2.os = st.os ∧ AllBare s2.gens) st := by
  generalize hts : cs.map (·.2) = ts
  have inTs : ∀ p ∈ cs, p.2 ∈ ts := fun p hp => hts ▸ List.mem_map.mpr ⟨p, hp, rfl⟩
  have ofTs : ∀ b ∈ ts, ∃ p ∈ cs, p.2 = b := fun b hb => List.mem_map.mp (hts ▸ hb)
  have tabAt : ∀ b ∈ ts, st.heap.get? b = some { cls := .none, data := .fields #[] } := fun b hb => by
    obtain ⟨p, hp, rfl⟩ := ofTs b hb
    exact tabs p hp
  generalize hob : ({ cls := .type "list", data := .seq us.toArray } : Obj) = ob at arg
  have obD : ∃ m, ob.data = .seq us.toArray m := hob ▸ ⟨_, rfl⟩
  have argOut : a ∉ ts := fun z => by
    have q := tabAt a z
    rw [arg] at q
    obtain ⟨m, d⟩ := obD
    rw [Option.some.inj q] at d
    cases d
  have rel := vals_ints wholes
  have size : us.toArray.size ≤ sizeLine := by
    rw [List.size_toArray, wholes.length]
    exact few
  let H : Hp := atCall K ts a ob ns
  -- neither a table nor a list: it is not tracked
  have loose : ∀ {b : Addr} {o : Obj}, st.heap.get? b = some o → (∀ vs m, o.data ≠ .seq vs m) → o.data ≠ .fields #[] → H b = none := by
    intro b o e n1 n2
    rcases atCall_cases K ts a b ob ns with q | ⟨q, _⟩ | ⟨_, q, _, _⟩
    · exact q
    · rw [tabAt b q] at e
      cases e
      exact absurd rfl n2
    · rw [q, arg] at e
      cases e
      obtain ⟨m, d⟩ := obD
      exact absurd d (n1 _ _)
  have dictLoose : ∀ {b : Addr} {o : Obj} {es : Array DictEntry} {ep : Nat}, st.heap.get? b = some o → o.data = .dict es ep → H b = none := by
    intro b o es ep e d
    exact loose e (fun vs m z => by rw [d] at z; cases z) fun z => by rw [d] at z; cases z
  have names : ∀ {b : Addr} {m : Str → Option Value}, st.heap.Ns b m → (hidT st.heap H).Ns b m := by
    rintro b m ⟨o, es, ep, e, d, r⟩
    exact ⟨o, es, ep, hidT_get e (dictLoose e d), d, r⟩
  have inB : K.In (hidT st.heap H) := by
    intro b o e
    refine hidT_get (inK b o e) ?_
    rcases atCall_cases K ts a b ob ns with q | ⟨q, _⟩ | ⟨_, q, free, _⟩
    · exact q
    · obtain ⟨p, hp, rfl⟩ := ofTs b q
      rw [outK p hp] at e
      cases e
    · rw [q, free] at e
      cases e
  have notG : ∀ b ∈ ts, mainGlobals ≠ b := fun b hb z => by
    obtain ⟨o, es, ep, e, d, _⟩ := gl
    rw [z, tabAt b hb] at e
    cases e
    cases d
  have tb : ∀ p ∈ cs, GxR.TabB (hidT st.heap H) mg p.1 p.2 := by
    intro p hp
    constructor
    · obtain ⟨o, vs, r1, r2, r3, r4, r5, r6, r7, e, k1, k2, k3⟩ := codes p hp
      refine ⟨o, vs, r1, r2, r3, r4, r5, r6, r7, hidT_get e (loose e (fun us m z => ?_) fun z => ?_), k1, k2, k3⟩
      · rw [k2] at z
        cases z
      · rw [k2] at z
        cases z
        simp at k3
    · obtain ⟨bm, o, y1, y2, y3, y4, y5, y6⟩ := bmod
      refine ⟨bm, o, y1, y2, fun z => ?_, fun z => ?_, hidT_get y3 (loose y3 (fun us m z => ?_) fun z => ?_), y4, y5, y6⟩
      · obtain ⟨g, es, ep, e, d, _⟩ := gl
        rw [← z, y3] at e
        cases e
        rw [y6] at d
        cases d
      · rw [z, tabs p hp] at y3
        cases y3
        cases y6
      · rw [y6] at z
        cases z
      · rw [y6] at z
        cases z
    · exact notG _ (inTs p hp)
  have held : HOk P w H st.heap := by
    intro b u z
    rcases atCall_cases K ts a b ob ns with q | ⟨q, q2⟩ | ⟨_, q, _, q2⟩
    · rw [show H b = none from q] at z
      cases z
    · rw [show H b = _ from q2] at z
      cases z
      exact tabAt b q
    · rw [show H b = _ from q2] at z
      cases z
      rw [q]
      exact ⟨arg, by rw [List.length_map]; exact few, us, _, rel, arg.trans (congrArg some hob.symm)⟩
  have script : SqL K H a (ns.map V.int) := by
    cases lk : K.lookup a with
    | none => exact .inl (.inr ⟨ob, atCall_arg argOut lk⟩)
    | some o =>
      have e := inK a o lk
      rw [arg] at e
      cases e
      obtain ⟨m, d⟩ := obD
      refine .inr ⟨ob, us.toArray, m, lk, ?_, ?_, d, size, by simpa using rel⟩ <;> rw [← hob]
  have nolB : (hidT st.heap H).NoLimit := by
    obtain ⟨mc, z1, z2⟩ := nol
    exact ⟨mc, names z1, z2⟩
  have e0 : Env0 P w K mg (hidT st.heap H) callerA [] st H :=
    { frames := rfl, mod := ⟨inB, names gl, ⟨mb, names bl, std⟩, nolB⟩, bs := fun b o e => of_hidT e, bsz := Nat.le_of_eq (hidT_size _ _), funs := trivial, frf := fun b hb => (nomatch hb), hok := held, bare := .of_eq noGens }
  have runs := (F _ inB (names gl) tb).does callerA [] st H ⟨[.ref a], []⟩ [.ref a] [.ref a] (fun v _ => v = .bl true) (fun _ _ _ => False) rfl room e0 (binds st (.ref a)) (.cons rfl .nil) (goes H (fun p hp => atCall_tab (inTs p hp)) script)
  refine codeAny_mono runs ?_
  intro r s2 h
  match r, h with
  | .error e, h => exact (quiet H e s2 h).elim
  | .ok .next, h => exact h.elim
  | .ok .brk, h => exact h.elim
  | .ok .cont, h => exact h.elim
  | .ok (.ret u), ⟨v, H2, sameOs, bare, un, held2, ru, q⟩ =>
    have q : v = V.bl true := q
    subst q
    have ru : u = Value.bool true := ru
    subst ru
    have grown : ∀ p ∈ cs, ∃ more : Array Value, s2.heap.get? p.2 = some { cls := .none, data := .fields more } := fun p hp => by
      obtain ⟨more, z⟩ := un.tbls p.2 #[] (atCall_tab (inTs p hp))
      exact ⟨_, held2 p.2 _ z⟩
    have kept : ∀ b o, b ∉ ts → st.heap.get? b = some o → s2.heap.get? b = some o := by
      intro b o nb e
      rcases atCall_cases K ts a b ob ns with z | ⟨z, _⟩ | ⟨_, z, _, z2⟩
      · exact un.keep b o e z (fun c => (nomatch c)) fun c => (nomatch c)
      · exact absurd z nb
      · obtain ⟨g, _⟩ := held2 b _ (un.frzs b ob _ z2)
        rw [z, arg] at e
        cases e
        exact g
    refine ⟨rfl, ⟨fun b o e => ?_, fun b o e => ?_⟩, sameOs, bare⟩ <;> by_cases hb : b ∈ ts
    · obtain ⟨p, hp, rfl⟩ := ofTs b hb
      obtain ⟨more, hm⟩ := grown p hp
      rw [tabs p hp] at e
      cases e
      refine .inr (.inl ⟨((codes p hp).tab (tabs p hp)).isCodeTable, rfl, #[], more, rfl, ?_⟩)
      rw [hm, Array.empty_append]
    · exact .inl (kept b o hb e)
    · obtain ⟨p, hp, rfl⟩ := ofTs b hb
      obtain ⟨more, hm⟩ := grown p hp
      exact ⟨_, hm⟩
    · exact ⟨o, kept b o hb e⟩
end K5
namespace K5
open PySem PySem.Spec PyProof.Rows L2
theorem sq_keep {K : PySem.W.Frag} {H H' : Hp} {a : Addr} {xs : List V} (h : SqL K H a xs) (k : ∀ o, H a = some o → H' a = some o) : SqL K H' a xs := by
  rcases h with (h | ⟨o, h⟩) | h
  · exact .inl (.inl (k _ h))
  · exact .inl (.inr ⟨o, k _ h⟩)
  · exact .inr h
abbrev s_law : Stmt := topS 41
theorem sc_law : FnScope ["_law_script", "_law_k", "_law_box_here", "_law_turn"] ["_law_script"] (defScope s_law) := ⟨rfl, rfl, rfl, by decide +kernel, rfl, by decide +kernel, by decide +kernel⟩
def spLaw (K : PySem.W.Frag) (TB : Addr) : Sp := fun vs H Q _ => ∃ (a : Addr) (ns : List Int), vs = [.ref a] ∧ SqL K H a (ns.map V.int) ∧ GxR.TabG H TB ∧ a ≠ TB ∧ ∀ H', Q (.bl true) H'
section
variable {P : Program} {w : World} {K : PySem.W.Frag} {mg : Str → Option Value} {base : Heap} {TB : Addr}
theorem ok_law {f fB fR : Addr} {fd dB dR : FuncData} (B : Bt mg) (m_all : mg "all" = none) (DB : Df K mg "_law_box" s__law_box fB dB ["_law_script", "_law_k"]) (GB : FnOk P w K mg base CX0 1 fB dB ["_law_script", "_law_k"] (spBox K))
    (DR : Df K mg "_law_right" s__law_right fR dR ["_law_box_here"]) (GR : FnG P w K mg base (L2.CX P w) 25 fR dR ["_law_box_here"] (spRight TB)) (F : Fun K "law" "law" s_law f fd) : FnG P w K mg base (L2.CX P w) 27 f fd ["_law_script"] (spLaw K TB) := by
  refine okG F sc_law (fun vs H Q E h => ?_) (fun cdv A outer s H vs Q E gu hr h => ?_)
  · obtain ⟨a, ns, rfl, _⟩ := h
    rfl
  · obtain ⟨a, ns, rfl, hS, tab, aT, k⟩ := h
    have S := sc_law
    refine ⟨_, (pss_cons (ps_for (passes_of rfl) rfl (pi_range1 (by rfl) B.m_range (pa_cons (pe_callB (call_max2 rfl) (by rfl) B.m_max (by decide +kernel) (pa_cons pe_int (pa_cons (pe_callB (call_min2 rfl) (by rfl) B.m_min (by decide +kernel) (pa_cons pe_int (pa_cons (pe_callB call_len_seq (by rfl) B.m_len PySem.boot_len (pa_cons (pv 0) pa_nil)) pa_nil))) pa_nil))) pa_nil)) (pg_name (i := 1) S.nd rfl (.inl rfl))
        (pss_cons (ps_set (i := 2) S.nd rfl (.inr rfl) (pe_call GB (hr.mono (by decide)) (by rfl) DB.g DB.F.kp DB.b .nil pass0 (pa_cons (pv 0) (pa_cons (pv 1) pa_nil))))
        (pss_one (ps_if (pt_not (pt_val (pe_callB (cr_all rfl) (by rfl) m_all (by decide +kernel) (pa_cons (pe_lc (own := [("_law_turn", 3)]) (g := gName 3) (tt := tYes) rfl S.nd (pi_range1 (by rfl) B.m_range (pa_cons pe_int pa_nil)) (blkOk_by (own := [("_law_turn", 3)]) (N := ["_law_script", "_law_k", "_law_box_here", "_law_turn"]) (sc := defScope s_law) (by decide +kernel)) (fun _ _ _ _ _ => pg_name (i := 3) S.nd rfl (Or.inl rfl)) (fun _ _ _ _ _ => pts_nil) (fun _ _ _ _ _ => pe_callG GR gu (hr.mono (by decide)) (by rfl) DR.g DR.F.kp DR.b passL (pa_cons (pv 2) pa_nil))) pa_nil))))
          (pss_one (ps_ret pe_bl))
          pss_nil))))
      (pss_one (ps_ret pe_bl))), ?_⟩
    dsimp only [tSeq, tFor, iRng1, tCB, tCons, tNil]
    refine val_c _ ?_
    refine val_c _ ?_
    refine (val_var rfl) _ ?_
    refine ⟨a, _, rfl, .inl hS, ?_⟩
    refine ⟨3, _, rfl, ?_⟩
    refine ⟨1, _, rfl, ?_⟩
    generalize hj : (if (if (((ns.map V.int).length : Nat) : Int) < 3 then (((ns.map V.int).length : Nat) : Int) else 3) > 1 then (if (((ns.map V.int).length : Nat) : Int) < 3 then (((ns.map V.int).length : Nat) : Int) else 3) else 1) = j
    have j1 : 1 ≤ j ∧ j ≤ 3 := by
      rw [← hj]
      split <;> split <;> omega
    refine ⟨j, rfl, by omega, by omega, ?_⟩
    refine for_range (D := { nx := tRet (tC (.bl true)) { nx := fun _ G2 => Q .non G2, rt := Q }, rt := Q }) (g := gName 1) (tb := tSeq (tAsg (tCall (spBox K) [] E0 (tCons (tVar 0) (tCons (tVar 1) tNil))) (gName 2)) (tIfS (tNot (tB (tCB (rAll K) (tCons (tLc (iRng1 (tCons (tC (.int 6)) tNil)) (gName 3) tYes (tCall (spRight TB) [] E0 (tCons (tVar 2) tNil)) [3]) tNil)))) (tRet (tC (.bl false))) tNext)) (lo := 0) (n := j.toNat) (fun i σ' H' => (∃ v1 v2 v3, σ' = [some (.ref a), v1, v2, v3]) ∧ (∀ o, H a = some o → H' a = some o) ∧ GxR.TabG H' TB) ⟨⟨none, none, none, rfl⟩, fun o e => e, tab⟩ (fun i σ' H' hi h => ?_) fun σ' H' h => ?_
    · obtain ⟨⟨v1, v2, v3, rfl⟩, kS, tb⟩ := h
      try dsimp only [gName]
      try dsimp only [tSeq, tAsg]
      try dsimp only [tCall, tCons, tNil]
      refine (val_var rfl) _ ?_
      refine (val_var rfl) _ ?_
      refine ⟨a, ns, 0 + (i : Int), rfl, sq_keep hS kS, by omega, by omega, fun b p q nb Bx => ?_⟩
      have s1 := same_upd (o := .lst (bx p q 0)) nb
      have hb : (upd H' b (.lst (bx p q 0))) b = some (.lst (bx p q 0)) := upd_same
      have ab : ∀ o, H a = some o → a ≠ b := fun o e => ne_of_none (kS o e) nb
      generalize (upd H' b (.lst (bx p q 0))) = H1 at s1 hb
      have tb1 := TabG.keep tb s1
      have kS1 : ∀ o, H a = some o → H1 a = some o := fun o e => s1 _ _ (kS o e)
      try dsimp only [gName]
      try dsimp only [tIfS, tNot, tB, tCB, tCons, tNil, tLc, iRng1]
      refine val_c _ ⟨6, rfl, by decide, by decide, fun M nM => ?_⟩
      have bM : b ≠ M := ne_of_none hb nM
      have MT : M ≠ TB := fun e => by
        obtain ⟨ps, q1, _⟩ := tb1
        rw [e, q1] at nM
        cases nM
      refine lc_range (lo := 0) (n := (6 : Int).toNat) (fun t H2 => ∃ p' n' : Int, (∀ o, H a = some o → H2 a = some o) ∧ GxR.TabG H2 TB ∧ H2 b = some (.lst (bx p' q n')) ∧ Box p' q n' ∧ n' ≤ 1600 * t ∧ H2 M = some (.lst ((List.replicate t true).map V.bl))) ⟨p, 0, fun o e => same_upd nM _ _ (kS1 o e), TabG.keep tb1 (same_upd nM), same_upd nM _ _ hb, Bx, by omega, upd_same⟩ (fun t H2 ht hI => ?_) fun H2 hI => ?_
      · obtain ⟨p', n', kA, t2, hb2, B2, le2, hM⟩ := hI
        have ht6 : t < 6 := ht
        refine ⟨rfl, ?_⟩
        try dsimp only [tYes]
        rw [if_pos rfl]
        try dsimp only [tCall, tCons, tNil]
        refine (val_var rfl) _ ⟨b, p', q, n', rfl, hb2, B2, by omega, t2, fun H3 p3 n3 kx t3 hb3 B3 le3 => ?_⟩
        have hM3 := kx _ _ MT bM.symm hM
        have up : ∀ x o, x ≠ M → H3 x = some o → (upd H3 M (.lst ((List.replicate t true).map V.bl ++ [.bl true]))) x = some o := fun x o n e => by
          rw [upd_ne n]
          exact e
        refine ⟨_, hM3, by rw [List.length_map, List.length_replicate]; exact Nat.lt_of_le_of_lt (show t ≤ 6 by omega) (by decide), p3, n3, fun o e => up _ _ (ne_of_none (kS1 o e) nM) (kx _ _ aT (ab o e) (kA o e)), ?_, up _ _ bM hb3, B3, by omega, ?_⟩
        · obtain ⟨ps, q1, q2⟩ := t3
          exact ⟨ps, up _ _ MT.symm q1, q2⟩
        · rw [upd_same, List.replicate_succ', List.map_append]
          rfl
      · obtain ⟨p', n', kA, t2, hb2, B2, le2, hM⟩ := hI
        refine ⟨M, List.replicate 6 true, rfl, SqL.of hM, true, rfl, iteF ?_⟩
        exact ⟨⟨_, _, _, rfl⟩, kA, t2⟩
    · exact k H'
end
end K5
namespace K5
open PySem PySem.Spec PyProof.Rows L2
/-! ### the head's facts, by names -/
/-- a class of errors, as it is written -/
def oexB (K : PySem.W.Frag) (C : Addr) : Bool := match K.lookup C with
  | some ⟨.type t, _, .cls ⟨_, _, mro, _, _, hd, _, _, _, _, del⟩, sl⟩ => decide (t = "type") && (hd && (!del && ((match mro with
      | .ref c :: bm => decide (c = C) && PySem.HandSPX.refsVE bm
      | _ => false) && (match sl.toList with
      | [_, _, _, _, some (.builtin n), _] => decide (n = "ValueError.__new__")
      | _ => false))))
  | _ => false
theorem oexB_ok {K : PySem.W.Frag} {C : Addr} (h : oexB K C = true) : ∃ nm q N bs bm sn sub ab col dd k0 k1 k2 k3 k5, K.lookup C = some (excClassObj nm q C N bs bm true sn sub ab col dd k0 k1 k2 k3 k5 "ValueError.__new__") ∧ PySem.HandSPX.refsVE bm = true := by
  unfold oexB at h
  split at h
  · rename_i t dd nm bs mro N qn hd sn sub ab col del sl lk
    rw [Bool.and_eq_true, Bool.and_eq_true, Bool.and_eq_true, Bool.and_eq_true] at h
    obtain ⟨h1, h2, h3, h4, h5⟩ := h
    split at h4
    · rename_i c bm
      rw [Bool.and_eq_true] at h4
      split at h5
      · rename_i k0 k1 k2 k3 n k5 e
        have e1 : t = "type" := of_decide_eq_true h1
        have e2 : c = C := of_decide_eq_true h4.1
        have e3 : n = "ValueError.__new__" := of_decide_eq_true h5
        have e4 : hd = true := h2
        have e5 : del = false := by
          cases del
          · rfl
          · cases h3
        have e6 : sl = #[k0, k1, k2, k3, some (.builtin n), k5] := by
          rw [← Array.toList_inj, e]
        subst e1 e2 e3 e4 e5 e6
        exact ⟨nm, qn, N, bs, bm, sn, sub, ab, col, dd, k0, k1, k2, k3, k5, lk, h4.2⟩
      · cases h5
    · cases h4
  · cases h
/-- what else is asked of the classes of errors -/
def errL (K : PySem.W.Frag) (x : Str) : List Bool := [oexB K (He.ga K x), decide (PySem.W.findIn K (.ref (He.ga K x)) "__setattr__" = some (some (.builtin "object.__setattr__"))), decide (PySem.W.subIn K (.ref (He.ga K x)) (.type "BaseException") = some true), decide (PySem.W.typeIn K (.ref (He.ga K x)) = some (.type "type")), PySem.W.keepIn K (.ref (He.ga K x)),
  decide (PySem.W.findIn K (.ref (He.ga K x)) "__init__" = some (some (.ref (He.ma K (He.ga K "WireError") "__init__")))), decide (PySem.W.findIn K (.ref (He.ga K x)) "value" = some none)]
def exL (K : PySem.W.Frag) : List Bool := [(errL K "BadText").all id, (errL K "BadWorths").all id, decide (PySem.W.typeIn K (.ref (He.ma K (He.ga K "WireError") "__init__")) = some (.type "function")),
  decide (PySem.W.specialIn K (.builtin "object.__class__") "__get__" = some (some (.builtin "getset_descriptor.__get__"))), decide (PySem.W.takesIn K (.builtin "object.__class__") = some true),
  decide (PySem.W.kitOne K (.ref (He.ga K "BadText")) (.ref (He.ga K "BadText")) = some true), decide (PySem.W.kitOne K (.ref (He.ga K "BadText")) (.ref (He.ga K "BadWorths")) = some false), decide (PySem.W.kitOne K (.ref (He.ga K "BadWorths")) (.ref (He.ga K "BadText")) = some false), decide (PySem.W.kitOne K (.ref (He.ga K "BadWorths")) (.ref (He.ga K "BadWorths")) = some true),
  He.tupB K "BARRED_CELLS" [.str "it", .str "got", .str "lost", .str "busy"],
  decide (PySem.W.findIn K (.ref (He.ga K "Part")) "__class__" = some (some (.builtin "object.__class__"))), decide (PySem.W.mroIn K (He.ga K "Part") (.type "object") = some true), decide (PySem.W.findIn K (.ref (He.ga K "Part")) "__eq__" = some (some (.ref (He.fAd K ("Part", some "__eq__"))))), PySem.W.isFn K (.ref (He.fAd K ("Part", some "__eq__"))),
  decide (PySem.W.findIn K (.ref (He.ga K "Part")) "__ne__" = some (some (.builtin "object.__ne__"))), othT.all fun T => decide (PySem.W.kitOne K (.type T) (.ref (He.ga K "Part")) = some false) && PySem.W.notFirst K (He.ga K "Part") (.type T)]
def exB (K : PySem.W.Frag) : Bool := (exL K).all id
theorem all_at {l : List Bool} (h : l.all id = true) (i : Nat) {b : Bool} (e : l[i]? = some b) : b = true := List.all_eq_true.mp h b (List.mem_of_getElem? e)
def faL : List He.Fa := [
  (.glo "is_integer"),
  (.glo "is_worths"),
  (.glo "is_name"),
  (.glo "is_door"),
  (.glo "number"),
  (.glo "read_cells"),
  (.glo "read_ports"),
  (.glo "read_doors"),
  (.glo "_law_box"),
  (.glo "_law_take"),
  (.glo "_law_of"),
  (.glo "_law_some"),
  (.glo "_law_cond_text"),
  (.glo "_law_block_lines"),
  (.glo "_law_part_text"),
  (.glo "_law_sign"),
  (.glo "_law_test"),
  (.glo "_law_plain_one"),
  (.glo "_law_plain_block"),
  (.glo "_law_whole_part"),
  (.glo "_law_same"),
  (.glo "_law_right"),
  (.glo "law"),
  (.glo "WireError"),
  (.glo "BadText"),
  (.glo "BadWorths"),
  (.glo "Lines"),
  (.glo "Program"),
  (.glo "Part"),
  (.glo "BARRED_CELLS"),
  (.free "int"),
  (.free "len"),
  (.free "abs"),
  (.free "max"),
  (.free "min"),
  (.free "list"),
  (.free "str"),
  (.free "bool"),
  (.free "range"),
  (.free "isinstance"),
  (.free "tuple"),
  (.free "repr"),
  (.free "any"),
  (.free "all"),
  (.free "dict"),
  (.int "MOST_IN_BLOCK" 8),
  (.int "MOST_STATEMENTS" 24),
  (.int "DEEPEST" 3),
  (.int "MOST_CELLS" 3),
  (.int "MOST_PORTS" 2),
  (.int "MOST_DOORS" 3),
  (.cls "Lines"),
  (.mkr "Lines"),
  (.cls "Program"),
  (.mkr "Program"),
  (.cls "Part"),
  (.mkr "Part"),
  (.noat "Lines" "rows"),
  (.noat "Lines" "at"),
  (.noat "Program" "lines"),
  (.noat "Program" "worths"),
  (.noat "Program" "cells"),
  (.noat "Program" "ports"),
  (.noat "Program" "steps"),
  (.noat "Program" "asks"),
  (.noat "Program" "many"),
  (.noat "Part" "worths"),
  (.noat "Part" "text"),
  (.noat "Part" "cells"),
  (.noat "Part" "ports"),
  (.noat "Part" "starts"),
  (.noat "Part" "doors"),
  (.noat "Part" "steps"),
  (.noat "Part" "asks"),
  (.meth "Lines" "words"),
  (.meth "Lines" "begins"),
  (.meth "Lines" "step"),
  (.meth "Lines" "need"),
  (.meth "Lines" "need_end"),
  (.meth "Program" "read_door"),
  (.meth "Program" "read_block"),
  (.meth "Program" "read_statement"),
  (.meth "Program" "read_if"),
  (.meth "Program" "read_while"),
  (.meth "Program" "read_head"),
  (.meth "Program" "plain_step"),
  (.meth "Program" "ask_step"),
  (.meth "Program" "cell"),
  (.meth "Program" "source"),
  (.meth "Program" "condition")]
def d0 : He.DefD := ⟨("is_integer", none), "is_integer", "is_integer", defArgs s_is_integer, defBody s_is_integer, defScope s_is_integer, [], []⟩
def d1 : He.DefD := ⟨("is_worths", none), "is_worths", "is_worths", defArgs s_is_worths, defBody s_is_worths, defScope s_is_worths, [], []⟩
def d2 : He.DefD := ⟨("is_name", none), "is_name", "is_name", defArgs s_is_name, defBody s_is_name, defScope s_is_name, [], []⟩
def d3 : He.DefD := ⟨("is_door", none), "is_door", "is_door", defArgs s_is_door, defBody s_is_door, defScope s_is_door, [], []⟩
def d4 : He.DefD := ⟨("number", none), "number", "number", defArgs s_number, defBody s_number, defScope s_number, [], []⟩
def d5 : He.DefD := ⟨("read_cells", none), "read_cells", "read_cells", defArgs s_read_cells, defBody s_read_cells, defScope s_read_cells, [], []⟩
def d6 : He.DefD := ⟨("read_ports", none), "read_ports", "read_ports", defArgs s_read_ports, defBody s_read_ports, defScope s_read_ports, [], []⟩
def d7 : He.DefD := ⟨("read_doors", none), "read_doors", "read_doors", defArgs s_read_doors, defBody s_read_doors, defScope s_read_doors, [], []⟩
def d8 : He.DefD := ⟨("_law_box", none), "_law_box", "_law_box", defArgs s__law_box, defBody s__law_box, defScope s__law_box, [], []⟩
def d9 : He.DefD := ⟨("_law_take", none), "_law_take", "_law_take", defArgs sTake, defBody sTake, defScope sTake, [], []⟩
def d10 : He.DefD := ⟨("_law_of", none), "_law_of", "_law_of", defArgs s__law_of, defBody s__law_of, defScope s__law_of, [], []⟩
def d11 : He.DefD := ⟨("_law_some", none), "_law_some", "_law_some", defArgs s__law_some, defBody s__law_some, defScope s__law_some, [], []⟩
def d12 : He.DefD := ⟨("_law_cond_text", none), "_law_cond_text", "_law_cond_text", defArgs s__law_cond_text, defBody s__law_cond_text, defScope s__law_cond_text, [], []⟩
def d13 : He.DefD := ⟨("_law_block_lines", none), "_law_block_lines", "_law_block_lines", defArgs s__law_block_lines, defBody s__law_block_lines, defScope s__law_block_lines, [], []⟩
def d14 : He.DefD := ⟨("_law_part_text", none), "_law_part_text", "_law_part_text", defArgs s__law_part_text, defBody s__law_part_text, defScope s__law_part_text, [], []⟩
def d15 : He.DefD := ⟨("_law_sign", none), "_law_sign", "_law_sign", defArgs s__law_sign, defBody s__law_sign, defScope s__law_sign, [], []⟩
def d16 : He.DefD := ⟨("_law_test", none), "_law_test", "_law_test", defArgs s__law_test, defBody s__law_test, defScope s__law_test, [], []⟩
def d17 : He.DefD := ⟨("_law_plain_one", none), "_law_plain_one", "_law_plain_one", defArgs s__law_plain_one, defBody s__law_plain_one, defScope s__law_plain_one, [], []⟩
def d18 : He.DefD := ⟨("_law_plain_block", none), "_law_plain_block", "_law_plain_block", defArgs s__law_plain_block, defBody s__law_plain_block, defScope s__law_plain_block, [], []⟩
def d19 : He.DefD := ⟨("_law_whole_part", none), "_law_whole_part", "_law_whole_part", defArgs s__law_whole_part, defBody s__law_whole_part, defScope s__law_whole_part, [], []⟩
def d20 : He.DefD := ⟨("_law_same", none), "_law_same", "_law_same", defArgs s__law_same, defBody s__law_same, defScope s__law_same, [], []⟩
def d21 : He.DefD := ⟨("_law_right", none), "_law_right", "_law_right", defArgs s__law_right, defBody s__law_right, defScope s__law_right, [], []⟩
def d22 : He.DefD := ⟨("law", none), "law", "law", defArgs s_law, defBody s_law, defScope s_law, [], []⟩
def d23 : He.DefD := ⟨("WireError", some "__init__"), "__init__", "WireError.__init__", defArgs s_err, defBody s_err, defScope s_err, [], []⟩
def d24 : He.DefD := ⟨("Lines", some "__init__"), "__init__", "Lines.__init__", defArgs s_Lines___init__, defBody s_Lines___init__, defScope s_Lines___init__, [], []⟩
def d25 : He.DefD := ⟨("Lines", some "words"), "words", "Lines.words", defArgs s_Lines_words, defBody s_Lines_words, defScope s_Lines_words, [], []⟩
def d26 : He.DefD := ⟨("Lines", some "begins"), "begins", "Lines.begins", defArgs s_Lines_begins, defBody s_Lines_begins, defScope s_Lines_begins, [], []⟩
def d27 : He.DefD := ⟨("Lines", some "step"), "step", "Lines.step", defArgs s_Lines_step, defBody s_Lines_step, defScope s_Lines_step, [], []⟩
def d28 : He.DefD := ⟨("Lines", some "need"), "need", "Lines.need", defArgs s_Lines_need, defBody s_Lines_need, defScope s_Lines_need, [], []⟩
def d29 : He.DefD := ⟨("Lines", some "need_end"), "need_end", "Lines.need_end", defArgs s_Lines_need_end, defBody s_Lines_need_end, defScope s_Lines_need_end, [], []⟩
def d30 : He.DefD := ⟨("Program", some "__init__"), "__init__", "Program.__init__", defArgs s_Program___init__, defBody s_Program___init__, defScope s_Program___init__, [], []⟩
def d31 : He.DefD := ⟨("Program", some "read_door"), "read_door", "Program.read_door", defArgs s_Program_read_door, defBody s_Program_read_door, defScope s_Program_read_door, [], []⟩
def d32 : He.DefD := ⟨("Program", some "read_block"), "read_block", "Program.read_block", defArgs s_Program_read_block, defBody s_Program_read_block, defScope s_Program_read_block, [], []⟩
def d33 : He.DefD := ⟨("Program", some "read_statement"), "read_statement", "Program.read_statement", defArgs s_Program_read_statement, defBody s_Program_read_statement, defScope s_Program_read_statement, [], []⟩
def d34 : He.DefD := ⟨("Program", some "read_if"), "read_if", "Program.read_if", defArgs s_Program_read_if, defBody s_Program_read_if, defScope s_Program_read_if, [], []⟩
def d35 : He.DefD := ⟨("Program", some "read_while"), "read_while", "Program.read_while", defArgs s_Program_read_while, defBody s_Program_read_while, defScope s_Program_read_while, [], []⟩
def d36 : He.DefD := ⟨("Program", some "read_head"), "read_head", "Program.read_head", defArgs s_Program_read_head, defBody s_Program_read_head, defScope s_Program_read_head, [], []⟩
def d37 : He.DefD := ⟨("Program", some "plain_step"), "plain_step", "Program.plain_step", defArgs s_Program_plain_step, defBody s_Program_plain_step, defScope s_Program_plain_step, [], []⟩
def d38 : He.DefD := ⟨("Program", some "ask_step"), "ask_step", "Program.ask_step", defArgs s_Program_ask_step, defBody s_Program_ask_step, defScope s_Program_ask_step, [], []⟩
def d39 : He.DefD := ⟨("Program", some "cell"), "cell", "Program.cell", defArgs s_Program_cell, defBody s_Program_cell, defScope s_Program_cell, [], []⟩
def d40 : He.DefD := ⟨("Program", some "source"), "source", "Program.source", defArgs s_Program_source, defBody s_Program_source, defScope s_Program_source, [], []⟩
def d41 : He.DefD := ⟨("Program", some "condition"), "condition", "Program.condition", defArgs s_Program_condition, defBody s_Program_condition, defScope s_Program_condition, [], []⟩
def d42 : He.DefD := ⟨("Part", some "__init__"), "__init__", "Part.__init__", defArgs s_Part___init__, defBody s_Part___init__, defScope s_Part___init__, [], []⟩
def d43 : He.DefD := ⟨("Part", some "__eq__"), "__eq__", "Part.__eq__", defArgs s_Part___eq__, defBody s_Part___eq__, defScope s_Part___eq__, [], []⟩
def fnL : List He.DefD := [d0, d1, d2, d3, d4, d5, d6, d7, d8, d9, d10, d11, d12, d13, d14, d15, d16, d17, d18, d19, d20, d21, d22, d23, d24, d25, d26, d27, d28, d29, d30, d31, d32, d33, d34, d35, d36, d37, d38, d39, d40, d41, d42, d43]
abbrev tfL : List He.Defn := [("Part", some "__init__")]
theorem funOf {K : PySem.W.Frag} {x qual : Str} {st : Stmt} {f : Addr} {fd : FuncData} (F : FunD K x qual (defArgs st) (defBody st) (defScope st) [] [] f fd) : Fun K x qual st f fd := by
  obtain ⟨oc, od, dV, kV, doc, pm, an, cd, ct, sl, e, lk, hc, hD, _⟩ := F.ex
  rcases hD with ⟨_, rfl⟩ | ⟨z, _⟩
  · exact ⟨⟨oc, od, kV, doc, pm, an, cd, ct, sl, e, lk, hc⟩, F.kp⟩
  · exact absurd rfl z
theorem funTOf {K : PySem.W.Frag} {x qual : Str} {st : Stmt} {p : He.Defn} {fd : FuncData} (F : FunD K x qual (defArgs st) (defBody st) (defScope st) [] [] (He.fAd K p) fd) : FunT K x qual st (He.fAd K p) fd (He.codeOf K p) := by
  obtain ⟨oc, od, dV, kV, doc, pm, an, cd, ct, sl, e, lk, hc, hD, _⟩ := F.ex
  rcases hD with ⟨_, rfl⟩ | ⟨z, _⟩
  · obtain ⟨c, rfl⟩ := He.codeIn_ref hc
    have q := He.codeOf_eq (c := c) lk (by rw [e])
    rw [q]
    exact ⟨⟨oc, od, kV, doc, pm, an, ct, sl, e, lk, hc⟩, F.kp⟩
  · exact absurd rfl z
section
variable {K : PySem.W.Frag} {w : World} {h : Heap} {mg : Str → Option Value}
theorem er_of {x : Str} (X : K.In h) (G : h.Ns mainGlobals mg) (g : mg x = some (.ref (He.ga K x))) (e : (errL K x).all id = true) (e2 : (exL K).all id = true) : Er K mg x (He.ga K x) (He.ma K (He.ga K "WireError") "__init__") where
  O := ⟨oexB_ok (all_at e 0 rfl), of_decide_eq_true (all_at e 1 rfl), of_decide_eq_true (all_at e 2 rfl), of_decide_eq_true (all_at e 3 rfl), all_at e 4 rfl⟩
  g := g
  iC := of_decide_eq_true (all_at e 5 rfl)
  tI := of_decide_eq_true (all_at e2 2 rfl)
  nv := of_decide_eq_true (all_at e 6 rfl)

theorem all_mk {P : Program} {f : Addr} (X : K.In h) (G : h.Ns mainGlobals mg) (hf : mg ("law" : Str) = some (.ref f)) (c : He.SaysD faL fnL K) (e2 : exB K = true) :
    ∃ fd : FuncData, (∀ (s : Shared) (v : Value), BindsTo s fd ⟨[v], []⟩ [("_law_script", v)]) ∧ ∀ base : Heap, K.In base → base.Ns mainGlobals mg → GxR.TabB base mg (He.codeOf K ("Part", some "__init__")) (He.cT K ("Part", some "__init__")).2 →
      FnG P w K mg base (L2.CX P w) 27 f fd ["_law_script"] (spLaw K (He.cT K ("Part", some "__init__")).2) := by
  have eT : (errL K "BadText").all id = true := all_at e2 0 rfl
  have eW : (errL K "BadWorths").all id = true := all_at e2 1 rfl
  have Bt0 : Bt mg := { m_int := He.free_ok X G (c.fact 30 (f := .free "int") rfl), m_len := He.free_ok X G (c.fact 31 (f := .free "len") rfl), m_abs := He.free_ok X G (c.fact 32 (f := .free "abs") rfl), m_max := He.free_ok X G (c.fact 33 (f := .free "max") rfl), m_min := He.free_ok X G (c.fact 34 (f := .free "min") rfl), m_list := He.free_ok X G (c.fact 35 (f := .free "list") rfl), m_str := He.free_ok X G (c.fact 36 (f := .free "str") rfl), m_bool := He.free_ok X G (c.fact 37 (f := .free "bool") rfl), m_range := He.free_ok X G (c.fact 38 (f := .free "range") rfl), m_isinstance := He.free_ok X G (c.fact 39 (f := .free "isinstance") rfl), m_tuple := He.free_ok X G (c.fact 40 (f := .free "tuple") rfl), m_repr := He.free_ok X G (c.fact 41 (f := .free "repr") rfl) }
  obtain ⟨k0, F0⟩ := c.def_ 0 (d := d0) rfl
  obtain ⟨k1, F1⟩ := c.def_ 1 (d := d1) rfl
  obtain ⟨k2, F2⟩ := c.def_ 2 (d := d2) rfl
  obtain ⟨k3, F3⟩ := c.def_ 3 (d := d3) rfl
  obtain ⟨k4, F4⟩ := c.def_ 4 (d := d4) rfl
  obtain ⟨k5, F5⟩ := c.def_ 5 (d := d5) rfl
  obtain ⟨k6, F6⟩ := c.def_ 6 (d := d6) rfl
  obtain ⟨k7, F7⟩ := c.def_ 7 (d := d7) rfl
  obtain ⟨k8, F8⟩ := c.def_ 8 (d := d8) rfl
  obtain ⟨k9, F9⟩ := c.def_ 9 (d := d9) rfl
  obtain ⟨k10, F10⟩ := c.def_ 10 (d := d10) rfl
  obtain ⟨k11, F11⟩ := c.def_ 11 (d := d11) rfl
  obtain ⟨k12, F12⟩ := c.def_ 12 (d := d12) rfl
  obtain ⟨k13, F13⟩ := c.def_ 13 (d := d13) rfl
  obtain ⟨k14, F14⟩ := c.def_ 14 (d := d14) rfl
  obtain ⟨k15, F15⟩ := c.def_ 15 (d := d15) rfl
  obtain ⟨k16, F16⟩ := c.def_ 16 (d := d16) rfl
  obtain ⟨k17, F17⟩ := c.def_ 17 (d := d17) rfl
  obtain ⟨k18, F18⟩ := c.def_ 18 (d := d18) rfl
  obtain ⟨k19, F19⟩ := c.def_ 19 (d := d19) rfl
  obtain ⟨k20, F20⟩ := c.def_ 20 (d := d20) rfl
  obtain ⟨k21, F21⟩ := c.def_ 21 (d := d21) rfl
  obtain ⟨k22, F22⟩ := c.def_ 22 (d := d22) rfl
  obtain ⟨k23, F23⟩ := c.def_ 23 (d := d23) rfl
  obtain ⟨k24, F24⟩ := c.def_ 24 (d := d24) rfl
  obtain ⟨k25, F25⟩ := c.def_ 25 (d := d25) rfl
  obtain ⟨k26, F26⟩ := c.def_ 26 (d := d26) rfl
  obtain ⟨k27, F27⟩ := c.def_ 27 (d := d27) rfl
  obtain ⟨k28, F28⟩ := c.def_ 28 (d := d28) rfl
  obtain ⟨k29, F29⟩ := c.def_ 29 (d := d29) rfl
  obtain ⟨k30, F30⟩ := c.def_ 30 (d := d30) rfl
  obtain ⟨k31, F31⟩ := c.def_ 31 (d := d31) rfl
  obtain ⟨k32, F32⟩ := c.def_ 32 (d := d32) rfl
  obtain ⟨k33, F33⟩ := c.def_ 33 (d := d33) rfl
  obtain ⟨k34, F34⟩ := c.def_ 34 (d := d34) rfl
  obtain ⟨k35, F35⟩ := c.def_ 35 (d := d35) rfl
  obtain ⟨k36, F36⟩ := c.def_ 36 (d := d36) rfl
  obtain ⟨k37, F37⟩ := c.def_ 37 (d := d37) rfl
  obtain ⟨k38, F38⟩ := c.def_ 38 (d := d38) rfl
  obtain ⟨k39, F39⟩ := c.def_ 39 (d := d39) rfl
  obtain ⟨k40, F40⟩ := c.def_ 40 (d := d40) rfl
  obtain ⟨k41, F41⟩ := c.def_ 41 (d := d41) rfl
  obtain ⟨k42, F42⟩ := c.def_ 42 (d := d42) rfl
  obtain ⟨k43, F43⟩ := c.def_ 43 (d := d43) rfl
  have e := hf.symm.trans (He.glo_ok X G (c.fact 22 (f := .glo "law") rfl))
  cases e
  have b0 : Binds K k0 ["value"] [] := FunD.bindsN F0 fun _ _ _ _ _ _ us hl => match us, hl with | [_], _ => rfl
  have D0 : Df K mg "is_integer" s_is_integer (He.fAd K ("is_integer", none)) k0 ["value"] := ⟨funOf (st := s_is_integer) F0, He.glo_ok X G (c.fact 0 (f := .glo "is_integer") rfl), b0⟩
  have b1 : Binds K k1 ["value"] [] := FunD.bindsN F1 fun _ _ _ _ _ _ us hl => match us, hl with | [_], _ => rfl
  have D1 : Df K mg "is_worths" s_is_worths (He.fAd K ("is_worths", none)) k1 ["value"] := ⟨funOf (st := s_is_worths) F1, He.glo_ok X G (c.fact 1 (f := .glo "is_worths") rfl), b1⟩
  have b2 : Binds K k2 ["value"] [] := FunD.bindsN F2 fun _ _ _ _ _ _ us hl => match us, hl with | [_], _ => rfl
  have D2 : Df K mg "is_name" s_is_name (He.fAd K ("is_name", none)) k2 ["value"] := ⟨funOf (st := s_is_name) F2, He.glo_ok X G (c.fact 2 (f := .glo "is_name") rfl), b2⟩
  have b3 : Binds K k3 ["value"] [] := FunD.bindsN F3 fun _ _ _ _ _ _ us hl => match us, hl with | [_], _ => rfl
  have D3 : Df K mg "is_door" s_is_door (He.fAd K ("is_door", none)) k3 ["value"] := ⟨funOf (st := s_is_door) F3, He.glo_ok X G (c.fact 3 (f := .glo "is_door") rfl), b3⟩
  have b4 : Binds K k4 ["word", "many"] [] := FunD.bindsN F4 fun _ _ _ _ _ _ us hl => match us, hl with | [_, _], _ => rfl
  have D4 : Df K mg "number" s_number (He.fAd K ("number", none)) k4 ["word", "many"] := ⟨funOf (st := s_number) F4, He.glo_ok X G (c.fact 4 (f := .glo "number") rfl), b4⟩
  have b5 : Binds K k5 ["lines", "worths"] [] := FunD.bindsN F5 fun _ _ _ _ _ _ us hl => match us, hl with | [_, _], _ => rfl
  have D5 : Df K mg "read_cells" s_read_cells (He.fAd K ("read_cells", none)) k5 ["lines", "worths"] := ⟨funOf (st := s_read_cells) F5, He.glo_ok X G (c.fact 5 (f := .glo "read_cells") rfl), b5⟩
  have b6 : Binds K k6 ["lines"] [] := FunD.bindsN F6 fun _ _ _ _ _ _ us hl => match us, hl with | [_], _ => rfl
  have D6 : Df K mg "read_ports" s_read_ports (He.fAd K ("read_ports", none)) k6 ["lines"] := ⟨funOf (st := s_read_ports) F6, He.glo_ok X G (c.fact 6 (f := .glo "read_ports") rfl), b6⟩
  have b7 : Binds K k7 ["lines", "program"] [] := FunD.bindsN F7 fun _ _ _ _ _ _ us hl => match us, hl with | [_, _], _ => rfl
  have D7 : Df K mg "read_doors" s_read_doors (He.fAd K ("read_doors", none)) k7 ["lines", "program"] := ⟨funOf (st := s_read_doors) F7, He.glo_ok X G (c.fact 7 (f := .glo "read_doors") rfl), b7⟩
  have b8 : Binds K k8 ["_law_script", "_law_k"] [] := FunD.bindsN F8 fun _ _ _ _ _ _ us hl => match us, hl with | [_, _], _ => rfl
  have D8 : Df K mg "_law_box" s__law_box (He.fAd K ("_law_box", none)) k8 ["_law_script", "_law_k"] := ⟨funOf (st := s__law_box) F8, He.glo_ok X G (c.fact 8 (f := .glo "_law_box") rfl), b8⟩
  have b9 : Binds K k9 ["_law_box_here", "_law_many"] [] := FunD.bindsN F9 fun _ _ _ _ _ _ us hl => match us, hl with | [_, _], _ => rfl
  have D9 : Df K mg "_law_take" sTake (He.fAd K ("_law_take", none)) k9 ["_law_box_here", "_law_many"] := ⟨funOf (st := sTake) F9, He.glo_ok X G (c.fact 9 (f := .glo "_law_take") rfl), b9⟩
  have b10 : Binds K k10 ["_law_box_here", "_law_some_here"] [] := FunD.bindsN F10 fun _ _ _ _ _ _ us hl => match us, hl with | [_, _], _ => rfl
  have D10 : Df K mg "_law_of" s__law_of (He.fAd K ("_law_of", none)) k10 ["_law_box_here", "_law_some_here"] := ⟨funOf (st := s__law_of) F10, He.glo_ok X G (c.fact 10 (f := .glo "_law_of") rfl), b10⟩
  have b11 : Binds K k11 ["_law_box_here", "_law_items", "_law_many"] [] := FunD.bindsN F11 fun _ _ _ _ _ _ us hl => match us, hl with | [_, _, _], _ => rfl
  have D11 : Df K mg "_law_some" s__law_some (He.fAd K ("_law_some", none)) k11 ["_law_box_here", "_law_items", "_law_many"] := ⟨funOf (st := s__law_some) F11, He.glo_ok X G (c.fact 11 (f := .glo "_law_some") rfl), b11⟩
  have b12 : Binds K k12 ["_law_cond"] [] := FunD.bindsN F12 fun _ _ _ _ _ _ us hl => match us, hl with | [_], _ => rfl
  have D12 : Df K mg "_law_cond_text" s__law_cond_text (He.fAd K ("_law_cond_text", none)) k12 ["_law_cond"] := ⟨funOf (st := s__law_cond_text) F12, He.glo_ok X G (c.fact 12 (f := .glo "_law_cond_text") rfl), b12⟩
  have b13 : Binds K k13 ["_law_block", "_law_deep"] [] := FunD.bindsN F13 fun _ _ _ _ _ _ us hl => match us, hl with | [_, _], _ => rfl
  have D13 : Df K mg "_law_block_lines" s__law_block_lines (He.fAd K ("_law_block_lines", none)) k13 ["_law_block", "_law_deep"] := ⟨funOf (st := s__law_block_lines) F13, He.glo_ok X G (c.fact 13 (f := .glo "_law_block_lines") rfl), b13⟩
  have b14 : Binds K k14 ["_law_plain"] [] := FunD.bindsN F14 fun _ _ _ _ _ _ us hl => match us, hl with | [_], _ => rfl
  have D14 : Df K mg "_law_part_text" s__law_part_text (He.fAd K ("_law_part_text", none)) k14 ["_law_plain"] := ⟨funOf (st := s__law_part_text) F14, He.glo_ok X G (c.fact 14 (f := .glo "_law_part_text") rfl), b14⟩
  have b15 : Binds K k15 ["_law_box_here", "_law_here"] [] := FunD.bindsN F15 fun _ _ _ _ _ _ us hl => match us, hl with | [_, _], _ => rfl
  have D15 : Df K mg "_law_sign" s__law_sign (He.fAd K ("_law_sign", none)) k15 ["_law_box_here", "_law_here"] := ⟨funOf (st := s__law_sign) F15, He.glo_ok X G (c.fact 15 (f := .glo "_law_sign") rfl), b15⟩
  have b16 : Binds K k16 ["_law_box_here", "_law_here"] [] := FunD.bindsN F16 fun _ _ _ _ _ _ us hl => match us, hl with | [_, _], _ => rfl
  have D16 : Df K mg "_law_test" s__law_test (He.fAd K ("_law_test", none)) k16 ["_law_box_here", "_law_here"] := ⟨funOf (st := s__law_test) F16, He.glo_ok X G (c.fact 16 (f := .glo "_law_test") rfl), b16⟩
  have b17 : Binds K k17 ["_law_box_here", "_law_here"] [] := FunD.bindsN F17 fun _ _ _ _ _ _ us hl => match us, hl with | [_, _], _ => rfl
  have D17 : Df K mg "_law_plain_one" s__law_plain_one (He.fAd K ("_law_plain_one", none)) k17 ["_law_box_here", "_law_here"] := ⟨funOf (st := s__law_plain_one) F17, He.glo_ok X G (c.fact 17 (f := .glo "_law_plain_one") rfl), b17⟩
  have b18 : Binds K k18 ["_law_box_here", "_law_here", "_law_deep", "_law_many"] [] := FunD.bindsN F18 fun _ _ _ _ _ _ us hl => match us, hl with | [_, _, _, _], _ => rfl
  have D18 : Df K mg "_law_plain_block" s__law_plain_block (He.fAd K ("_law_plain_block", none)) k18 ["_law_box_here", "_law_here", "_law_deep", "_law_many"] := ⟨funOf (st := s__law_plain_block) F18, He.glo_ok X G (c.fact 18 (f := .glo "_law_plain_block") rfl), b18⟩
  have b19 : Binds K k19 ["_law_box_here", "_law_worths"] [] := FunD.bindsN F19 fun _ _ _ _ _ _ us hl => match us, hl with | [_, _], _ => rfl
  have D19 : Df K mg "_law_whole_part" s__law_whole_part (He.fAd K ("_law_whole_part", none)) k19 ["_law_box_here", "_law_worths"] := ⟨funOf (st := s__law_whole_part) F19, He.glo_ok X G (c.fact 19 (f := .glo "_law_whole_part") rfl), b19⟩
  have b20 : Binds K k20 ["_law_one", "_law_other"] [] := FunD.bindsN F20 fun _ _ _ _ _ _ us hl => match us, hl with | [_, _], _ => rfl
  have D20 : Df K mg "_law_same" s__law_same (He.fAd K ("_law_same", none)) k20 ["_law_one", "_law_other"] := ⟨funOf (st := s__law_same) F20, He.glo_ok X G (c.fact 20 (f := .glo "_law_same") rfl), b20⟩
  have b21 : Binds K k21 ["_law_box_here"] [] := FunD.bindsN F21 fun _ _ _ _ _ _ us hl => match us, hl with | [_], _ => rfl
  have D21 : Df K mg "_law_right" s__law_right (He.fAd K ("_law_right", none)) k21 ["_law_box_here"] := ⟨funOf (st := s__law_right) F21, He.glo_ok X G (c.fact 21 (f := .glo "_law_right") rfl), b21⟩
  have b22 : Binds K k22 ["_law_script"] [] := FunD.bindsN F22 fun _ _ _ _ _ _ us hl => match us, hl with | [_], _ => rfl
  have D22 : Df K mg "law" s_law (He.fAd K ("law", none)) k22 ["_law_script"] := ⟨funOf (st := s_law) F22, He.glo_ok X G (c.fact 22 (f := .glo "law") rfl), b22⟩
  have b23 : Binds K k23 ["self", "value"] [] := FunD.bindsN F23 fun _ _ _ _ _ _ us hl => match us, hl with | [_, _], _ => rfl
  have U23 : Fun K "__init__" "WireError.__init__" s_err (He.fAd K ("WireError", some "__init__")) k23 := funOf (st := s_err) F23
  have b24 : Binds K k24 ["self", "text"] [] := FunD.bindsN F24 fun _ _ _ _ _ _ us hl => match us, hl with | [_, _], _ => rfl
  have U24 : Fun K "__init__" "Lines.__init__" s_Lines___init__ (He.fAd K ("Lines", some "__init__")) k24 := funOf (st := s_Lines___init__) F24
  have b25 : Binds K k25 ["self", "depth"] [] := FunD.bindsN F25 fun _ _ _ _ _ _ us hl => match us, hl with | [_, _], _ => rfl
  have M25 : Mf K (He.ga K "Lines") "words" "Lines.words" s_Lines_words (He.fAd K ("Lines", some "words")) k25 ["self", "depth"] := ⟨funOf (st := s_Lines_words) F25, He.meth_ok (c.fact 74 (f := .meth "Lines" "words") rfl), b25⟩
  have b26 : Binds K k26 ["self", "word"] [] := FunD.bindsN F26 fun _ _ _ _ _ _ us hl => match us, hl with | [_, _], _ => rfl
  have M26 : Mf K (He.ga K "Lines") "begins" "Lines.begins" s_Lines_begins (He.fAd K ("Lines", some "begins")) k26 ["self", "word"] := ⟨funOf (st := s_Lines_begins) F26, He.meth_ok (c.fact 75 (f := .meth "Lines" "begins") rfl), b26⟩
  have b27 : Binds K k27 ["self"] [] := FunD.bindsN F27 fun _ _ _ _ _ _ us hl => match us, hl with | [_], _ => rfl
  have M27 : Mf K (He.ga K "Lines") "step" "Lines.step" s_Lines_step (He.fAd K ("Lines", some "step")) k27 ["self"] := ⟨funOf (st := s_Lines_step) F27, He.meth_ok (c.fact 76 (f := .meth "Lines" "step") rfl), b27⟩
  have b28 : Binds K k28 ["self", "right"] [] := FunD.bindsN F28 fun _ _ _ _ _ _ us hl => match us, hl with | [_, _], _ => rfl
  have M28 : Mf K (He.ga K "Lines") "need" "Lines.need" s_Lines_need (He.fAd K ("Lines", some "need")) k28 ["self", "right"] := ⟨funOf (st := s_Lines_need) F28, He.meth_ok (c.fact 77 (f := .meth "Lines" "need") rfl), b28⟩
  have b29 : Binds K k29 ["self"] [] := FunD.bindsN F29 fun _ _ _ _ _ _ us hl => match us, hl with | [_], _ => rfl
  have M29 : Mf K (He.ga K "Lines") "need_end" "Lines.need_end" s_Lines_need_end (He.fAd K ("Lines", some "need_end")) k29 ["self"] := ⟨funOf (st := s_Lines_need_end) F29, He.meth_ok (c.fact 78 (f := .meth "Lines" "need_end") rfl), b29⟩
  have b30 : Binds K k30 ["self", "lines", "worths", "cells", "ports"] [] := FunD.bindsN F30 fun _ _ _ _ _ _ us hl => match us, hl with | [_, _, _, _, _], _ => rfl
  have U30 : Fun K "__init__" "Program.__init__" s_Program___init__ (He.fAd K ("Program", some "__init__")) k30 := funOf (st := s_Program___init__) F30
  have b31 : Binds K k31 ["self"] [] := FunD.bindsN F31 fun _ _ _ _ _ _ us hl => match us, hl with | [_], _ => rfl
  have M31 : Mf K (He.ga K "Program") "read_door" "Program.read_door" s_Program_read_door (He.fAd K ("Program", some "read_door")) k31 ["self"] := ⟨funOf (st := s_Program_read_door) F31, He.meth_ok (c.fact 79 (f := .meth "Program" "read_door") rfl), b31⟩
  have b32 : Binds K k32 ["self", "depth", "asks_first"] [] := FunD.bindsN F32 fun _ _ _ _ _ _ us hl => match us, hl with | [_, _, _], _ => rfl
  have M32 : Mf K (He.ga K "Program") "read_block" "Program.read_block" s_Program_read_block (He.fAd K ("Program", some "read_block")) k32 ["self", "depth", "asks_first"] := ⟨funOf (st := s_Program_read_block) F32, He.meth_ok (c.fact 80 (f := .meth "Program" "read_block") rfl), b32⟩
  have b33 : Binds K k33 ["self", "words", "depth"] [] := FunD.bindsN F33 fun _ _ _ _ _ _ us hl => match us, hl with | [_, _, _], _ => rfl
  have M33 : Mf K (He.ga K "Program") "read_statement" "Program.read_statement" s_Program_read_statement (He.fAd K ("Program", some "read_statement")) k33 ["self", "words", "depth"] := ⟨funOf (st := s_Program_read_statement) F33, He.meth_ok (c.fact 81 (f := .meth "Program" "read_statement") rfl), b33⟩
  have b34 : Binds K k34 ["self", "words", "depth"] [] := FunD.bindsN F34 fun _ _ _ _ _ _ us hl => match us, hl with | [_, _, _], _ => rfl
  have M34 : Mf K (He.ga K "Program") "read_if" "Program.read_if" s_Program_read_if (He.fAd K ("Program", some "read_if")) k34 ["self", "words", "depth"] := ⟨funOf (st := s_Program_read_if) F34, He.meth_ok (c.fact 82 (f := .meth "Program" "read_if") rfl), b34⟩
  have b35 : Binds K k35 ["self", "words", "depth"] [] := FunD.bindsN F35 fun _ _ _ _ _ _ us hl => match us, hl with | [_, _, _], _ => rfl
  have M35 : Mf K (He.ga K "Program") "read_while" "Program.read_while" s_Program_read_while (He.fAd K ("Program", some "read_while")) k35 ["self", "words", "depth"] := ⟨funOf (st := s_Program_read_while) F35, He.meth_ok (c.fact 83 (f := .meth "Program" "read_while") rfl), b35⟩
  have b36 : Binds K k36 ["self", "words", "depth"] [] := FunD.bindsN F36 fun _ _ _ _ _ _ us hl => match us, hl with | [_, _, _], _ => rfl
  have M36 : Mf K (He.ga K "Program") "read_head" "Program.read_head" s_Program_read_head (He.fAd K ("Program", some "read_head")) k36 ["self", "words", "depth"] := ⟨funOf (st := s_Program_read_head) F36, He.meth_ok (c.fact 84 (f := .meth "Program" "read_head") rfl), b36⟩
  have b37 : Binds K k37 ["self", "words"] [] := FunD.bindsN F37 fun _ _ _ _ _ _ us hl => match us, hl with | [_, _], _ => rfl
  have M37 : Mf K (He.ga K "Program") "plain_step" "Program.plain_step" s_Program_plain_step (He.fAd K ("Program", some "plain_step")) k37 ["self", "words"] := ⟨funOf (st := s_Program_plain_step) F37, He.meth_ok (c.fact 85 (f := .meth "Program" "plain_step") rfl), b37⟩
  have b38 : Binds K k38 ["self", "port", "door", "word"] [] := FunD.bindsN F38 fun _ _ _ _ _ _ us hl => match us, hl with | [_, _, _, _], _ => rfl
  have M38 : Mf K (He.ga K "Program") "ask_step" "Program.ask_step" s_Program_ask_step (He.fAd K ("Program", some "ask_step")) k38 ["self", "port", "door", "word"] := ⟨funOf (st := s_Program_ask_step) F38, He.meth_ok (c.fact 86 (f := .meth "Program" "ask_step") rfl), b38⟩
  have b39 : Binds K k39 ["self", "word"] [] := FunD.bindsN F39 fun _ _ _ _ _ _ us hl => match us, hl with | [_, _], _ => rfl
  have M39 : Mf K (He.ga K "Program") "cell" "Program.cell" s_Program_cell (He.fAd K ("Program", some "cell")) k39 ["self", "word"] := ⟨funOf (st := s_Program_cell) F39, He.meth_ok (c.fact 87 (f := .meth "Program" "cell") rfl), b39⟩
  have b40 : Binds K k40 ["self", "word"] [] := FunD.bindsN F40 fun _ _ _ _ _ _ us hl => match us, hl with | [_, _], _ => rfl
  have M40 : Mf K (He.ga K "Program") "source" "Program.source" s_Program_source (He.fAd K ("Program", some "source")) k40 ["self", "word"] := ⟨funOf (st := s_Program_source) F40, He.meth_ok (c.fact 88 (f := .meth "Program" "source") rfl), b40⟩
  have b41 : Binds K k41 ["self", "words"] [] := FunD.bindsN F41 fun _ _ _ _ _ _ us hl => match us, hl with | [_, _], _ => rfl
  have M41 : Mf K (He.ga K "Program") "condition" "Program.condition" s_Program_condition (He.fAd K ("Program", some "condition")) k41 ["self", "words"] := ⟨funOf (st := s_Program_condition) F41, He.meth_ok (c.fact 89 (f := .meth "Program" "condition") rfl), b41⟩
  have b42 : Binds K k42 ["self", "worths", "text"] [] := FunD.bindsN F42 fun _ _ _ _ _ _ us hl => match us, hl with | [_, _, _], _ => rfl
  have b43 : Binds K k43 ["self", "other"] [] := FunD.bindsN F43 fun _ _ _ _ _ _ us hl => match us, hl with | [_, _], _ => rfl
  have U43 : Fun K "__eq__" "Part.__eq__" s_Part___eq__ (He.fAd K ("Part", some "__eq__")) k43 := funOf (st := s_Part___eq__) F43
  have CLs : ClL K (He.ga K "Lines") := ⟨He.cls_ok (c.fact 51 (f := .cls "Lines") rfl), He.noat_ok (c.fact 57 (f := .noat "Lines" "rows") rfl), He.noat_ok (c.fact 58 (f := .noat "Lines" "at") rfl)⟩
  have CPr : ClP K (He.ga K "Program") := by
    refine ⟨He.cls_ok (c.fact 53 (f := .cls "Program") rfl), fun x hx => ?_⟩
    unfold pNames at hx
    simp only [List.mem_cons, List.not_mem_nil, or_false] at hx
    rcases hx with rfl | rfl | rfl | rfl | rfl | rfl | rfl
    · exact He.noat_ok (c.fact 59 (f := .noat "Program" "lines") rfl)
    · exact He.noat_ok (c.fact 60 (f := .noat "Program" "worths") rfl)
    · exact He.noat_ok (c.fact 61 (f := .noat "Program" "cells") rfl)
    · exact He.noat_ok (c.fact 62 (f := .noat "Program" "ports") rfl)
    · exact He.noat_ok (c.fact 63 (f := .noat "Program" "steps") rfl)
    · exact He.noat_ok (c.fact 64 (f := .noat "Program" "asks") rfl)
    · exact He.noat_ok (c.fact 65 (f := .noat "Program" "many") rfl)
  have CPt : ClT K (He.ga K "Part") := by
    refine ⟨He.cls_ok (c.fact 55 (f := .cls "Part") rfl), fun x hx => ?_⟩
    simp only [List.mem_cons, List.not_mem_nil, or_false] at hx
    rcases hx with rfl | rfl | rfl | rfl | rfl | rfl | rfl | rfl
    · exact He.noat_ok (c.fact 66 (f := .noat "Part" "worths") rfl)
    · exact He.noat_ok (c.fact 67 (f := .noat "Part" "text") rfl)
    · exact He.noat_ok (c.fact 68 (f := .noat "Part" "cells") rfl)
    · exact He.noat_ok (c.fact 69 (f := .noat "Part" "ports") rfl)
    · exact He.noat_ok (c.fact 70 (f := .noat "Part" "starts") rfl)
    · exact He.noat_ok (c.fact 71 (f := .noat "Part" "doors") rfl)
    · exact He.noat_ok (c.fact 72 (f := .noat "Part" "steps") rfl)
    · exact He.noat_ok (c.fact 73 (f := .noat "Part" "asks") rfl)
  have KLines : Mk K (He.ga K "Lines") (He.fAd K ("Lines", some "__init__")) := He.mkr_ok (c.fact 52 (f := .mkr "Lines") rfl)
  have KProgram : Mk K (He.ga K "Program") (He.fAd K ("Program", some "__init__")) := He.mkr_ok (c.fact 54 (f := .mkr "Program") rfl)
  have KPart : Mk K (He.ga K "Part") (He.fAd K ("Part", some "__init__")) := He.mkr_ok (c.fact 56 (f := .mkr "Part") rfl)
  have gWireError : mg "WireError" = some (.ref (He.ga K "WireError")) := He.glo_ok X G (c.fact 23 (f := .glo "WireError") rfl)
  have gBadText : mg "BadText" = some (.ref (He.ga K "BadText")) := He.glo_ok X G (c.fact 24 (f := .glo "BadText") rfl)
  have gBadWorths : mg "BadWorths" = some (.ref (He.ga K "BadWorths")) := He.glo_ok X G (c.fact 25 (f := .glo "BadWorths") rfl)
  have gLines : mg "Lines" = some (.ref (He.ga K "Lines")) := He.glo_ok X G (c.fact 26 (f := .glo "Lines") rfl)
  have gProgram : mg "Program" = some (.ref (He.ga K "Program")) := He.glo_ok X G (c.fact 27 (f := .glo "Program") rfl)
  have gPart : mg "Part" = some (.ref (He.ga K "Part")) := He.glo_ok X G (c.fact 28 (f := .glo "Part") rfl)
  have cMOST_IN_BLOCK : ∃ t, mg "MOST_IN_BLOCK" = some (.int 8 t) := He.int_ok X G (c.fact 45 (f := .int "MOST_IN_BLOCK" 8) rfl)
  have cMOST_STATEMENTS : ∃ t, mg "MOST_STATEMENTS" = some (.int 24 t) := He.int_ok X G (c.fact 46 (f := .int "MOST_STATEMENTS" 24) rfl)
  have cDEEPEST : ∃ t, mg "DEEPEST" = some (.int 3 t) := He.int_ok X G (c.fact 47 (f := .int "DEEPEST" 3) rfl)
  have cMOST_CELLS : ∃ t, mg "MOST_CELLS" = some (.int 3 t) := He.int_ok X G (c.fact 48 (f := .int "MOST_CELLS" 3) rfl)
  have cMOST_PORTS : ∃ t, mg "MOST_PORTS" = some (.int 2 t) := He.int_ok X G (c.fact 49 (f := .int "MOST_PORTS" 2) rfl)
  have cMOST_DOORS : ∃ t, mg "MOST_DOORS" = some (.int 3 t) := He.int_ok X G (c.fact 50 (f := .int "MOST_DOORS" 3) rfl)
  have cBAR : ∃ b, mg "BARRED_CELLS" = some (.ref b) ∧ ∀ H : Hp, SqT K H b ((["it", "got", "lost", "busy"] : List Str).map V.str) := ⟨_, He.glo_ok X G (c.fact 29 (f := .glo "BARRED_CELLS") rfl), fun H => He.tupB_ok (all_at e2 9 rfl) H⟩
  have ET : Er K mg "BadText" (He.ga K "BadText") (He.fAd K ("WireError", some "__init__")) := er_of X G gBadText eT e2
  have EW : Er K mg "BadWorths" (He.ga K "BadWorths") (He.fAd K ("WireError", some "__init__")) := er_of X G gBadWorths eW e2
  refine ⟨_, fun s v => FunD.bindsA (ps := ["_law_script"]) F22 (fun _ _ _ _ _ _ us hl => match us, hl with | [_], _ => rfl) s [v] rfl, fun base XB GB TB1 => ?_⟩
  have Gneed := ok_need (P := P) (w := w) (mg := mg) (base := base) CLs M28.F ET U23 b23
  have Gnum := ok_number (P := P) (w := w) (mg := mg) (base := base) Bt0 D4
  have Gname := ok_is_name (P := P) (w := w) (mg := mg) (base := base) Bt0 D2
  have Gdoor := ok_is_door (P := P) (w := w) (mg := mg) (base := base) Bt0 D3 D2
  have Gwords := ok_words (P := P) (w := w) (mg := mg) (base := base) Bt0 CLs M25.F
  have Gbeg := ok_begins (P := P) (w := w) (mg := mg) (base := base) Bt0 CLs M26.F M25
  have Gstep := ok_step (P := P) (w := w) (mg := mg) (base := base) CLs M27.F
  have Gend := ok_need_end (P := P) (w := w) (mg := mg) (base := base) Bt0 CLs M29.F M28 ET U23 b23
  have GLi := ok_Lines_init (P := P) (w := w) (mg := mg) (base := base) Bt0 CLs U24 ET U23 b23
  have Gerr := ok_err (P := P) (w := w) (mg := mg) (base := base) U23
  have Gwo := ok_is_worths (P := P) (w := w) (mg := mg) (base := base) Bt0 D1 D0
  have N1 : En P w K mg base _ _ _ _ _ _ _ _ _ := ⟨Bt0, CLs, CPr, M28, Gneed, D4, Gnum, D3, Gdoor⟩
  have Gcond := ok_condition N1 M41.F M40
  have Gplain := ok_plain_step N1 M37.F M40 M39 M38
  have N2 : En2 P w K mg base _ _ _ _ _ _ _ _ _ _ _ := ⟨M25, Gwords, M27, Gstep, M41, Gcond, M37, Gplain, cDEEPEST, cMOST_IN_BLOCK, cMOST_STATEMENTS⟩
  have N3 : En3 K (He.ga K "Program") _ _ _ _ _ _ _ _ _ _ := ⟨M36, M34, M35, M33, M32⟩
  have Gblock := ok_block N1 N2 N3 2 (by decide)
  have Grd := ok_read_door N1 M31.F M32 Gblock
  have GPi := ok_Program_init (P := P) (w := w) (mg := mg) (base := base) CPr U30
  have N4 : En4 P w K mg base (He.ga K "Lines") (He.ga K "BadText") _ _ _ _ _ _ _ _ _ _ _ _ _ _ := ⟨Bt0, CLs, M26, Gbeg, M25, Gwords, M27, Gstep, M28, Gneed, D2, Gname, D3, Gdoor, D4, Gnum, cMOST_PORTS, cMOST_CELLS, cMOST_DOORS, cBAR⟩
  have Gports := ok_read_ports N4 D6
  have Gcells := ok_read_cells N4 D5
  have Gdoors := ok_read_doors N4 CPr D7 M31 Grd
  have FT := funTOf (st := s_Part___init__) (p := ("Part", some "__init__")) F42
  have GPart := ok_Part_init N4 CPr CPt FT TB1 EW Gerr b23 D1 Gwo KLines gLines b24 GLi D5 Gcells D6 Gports KProgram gProgram b30 GPi D7 Gdoors M29 Gend
  have NE : EqF K mg (He.ga K "Part") (He.fAd K ("Part", some "__eq__")) _ := ⟨U43, b43, gPart, CPt, ⟨of_decide_eq_true (all_at e2 10 rfl), of_decide_eq_true (all_at e2 3 rfl), of_decide_eq_true (all_at e2 4 rfl), of_decide_eq_true (all_at e2 11 rfl)⟩, of_decide_eq_true (all_at e2 12 rfl), all_at e2 13 rfl, of_decide_eq_true (all_at e2 14 rfl), fun T hT => by
    have q := List.all_eq_true.mp (all_at e2 15 rfl) T hT
    rw [Bool.and_eq_true] at q
    exact ⟨of_decide_eq_true q.1, q.2⟩⟩
  have Gblk := ok_blocks (P := P) (w := w) (mg := mg) (base := base) Bt0 D18 D9 D10 D15 D16 D17
  have Gwhole := ok_whole_part (P := P) (w := w) (mg := mg) (base := base) Bt0 D19 D9 D11 D18 Gblk
  have Glines := ok_lines (P := P) (w := w) (mg := mg) (base := base) Bt0 D13 D12
  have Gtext := ok_part_text (P := P) (w := w) (mg := mg) (base := base) Bt0 D14 D13 Glines
  have Gsame := ok_same (P := P) (w := w) (mg := mg) (base := base) Bt0 NE D20
  have Rk1 : Rk P w K mg base _ _ _ _ _ _ _ _ _ _ _ _ _ _ _ _ := ⟨Bt0, (He.free_ok X G (c.fact 42 (f := .free "any") rfl)), (He.free_ok X G (c.fact 44 (f := .free "dict") rfl)), D9, D19, Gwhole, D14, Gtext, D20, Gsame, KPart, gPart, b42, GPart, NE⟩
  have Gright := ok_right Rk1 D21
  have Gbox := ok_box (P := P) (w := w) (mg := mg) (base := base) Bt0 D8
  exact ok_law Bt0 (He.free_ok X G (c.fact 43 (f := .free "all") rfl)) D8 Gbox D21 Gright D22.F
end
end K5
namespace K5
open PySem PySem.Spec PyProof.Rows L2
abbrev R5 : PySem.W.OpenRow := PySem.W.OpenLaw.row PySem.Challenge.rw_truestandins_k01_parts_that_are_read
def namesL : List Str := (["__name__", "_wall", "WireError", "BadWorths", "BadText", "is_integer", "is_worths", "is_name", "is_door", "Lines", "number", "MOST_IN_BLOCK", "MOST_STATEMENTS", "DEEPEST", "Program", "BARRED_CELLS", "MOST_CELLS", "MOST_PORTS", "MOST_DOORS", "Part", "read_cells", "read_ports", "read_doors"] : List Str) ++ (["_law_box", "_law_take", "_law_of", "_law_some", "_law_cond_text", "_law_block_lines", "_law_part_text", "_law_sign", "_law_test", "_law_plain_one", "_law_plain_block", "_law_whole_part", "_law_same", "_law_right"] : List Str)
abbrev hk5 : PySem.W.Hook := He.hookX 5 faL fnL [] tfL exB
def ob5 (s : PySem.W.SharedT) : He.AlX := He.obsX 5 faL fnL [] tfL exB (HandSHeadRun.getT s)
theorem ob5_eq (s : PySem.W.SharedT) : ob5 s = hk5.obs s.abs := He.obsX_eq (HandSHeadRun.getT_eq s)
theorem run5 (w : World) : HandSHeadRun.RunEq R5 (PySem.W.view R5.prog [42]) hk5 ob5 6000 namesL w := by
  intro os
  kernel_rfl
end K5
namespace K5
open PySem PySem.Spec PyProof.Rows L2
theorem walk5 {q : Program} {loose : List Str} {XP : (Str → Option Value) → Heap → Prop} {d : DefRec} (hn : (PySem.Challenge.rw_truestandins_k01_parts_that_are_read).most = some 63) (hdf : d.params.defaults = []) (hname : d.name = ("law" : Str)) :
    PySem.W.WalkO q loose XP hk5.says (PySem.W.OpenLaw.row PySem.Challenge.rw_truestandins_k01_parts_that_are_read).toRowW d [] (fun f vs => PySem.call f vs) := by
  refine Att.attach_callB hn hdf fun w s₀ st mg mb fa o pm cd doc a us ns G Y ho hd hcd hmg arg whole len bits gens => ?_
  obtain ⟨K, KX, c⟩ := Y
  rw [hname] at hmg
  have mem : (("Part", some "__init__") : He.Defn) ∈ tfL := List.mem_singleton.mpr rfl
  obtain ⟨fd, hb, hF⟩ := all_mk (P := (PySem.Challenge.rw_truestandins_k01_parts_that_are_read).prog) (w := w) KX G.T.g hmg c.t.d c.more
  refine law_G (cs := [He.cT K ("Part", some "__init__")]) (x := "_law_script") (lv := 27) KX G.T.g G.T.b G.T.builtins G.T.nolimit gens (fun p hp => ?_) (fun p hp => ?_) (fun p hp => ?_) G.T.bmain arg whole (Nat.le_trans len (by decide)) ⟨rfl, by decide, by decide⟩ (fun base XB GB TB => hF base XB GB (TB _ (List.mem_singleton.mpr rfl))) hb (fun H hH hS => ?_) fun H e s2 z => ?_
  · rw [List.mem_singleton.mp hp]
    exact c.empty _ mem
  · rw [List.mem_singleton.mp hp]
    exact c.out _ mem
  · rw [List.mem_singleton.mp hp]
    exact PySem.W.codeHd_of_K KX (c.hd _ mem)
  · have hT := hH _ (List.mem_singleton.mpr rfl)
    refine ⟨a, ns, rfl, hS, ⟨#[], hT, ?_⟩, fun e => ?_, fun _ => rfl⟩
    · trivial
    · rw [e] at hS
      rcases hS with (h | ⟨u, h⟩) | ⟨u, its, m, lk, _⟩
      · rw [hT] at h
        cases h
      · rw [hT] at h
        cases h
      · rw [c.out _ mem] at lk
        cases lk
  · obtain ⟨_, _, _, _, _, _, _, _, _, _, _, _, z⟩ := z
    exact z.elim
end K5
open PySem PySem.W PySem.Calls PyProof.Rows
theorem PySem.Challenge.cw_truestandins_k01_parts_that_are_read_holds : PySem.Challenge.rw_truestandins_k01_parts_that_are_read.Holds := by
  w_on; o_law
  refine HandSHeadRun.head_any (r := K5.R5) (q := view K5.R5.prog [42]) (H := K5.hk5) (ob := K5.ob5) (M := 6000) (loose := K5.namesL) (d := HandSHeadRun.topDef K5.R5.prog 42) (kwd := []) K5.ob5_eq
    (by kernel_rfl) (fun s => by kernel_rfl) K5.run5 (by kernel_rfl) (by kernel_rfl) (by kernel_rfl) (by rfl) (by first | assumption | decide +kernel) (by decide +kernel) ⟨rfl, rfl, rfl, rfl, rfl, by decide +kernel⟩ ?hw ?hc
  case hw => w_witness2
  case hc => exact K5.walk5 rfl (by kernel_rfl) (by kernel_rfl)
