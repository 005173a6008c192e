import PyProof.Rows.All
import Wide.All
import OpenK.AllK
import Wide.FinOn
import HandS.ForMost
import HandS.Wide
import HandS.Steps
import HandS.IsInst
import HandS.StrMore
import HandS.Flow
import HandS.ForExc
import HandS.ExcInit
import HandS.Text
import PyProof.StrLawsChain
import HandS.NoneIn
import KE.KUnpackStar
import HandS.Strs
import HandS.TupAny
import HandS.ListItems
import HandS.Conv
import HandS.JoinGen
import PyProof.GenCompT
import PyProof.WalksPairs
import PyProof.TupleOfGen
import KE.KExcIs
import HandS.ExcField
import HandS.ExcIs
import PyProof.StrLawsTight
import PyProof.ReprRoads
import HandS.HeadHook4
import HandS.HeadWalk
import HandS.Head2
import PySem.Challenge.RW_truestandins_k05_parts_at_their_bounds
set_option Elab.async false
set_option linter.all false
set_option maxRecDepth 100000
set_option maxHeartbeats 0
namespace K5
open PySem PySem.Spec PyProof.Rows L2
def topS (i : Nat) : Stmt := PySem.Challenge.pw_truestandins_k05_parts_at_their_bounds.main.body.getD (i + 1) (.Pass ⟨0, 0, 0, 0⟩)
/-! ### values that leave the heap as it is -/
section
variable {X : Cx} {K : PySem.W.Frag} {σ : L2.St} {H : Hp} {ta tb : TE} {i j : Int} {p : Addr} {xs : List V} {v : V}
theorem val_ixL (ha : Val ta σ H (.ref p)) (hb : Val tb σ H (.int i)) (hS : SqL K H p xs) (h : atI xs i = some v) : Val (tOp (rIxL K) ta tb) σ H v :=
  val_op ha hb fun Q q => ⟨p, xs, i, v, rfl, rfl, hS, h, q⟩
theorem val_i0 {g : Int → Int → Int} (ha : Val ta σ H (.int i)) (hb : Val tb σ H (.int j)) : Val (tOp (rI0 fun i j => .int (g i j)) ta tb) σ H (.int (g i j)) :=
  val_op ha hb fun Q q => ⟨i, j, rfl, rfl, q⟩
theorem val_iC {C : Int → Int → Prop} {g : Int → Int → Int} (ha : Val ta σ H (.int i)) (hb : Val tb σ H (.int j)) (hc : C i j) : Val (tOp (rI C fun i j => .int (g i j)) ta tb) σ H (.int (g i j)) :=
  val_op ha hb fun Q q => ⟨i, j, rfl, rfl, hc, q⟩
def rInt1 : List V → Hp → VK → Prop := fun xs H Q => (∃ i, xs = [.int i] ∧ Q (.int i) H) ∨ ∃ k, xs = [.bl k] ∧ Q (.int (if k then 1 else 0)) H
theorem pe_toInt {e : Expr} {te : TE} {p pos : Pos} (hg : Gl X "int") (hm : X.mg "int" = none) (h : PE X e te)
    (he : starEach (e :: []) X.env = (false, eval e X.env) :: starEach [] X.env := by rfl) (hpl : (backTo pos (starEach [] X.env)).any (·.1) = false := by rfl) : PE X (.Call (.Name "int" p) [e] [] pos) (tCB rInt1 (tCons te tNil)) :=
  pe_callTy call_int1 hg hm PyProof.Rows.boot_int (pa_cons h pa_nil he) (he := he) (hpl := hpl)
theorem val_toInt (h : Val ta σ H (.int i)) : Val (tCB rInt1 (tCons ta tNil)) σ H (.int i) := fun Q q => h _ (.inl ⟨i, rfl, q⟩)
theorem val_toIntB {b : Bool} (h : Val ta σ H (.bl b)) : Val (tCB rInt1 (tCons ta tNil)) σ H (.int (if b then 1 else 0)) := fun Q q => h _ (.inr ⟨b, rfl, q⟩)
end
/-! ### the box of draws -/
def bx (p q n : Int) : List V := [.int p, .int q, .int n]
structure Box (p q n : Int) : Prop where
  p0 : 0 ≤ p
  q0 : 0 ≤ q
  q1 : q < 2305843009213693921
  n0 : 0 ≤ n
  n1 : n ≤ 1000000
abbrev sTake : Stmt := topS 28
theorem scTake : FnScope ["_law_box_here", "_law_many", "_law_digit", "_law_big"] ["_law_box_here", "_law_many"] (defScope sTake) := ⟨rfl, rfl, rfl, by decide +kernel, rfl, by decide +kernel, by decide +kernel⟩
/-- a draw: the box goes on, at most one more is counted -/
def spTake : Sp := fun vs H Q _ => ∃ (b : Addr) (m p q n : Int), vs = [.ref b, .int m] ∧ H b = some (.lst (bx p q n)) ∧ Box p q n ∧ n < 1000000 ∧ 0 < m ∧ m < 1000000 ∧
  ∀ d p' n' : Int, 0 ≤ d → d < m → Box p' q n' → n' ≤ n + 1 → Q (.int d) (upd H b (.lst (bx p' q n')))
section
variable {P : Program} {w : World} {K : PySem.W.Frag} {mg : Str → Option Value} {base : Heap}
theorem ok_take {f : Addr} {fd : FuncData} {CX : CXT} (F : Fun K "_law_take" "_law_take" sTake f fd) (mI : mg "int" = none) : FnOk P w K mg base CX0 1 f fd ["_law_box_here", "_law_many"] spTake := by
  refine F.ok scTake (fun vs H Q E h => ?_) (fun cdv A outer s H vs Q E hr h => ?_)
  · obtain ⟨b, m, p, q, n, rfl, _⟩ := h
    rfl
  · obtain ⟨b, m, p, q, n, rfl, hb, B, hn, m0, m1, k⟩ := h
    refine ⟨_, pss_cons (ps_if (pt_cmpR op_gt (pe_ix ix_list (pv 0) pe_int (fun _ _ => rfl)) pe_int (nomark _))
        (pss_cons (ps_set (i := 2) scTake.nd rfl (.inl rfl) (pe_op op_mod (pe_toInt (by rfl) mI (pe_ix ix_list (pv 0) pe_int (fun _ _ => rfl))) (pv 1)))
        (pss_cons (ps_asg (pe_op op_fdiv (pe_ix ix_list (pv 0) pe_int (fun _ _ => rfl)) (pv 1)) (pg_sub (pv 0) pe_int set_list))
        (pss_one (ps_ret (pv 2))))) pss_nil)
      (pss_cons (ps_asg (pe_op op_add (pe_ix ix_list (pv 0) pe_int (fun _ _ => rfl)) pe_int) (pg_sub (pv 0) pe_int set_list))
      (pss_cons (ps_set (i := 3) scTake.nd rfl (.inl rfl) (pe_op op_mod (pe_toInt (by rfl) mI (pe_op op_mul (pe_op op_add (pe_op op_add (pe_ix ix_list (pv 0) pe_int (fun _ _ => rfl)) (pe_op op_mul (pe_op op_mul pe_int (pe_ix ix_list (pv 0) pe_int (fun _ _ => rfl))) (pe_ix ix_list (pv 0) pe_int (fun _ _ => rfl)))) pe_int) pe_int)) pe_int))
      (pss_cons (ps_set (i := 3) scTake.nd rfl (.inl rfl) (pe_op op_mod (pe_toInt (by rfl) mI (pe_op op_mul (pv 3) (pe_op op_add (pe_op op_mod (pe_toInt (by rfl) mI (pv 3)) pe_int) (pe_op op_mul pe_int (pe_ix ix_list (pv 0) pe_int (fun _ _ => rfl)))))) pe_int))
      (pss_one (ps_ret (pe_op op_mod (pe_toInt (by rfl) mI (pe_op op_add (pe_op op_fdiv (pv 3) pe_int) (pe_op op_fdiv (pv 3) pe_int))) (pv 1))))))), ?_⟩
    have hS : SqL K H b (bx p q n) := SqL.of hb
    refine (val_ixL (val_var rfl) val_c hS (atI_nat (j := 0) rfl)) _ ?_
    refine ⟨_, _, rfl, rfl, _, rfl, ite2 (fun e => ?_) (fun e => ?_)⟩
    · refine (val_iC (val_toInt (val_ixL (val_var rfl) val_c hS (atI_nat (j := 0) rfl))) (val_var rfl) m0) _ ?_
      refine (val_iC (val_ixL (val_var rfl) val_c hS (atI_nat (j := 0) rfl)) (val_var rfl) ⟨m0, by omega⟩) _ ?_
      refine ⟨_, rfl, b, _, 0, 0, rfl, rfl, hb, rfl, ?_⟩
      refine ⟨_, rfl, ?_⟩
      have hp : 0 < p := of_decide_eq_true e
      exact k _ _ _ (Int.emod_nonneg _ (by omega)) (Int.emod_lt_of_pos _ m0) ⟨Int.ediv_nonneg B.p0 (by omega), B.q0, B.q1, B.n0, B.n1⟩ (by omega)
    · refine (val_i0 (val_ixL (val_var rfl) val_c hS (atI_nat (j := 2) rfl)) val_c) _ ?_
      refine ⟨_, rfl, b, _, 2, 2, rfl, rfl, hb, rfl, ?_⟩
      have h1 : (upd H b (.lst (bx p q (n + 1)))) b = some (.lst (bx p q (n + 1))) := upd_same
      have hS1 : SqL K (upd H b (.lst (bx p q (n + 1)))) b (bx p q (n + 1)) := SqL.of h1
      refine (val_iC (val_toInt (val_iC (val_i0 (val_i0 (val_ixL (val_var rfl) val_c hS1 (atI_nat (j := 1) rfl)) (val_iC (val_iC val_c (val_ixL (val_var rfl) val_c hS1 (atI_nat (j := 2) rfl)) ?_) (val_ixL (val_var rfl) val_c hS1 (atI_nat (j := 2) rfl)) ?_)) val_c) val_c ?_)) val_c ?_) _ ?_
      · exact .inl ⟨by decide, by decide⟩
      · exact .inr ⟨by have := B.n0; omega, by omega⟩
      · exact .inr ⟨by decide, by decide⟩
      · show (0 : Int) < 2305843009213693921
        decide
      generalize hz : (q + 65543 * (n + 1) * (n + 1) + 41) * 48271 % 2305843009213693921 = z
      have z0 : 0 ≤ z := by rw [← hz]; exact Int.emod_nonneg _ (by decide)
      have z1 : z < 2305843009213693921 := by rw [← hz]; exact Int.emod_lt_of_pos _ (by decide)
      refine (val_iC (val_toInt (val_iC (val_var rfl) (val_i0 (val_iC (val_toInt (val_var rfl)) val_c ?_) (val_iC val_c (val_ixL (val_var rfl) val_c hS1 (atI_nat (j := 2) rfl)) ?_)) ?_)) val_c ?_) _ ?_
      · show (0 : Int) < 1000003
        decide
      · exact .inl ⟨by decide, by decide⟩
      · exact .inl ⟨by omega, by omega⟩
      · show (0 : Int) < 2305843009213693907
        decide
      refine (val_iC (val_toInt (val_i0 (val_iC (val_var rfl) val_c ⟨by decide, by decide⟩) (val_iC (val_var rfl) val_c ⟨by decide, by decide⟩))) (val_var rfl) m0) _ ?_
      exact k _ _ _ (Int.emod_nonneg _ (by omega)) (Int.emod_lt_of_pos _ m0) ⟨B.p0, B.q0, B.q1, by have := B.n0; omega, by omega⟩ (by omega)
end
end K5
namespace K5
open PySem PySem.Spec PyProof.Rows L2
/-- the built-ins' names still are the built-ins' -/
structure Bt (mg : Str → Option Value) : Prop where
  m_int : mg "int" = none
  m_len : mg "len" = none
  m_abs : mg "abs" = none
  m_max : mg "max" = none
  m_min : mg "min" = none
  m_list : mg "list" = none
  m_str : mg "str" = none
  m_bool : mg "bool" = none
  m_range : mg "range" = none
  m_isinstance : mg "isinstance" = none
  m_tuple : mg "tuple" = none
  m_repr : mg "repr" = none
/-- a def of the top -/
structure Df (K : PySem.W.Frag) (mg : Str → Option Value) (x : Str) (st : Stmt) (f : Addr) (fd : FuncData) (ps : List Str) : Prop where
  F : Fun K x x st f fd
  g : mg x = some (.ref f)
  b : Binds K fd ps []
/-- a method -/
structure Mf (K : PySem.W.Frag) (C : Addr) (x qual : Str) (st : Stmt) (f : Addr) (fd : FuncData) (ps : List Str) : Prop where
  F : Fun K x qual st f fd
  m : Meth K C x f
  b : Binds K fd ps []
/-! ### heaps -/
theorem same_upd {H : Hp} {p : Addr} {o : HO} (h : H p = none) : Same H (upd H p o) := fun b x e => by
  rw [upd_ne (ne_of_none e h)]
  exact e
/-- all that was tracked is as it was, but the list at b -/
def SameBut (b : Addr) (H H' : Hp) : Prop := ∀ a o, a ≠ b → H a = some o → H' a = some o
theorem SameBut.of_same {b : Addr} {H H' : Hp} (e : Same H H') : SameBut b H H' := fun a o _ h => e a o h
theorem SameBut.trans {b : Addr} {H H1 H2 : Hp} (x : SameBut b H H1) (y : SameBut b H1 H2) : SameBut b H H2 := fun a o n h => y a o n (x a o n h)
theorem SameBut.upd (b : Addr) (H : Hp) (o : HO) : SameBut b H (upd H b o) := fun a u n h => by
  rw [upd_ne n]
  exact h
/-! ### numbers -/
def CPowB (i j : Int) : Prop := 0 ≤ j ∧ (Builtin.Int.intBits i : Int) * j ≤ 2 ^ 27
theorem op_powB {X : Cx} : OpR X (binaryOp .Pow) (rI CPowB fun i j => .int (i ^ j.toNat)) := opI fun _ _ _ _ _ _ _ hc q => pow_int hc.1 hc.2 q
section
variable {X : Cx} {K : PySem.W.Frag} {σ : L2.St} {H : Hp} {ta tb : TE} {i j : Int} {p : Addr} {xs : List V} {v : V}
theorem val_i0b {g : Int → Int → Bool} (ha : Val ta σ H (.int i)) (hb : Val tb σ H (.int j)) : Val (tOp (rI0 fun i j => .bl (g i j)) ta tb) σ H (.bl (g i j)) :=
  val_op ha hb fun Q q => ⟨i, j, rfl, rfl, q⟩
def rAbs : List V → Hp → VK → Prop := fun xs H Q => ∃ i, xs = [.int i] ∧ Q (.int (if i < 0 then -i else i)) H
theorem val_abs (h : Val ta σ H (.int i)) : Val (tCB rAbs (tCons ta tNil)) σ H (.int (if i < 0 then -i else i)) := fun Q q => h _ ⟨i, rfl, q⟩
def rLenSq (K : PySem.W.Frag) : List V → Hp → VK → Prop := fun xs H Q => ∃ p ys, xs = [.ref p] ∧ (SqL K H p ys ∨ SqT K H p ys) ∧ Q (.int ys.length) H
theorem val_lenL (h : Val ta σ H (.ref p)) (hS : SqL K H p xs) : Val (tCB (rLenSq K) (tCons ta tNil)) σ H (.int xs.length) := fun Q q => h _ ⟨p, xs, rfl, .inl hS, q⟩
end
theorem b01 (b : Bool) : -(2 ^ 64) < (if b = true then (1 : Int) else 0) ∧ (if b = true then (1 : Int) else 0) < 2 ^ 64 := by cases b <;> exact ⟨by decide, by decide⟩
theorem b0 (b : Bool) : 0 ≤ (if b = true then (1 : Int) else 0) := by cases b <;> decide
theorem step_int {te : TE} {σ : L2.St} {H : Hp} {Q : VK} (h : ∃ z : Int, Val te σ H (.int z)) (k : ∀ z : Int, Q (.int z) H) : te σ H Q := by
  obtain ⟨z, hz⟩ := h
  exact hz Q (k z)
/-! ### a fresh box -/
abbrev s__law_box : Stmt := topS 27
theorem sc__law_box : FnScope ["_law_script", "_law_k", "_law_first", "_law_own"] ["_law_script", "_law_k"] (defScope s__law_box) := ⟨rfl, rfl, rfl, by decide +kernel, rfl, by decide +kernel, by decide +kernel⟩
def spBox (K : PySem.W.Frag) : Sp := fun vs H Q _ => ∃ (a : Addr) (ns : List Int) (k : Int), vs = [.ref a, .int k] ∧ SqL K H a (ns.map V.int) ∧ 0 ≤ k ∧ k < 100 ∧
  ∀ (b : Addr) (p q : Int), H b = none → Box p q 0 → Q (.ref b) (upd H b (.lst (bx p q 0)))
section
variable {P : Program} {w : World} {K : PySem.W.Frag} {mg : Str → Option Value} {base : Heap}
theorem ok_box {f : Addr} {fd : FuncData} (B : Bt mg) (D : Df K mg "_law_box" s__law_box f fd ["_law_script", "_law_k"]) : FnOk P w K mg base CX0 1 f fd ["_law_script", "_law_k"] (spBox K) := by
  refine D.F.ok sc__law_box (fun vs H Q E h => ?_) (fun cdv A outer s H vs Q E hr h => ?_)
  · obtain ⟨a, ns, k, rfl, _⟩ := h
    rfl
  · obtain ⟨a, ns, k, rfl, hS, k0, k1, kk⟩ := h
    have S := sc__law_box
    refine ⟨_, (pss_cons (ps_set (i := 2) S.nd rfl (.inl rfl) (pe_ifExp (pt_cmpR op_lt (pv 1) (pe_callB call_len_seq (by rfl) B.m_len PySem.boot_len (pa_cons (pv 0) pa_nil)) (nomark _)) (pe_ix ix_list (pv 0) (pv 1) (fun _ _ => rfl)) (pe_op op_add (pe_op op_mul pe_int (pv 1)) pe_int)))
      (pss_cons (ps_set (i := 3) S.nd rfl (.inl rfl) (pe_op op_mul (pe_op op_mod (pe_toInt (by rfl) B.m_int (pe_callB call_abs (by rfl) B.m_abs PyProof.Rows.boot_abs (pa_cons (pv 2) pa_nil))) (pe_op op_powB (pe_op op_pow pe_int pe_int) pe_int)) (pe_toInt (by rfl) B.m_int (pe_cmpR op_ge (pe_callB call_abs (by rfl) B.m_abs PyProof.Rows.boot_abs (pa_cons (pv 2) pa_nil)) (pe_op op_pow pe_int pe_int) (nomark _)))))
      (pss_one (ps_ret (pe_lst (pa_cons (pv 3) (pa_cons (pe_op op_mod (pe_toInt (by rfl) B.m_int (pe_op op_add (pe_op op_add (pe_op op_mul (pe_op op_mod (pe_toInt (by rfl) B.m_int (pv 2)) pe_int) pe_int) (pe_op op_mul (pe_op op_mul pe_int (pv 1)) (pv 1))) pe_int)) pe_int) (pa_cons pe_int pa_nil)))))))), ?_⟩
    show tIf _ _ _ _ _ _
    refine step_int ?_ fun z => ?_
    · by_cases hk : k < (ns.map V.int).length
      · have hk' : k.toNat < ns.length := by
          rw [List.length_map] at hk
          omega
        refine ⟨ns[k.toNat], fun Q q => ?_⟩
        refine (val_i0b (val_var rfl) (val_lenL (val_var rfl) hS)) _ ⟨_, rfl, ?_⟩
        rw [decide_eq_true hk]
        refine iteT ((val_ixL (val_var rfl) (val_var rfl) hS (at_of (j := k.toNat) (by omega) ?_)) _ q)
        rw [List.getElem?_map, List.getElem?_eq_getElem hk']
        rfl
      · refine ⟨37 * k + 11, fun Q q => ?_⟩
        refine (val_i0b (val_var rfl) (val_lenL (val_var rfl) hS)) _ ⟨_, rfl, ?_⟩
        rw [decide_eq_false hk]
        exact iteF ((val_i0 (val_iC val_c (val_var rfl) (.inl ⟨by decide, by decide⟩)) val_c) _ q)
    · refine (val_iC (val_iC (val_toInt (val_abs (val_var rfl))) (val_iC (val_iC val_c val_c ⟨by decide, by decide, by decide⟩) val_c ⟨by decide, by decide +kernel⟩) ?_) (val_toIntB (val_i0b (val_abs (val_var rfl)) (val_iC val_c val_c ⟨by decide, by decide, by decide⟩))) ?_) _ ?_
      · show (0 : Int) < (10 ^ (60 : Int).toNat) ^ (4 : Int).toNat
        decide +kernel
      · exact .inr (b01 _)
      generalize hp : (if z < 0 then -z else z) % (10 ^ (60 : Int).toNat) ^ (4 : Int).toNat * (if decide (10 ^ (18 : Int).toNat ≤ if z < 0 then -z else z) = true then 1 else 0) = p
      have p0 : 0 ≤ p := by
        rw [← hp]
        exact Int.mul_nonneg (Int.emod_nonneg _ (by decide +kernel)) (b0 _)
      refine ⟨_, rfl, ?_⟩
      have m1 : 0 ≤ z % 2305843009213693951 := Int.emod_nonneg _ (by decide)
      have m2 : z % 2305843009213693951 < 2305843009213693951 := Int.emod_lt_of_pos _ (by decide)
      refine (val_iC (val_toInt (val_i0 (val_i0 (val_iC (val_iC (val_toInt (val_var rfl)) val_c ?_) val_c ?_) (val_iC (val_iC val_c (val_var rfl) ?_) (val_var rfl) ?_)) val_c)) val_c ?_) _ ?_
      · show (0 : Int) < 2305843009213693951
        decide
      · exact .inr ⟨by decide, by decide⟩
      · exact .inl ⟨by decide, by decide⟩
      · exact .inr ⟨by omega, by omega⟩
      · show (0 : Int) < 2305843009213693921
        decide
      refine ⟨by show 3 ≤ sizeLine; decide, fun b hb => ?_⟩
      exact kk b _ _ hb ⟨p0, Int.emod_nonneg _ (by decide), Int.emod_lt_of_pos _ (by decide), by decide, by decide⟩
end
end K5
namespace K5
open PySem PySem.Spec PyProof.Rows L2
abbrev s__law_some : Stmt := topS 29
theorem sc__law_some : FnScope ["_law_box_here", "_law_items", "_law_many", "_law_left", "_law_found", "_law_turn"] ["_law_box_here", "_law_items", "_law_many"] (defScope s__law_some) := ⟨rfl, rfl, rfl, by decide +kernel, rfl, by decide +kernel, by decide +kernel⟩
/-- so many of some items, in a drawn sequence: a new list; the box goes on -/
def spSome (K : PySem.W.Frag) : Sp := fun vs H Q _ => ∃ (b l : Addr) (xs : List V) (m : Nat) (p q n : Int), vs = [.ref b, .ref l, .int m] ∧ H b = some (.lst (bx p q n)) ∧ Box p q n ∧ SqL K H l xs ∧ m ≤ xs.length ∧ xs.length ≤ 1000 ∧ n + m < 1000000 ∧
  ∀ (H' : Hp) (r : Addr) (ys rest : List V) (p' n' : Int), SameBut b H H' → H r = none → H' r = some (.lst ys) → H' b = some (.lst (bx p' q n')) → Box p' q n' → n' ≤ n + m → ys.length = m → (ys ++ rest).Perm xs → Q (.ref r) H'
theorem seqIndex_in {n : Nat} {d : Int} (h0 : 0 ≤ d) (h1 : d < n) : seqIndex? d n = some d.toNat := by
  unfold seqIndex?
  simp only []
  split <;> simp_all <;> omega
theorem erase_perm {α : Type} : ∀ {l : List α} {j : Nat} (h : j < l.length), (l[j] :: l.eraseIdx j).Perm l
  | _ :: _, 0, _ => List.Perm.refl _
  | a :: l, j + 1, h => by
    have hj : j < l.length := Nat.lt_of_succ_lt_succ h
    have ih := erase_perm (l := l) (j := j) hj
    show (l[j] :: a :: l.eraseIdx j).Perm (a :: l)
    exact (List.Perm.swap _ _ _).trans (List.Perm.cons a ih)
theorem perm_pick {ys xs l : List V} {j : Nat} {y : V} (h : (ys ++ l).Perm xs) (hj : l[j]? = some y) : (ys ++ [y] ++ l.eraseIdx j).Perm xs := by
  refine List.Perm.trans ?_ h
  rw [List.append_assoc]
  refine List.Perm.append_left ys ?_
  show (y :: l.eraseIdx j).Perm l
  obtain ⟨hl, e⟩ := List.getElem?_eq_some_iff.mp hj
  rw [← e]
  exact erase_perm hl
section
variable {P : Program} {w : World} {K : PySem.W.Frag} {mg : Str → Option Value} {base : Heap}
theorem ok_some {f fT : Addr} {fd fdT : FuncData} (B : Bt mg) (D : Df K mg "_law_some" s__law_some f fd ["_law_box_here", "_law_items", "_law_many"]) (D__law_take : Df K mg "_law_take" sTake fT fdT ["_law_box_here", "_law_many"]) :
    FnOk P w K mg base CX0 2 f fd ["_law_box_here", "_law_items", "_law_many"] (spSome K) := by
  have G__law_take : FnOk P w K mg base CX0 1 fT fdT ["_law_box_here", "_law_many"] spTake := ok_take (CX := CX0) D__law_take.F B.m_int
  refine D.F.ok sc__law_some (fun vs H Q E h => ?_) (fun cdv A outer s H vs Q E hr h => ?_)
  · obtain ⟨b, l, xs, m, p, q, n, rfl, _⟩ := h
    rfl
  · obtain ⟨b, l, xs, m, p, q, n, rfl, hb, Bx, hS, hm, hx, hn, k⟩ := h
    have S := sc__law_some
    refine ⟨_, (pss_cons (ps_par (i := 3) (j := 4) (by rfl) S.nd rfl rfl (by decide) rfl rfl (pa_cons (pe_callTy call_list_of (by rfl) B.m_list PyProof.Rows.boot_list (pa_cons (pv 1) pa_nil)) (pa_cons (pe_lst pa_nil) pa_nil)) (by rfl))
      (pss_cons (ps_for PassesOwn.never rfl (pi_range1 (by rfl) B.m_range (pa_cons (pv 2) pa_nil)) (pg_name (i := 5) S.nd rfl (.inl rfl))
        (pss_one (ps_expr (pe_bm PySem.F.plainAttrs_list PySem.F.slot_list_append PySem.F.type_list_append mt_append (pv 4) (pa_cons (pe_bm PySem.F.plainAttrs_list PySem.F.slot_list_pop PySem.F.type_list_pop mt_popAt (pv 3) (pa_cons (pe_call G__law_take (hr.mono (by decide)) (by rfl) D__law_take.g D__law_take.F.kp D__law_take.b .nil pass0 (pa_cons (pv 0) (pa_cons (pe_callB call_len_seq (by rfl) B.m_len PySem.boot_len (pa_cons (pv 3) pa_nil)) pa_nil))) pa_nil)) pa_nil)))))
      (pss_one (ps_ret (pv 4))))), ?_⟩
    -- left, found
    refine ⟨.ref l, rfl, l, xs, rfl, .inl hS, fun a na => ?_⟩
    refine ⟨Nat.zero_le _, fun r nr => ?_⟩
    have nra : r ≠ a := fun e => by rw [e, upd_same] at nr; cases nr
    have nba : b ≠ a := ne_of_none hb na
    have s1 : Same H (upd H a (.lst xs)) := same_upd na
    have s2 : Same (upd H a (.lst xs)) (upd (upd H a (.lst xs)) r (.lst [])) := same_upd nr
    have nr0 : H r = none := s1.free nr
    refine ⟨_, _, rfl, ?_⟩
    refine ⟨.int m, rfl, m, rfl, by omega, by omega, ?_⟩
    show ∃ W : Nat → Nat → L2.St → Hp → Prop, _
    refine for_range (lo := 0) (n := (m : Int).toNat) (fun i σ H' => ∃ (ys left : List V) (p' n' : Int) (t : Option V), σ = [some (.ref b), some (.ref l), some (.int m), some (.ref a), some (.ref r), t] ∧
        SameBut b H H' ∧ H' b = some (.lst (bx p' q n')) ∧ Box p' q n' ∧ n' ≤ n + i ∧ H' a = some (.lst left) ∧ H' r = some (.lst ys) ∧ ys.length = i ∧ (ys ++ left).Perm xs) ?_ ?_ ?_
    · refine ⟨[], xs, p, n, none, rfl, (SameBut.of_same s1).trans (SameBut.of_same s2), s2 _ _ (s1 _ _ hb), Bx, by omega, ?_, upd_same, rfl, List.Perm.refl _⟩
      rw [upd_ne nra.symm, upd_same]
    · rintro i σ H' hi ⟨ys, left, p', n', t, rfl, sb, hb', Bx', hn', ha', hr', hy, hp⟩
      have hlen : ys.length + left.length = xs.length := by
        have z := hp.length_eq
        rw [List.length_append] at z
        exact z
      have hi' : i < m := by omega
      refine ⟨.ref r, rfl, .inl ⟨rfl, _, SqL.of hr'⟩, .ref a, rfl, .inl ⟨rfl, _, SqL.of ha'⟩, ?_⟩
      refine ⟨.ref b, rfl, .ref a, rfl, a, left, rfl, .inl (SqL.of ha'), ?_⟩
      refine ⟨b, left.length, p', q, n', rfl, hb', Bx', by omega, by omega, by omega, fun d p'' n'' d0 d1 B2 hn2 => ?_⟩
      have nab : a ≠ b := fun e => nba e.symm
      have nrb : r ≠ b := fun e => by rw [e, hb] at nr0; cases nr0
      have ha2 : (upd H' b (.lst (bx p'' q n''))) a = some (.lst left) := by rw [upd_ne nab]; exact ha'
      have hj : d.toNat < left.length := by omega
      refine ⟨a, left, d, d.toNat, left[d.toNat], rfl, rfl, ha2, by omega, by omega, seqIndex_in d0 (by omega), List.getElem?_eq_getElem hj, ?_⟩
      refine ⟨r, ys, left[d.toNat], rfl, rfl, ?_, ?_, ?_⟩
      · rw [upd_ne nra, upd_ne nrb]
        exact hr'
      · exact small1000 (by omega)
      · refine ⟨ys ++ [left[d.toNat]], left.eraseIdx d.toNat, p'', n'', _, rfl, ?_, ?_, B2, by omega, ?_, upd_same, ?_, perm_pick hp (List.getElem?_eq_getElem hj)⟩
        · intro c o nc hc
          have n1 : c ≠ r := ne_of_none hc nr0
          have n2 : c ≠ a := ne_of_none hc na
          rw [upd_ne n1, upd_ne n2, upd_ne nc]
          exact sb c o nc hc
        · rw [upd_ne nrb.symm, upd_ne nba, upd_same]
        · rw [upd_ne nra.symm, upd_same]
        · rw [List.length_append, hy]
          rfl
    · rintro σ H' ⟨ys, left, p', n', t, rfl, sb, hb', Bx', hn', ha', hr', hy, hp⟩
      exact ⟨.ref r, rfl, k H' r ys left p' n' sb nr0 hr' hb' Bx' (by omega) (by omega) hp⟩
end
end K5
namespace K5
open PySem PySem.Spec PyProof.Rows L2
/-! ### kinds of values -/
inductive Kd (H : Hp) : V → String → Prop
  | non : Kd H .non "NoneType"
  | bl (b : Bool) : Kd H (.bl b) "bool"
  | int (i : Int) : Kd H (.int i) "int"
  | str (x : Str) : Kd H (.str x) "str"
  | lst {a : Addr} {xs : List V} (h : H a = some (.lst xs)) : Kd H (.ref a) "list"
  | tup {a : Addr} {xs : List V} (h : H a = some (.tup xs)) : Kd H (.ref a) "tuple"
  | dK {a : Addr} {kvs : List (Key × V)} (h : H a = some (.dK kvs)) : Kd H (.ref a) "dict"
theorem Kd.ty {K : PySem.W.Frag} {H : Hp} {x : V} {T : String} (h : Kd H x T) : TyX K H x (.type T) := by
  cases h with
  | non => exact .base .non
  | bl b => exact .base (.bl b)
  | int i => exact .base (.int i)
  | str x => exact .base (.str x)
  | lst h => exact .base (.lst h)
  | tup h => exact .base (.tup h)
  | dK h => exact .base (.dK h)
theorem Kd.mono {H H' : Hp} {x : V} {T : String} (h : Kd H x T) (e : Same H H') : Kd H' x T := by
  cases h with
  | non => exact .non
  | bl b => exact .bl b
  | int i => exact .int i
  | str x => exact .str x
  | lst h => exact .lst (e _ _ h)
  | tup h => exact .tup (e _ _ h)
  | dK h => exact .dK (e _ _ h)
def isI : V → Bool
  | .int _ => true
  | _ => false
def isIB : V → Bool
  | .int _ => true
  | .bl _ => true
  | _ => false
def isB : V → Bool
  | .bl _ => true
  | _ => false
def isS : V → Bool
  | .str _ => true
  | _ => false
theorem Kd.int_ {H : Hp} {x : V} {T : String} (h : Kd H x T) : kitB T "int" = some (isIB x) := by cases h <;> (simp only [isIB, isB, isS]; decide +kernel)
theorem Kd.bool_ {H : Hp} {x : V} {T : String} (h : Kd H x T) : kitB T "bool" = some (isB x) := by cases h <;> (simp only [isIB, isB, isS]; decide +kernel)
theorem Kd.str_ {H : Hp} {x : V} {T : String} (h : Kd H x T) : kitB T "str" = some (isS x) := by cases h <;> (simp only [isIB, isB, isS]; decide +kernel)
section
variable {X : Cx} {K : PySem.W.Frag} {σ : L2.St} {H : Hp} {ta tb tc : TE} {i j k : Int} {p : Addr} {xs : List V} {v x : V} {a b : Bool}
theorem val_isi {T C : String} (ha : Val ta σ H x) (hx : Kd H x T) (h : kitB T C = some b) : Val (tCB (rIsi K) (tCons ta (tCons (tC (.ty C)) tNil))) σ H (.bl b) := fun Q q =>
  ha _ ⟨x, .ty C, .type T, .type C, b, rfl, .ty C, hx.ty, kit_ty h, q⟩
theorem val_andV (ha : Val ta σ H (.bl a)) (hb : a = true → Val tb σ H (.bl b)) : Val (tAndV ta tb) σ H (.bl (a && b)) := fun Q q => ha _ ⟨a, rfl, by
  cases a with
  | true => exact iteT (hb rfl _ q)
  | false => exact iteF q⟩
theorem val_notV (ha : Val ta σ H (.bl a)) : Val (tNotV ta) σ H (.bl (!a)) := fun Q q => ha _ ⟨a, rfl, q⟩
theorem val_chain {g1 g2 : Int → Int → Bool} (ha : Val ta σ H (.int i)) (hb : Val tb σ H (.int j)) (hc : Val tc σ H (.int k)) :
    Val (tChain (rI0 fun i j => .bl (g1 i j)) (rI0 fun i j => .bl (g2 i j)) ta tb tc) σ H (.bl (g1 i j && g2 j k)) := fun Q q =>
  ha _ (hb _ ⟨i, j, rfl, rfl, g1 i j, rfl, by
    cases e : g1 i j with
    | true =>
      rw [e] at q
      exact iteT (hc _ ⟨j, k, rfl, rfl, q⟩)
    | false =>
      rw [e] at q
      exact iteF q⟩)
theorem pe_tyN {n : String} {y : Str} {pos : Pos} (hv : bootBuiltins y = some (.type n)) (hg : Gl X y) (hm : X.mg y = none) (hn : y ≠ "__name__" := by decide) (hdb : (y == ("__debug__" : Str)) = false := by decide) : PE X (.Name y pos) (tC (.ty n)) := pe_bltn hg hm hv rfl (hn := hn) (hd := hdb)
theorem bt_int : bootBuiltins "int" = some (.type "int") := by decide +kernel
theorem bt_bool : bootBuiltins "bool" = some (.type "bool") := by decide +kernel
theorem bt_str : bootBuiltins "str" = some (.type "str") := by decide +kernel
theorem val_call {sp : Sp} {E : XK} {t : TA} {vs : List V} (h : ∀ Q : List V → Hp → Prop, Q vs H → t σ H Q) (hs : ∀ Q : VK, Q v H → sp vs H Q E) : Val (tCall sp [] E t) σ H v := fun Q q =>
  h _ (by rw [List.append_nil]; exact hs Q q)
theorem va_nil : ∀ Q : List V → Hp → Prop, Q [] H → tNil σ H Q := fun _ q => q
theorem va_cons {t : TA} {vs : List V} (ha : Val ta σ H v) (ht : ∀ Q : List V → Hp → Prop, Q vs H → t σ H Q) : ∀ Q : List V → Hp → Prop, Q (v :: vs) H → tCons ta t σ H Q := fun Q q => ha _ (ht _ q)
def rLenS : List V → Hp → VK → Prop := fun xs H Q => ∃ z, xs = [.str z] ∧ z.length ≤ sizeLine ∧ Q (.int z.length) H
theorem val_lenS {z : Str} (h : Val ta σ H (.str z)) (hz : z.length ≤ sizeLine) : Val (tCB rLenS (tCons ta tNil)) σ H (.int z.length) := fun Q q => h _ ⟨z, rfl, hz, q⟩
theorem val_sb0 {g : Str → Bool} {z : Str} (h : Val ta σ H (.str z)) : Val (tBM0 K "str" (fun x xs H Q => ∃ a, x = .str a ∧ xs = [] ∧ True ∧ Q (.bl (g a)) H) ta) σ H (.bl (g z)) := fun Q q =>
  h _ ⟨rfl, z, rfl, rfl, True.intro, q⟩
end
/-! ### forms -/
def worthsOk : V → Bool
  | .int i => decide (2 ≤ i) && decide (i ≤ 4)
  | _ => false
def isName (z : Str) : Bool := (decide ((1 : Int) ≤ (z.length : Int)) && decide ((z.length : Int) ≤ 8)) && (Txt.isascii z && (Txt.isalpha z && Txt.islower z))
def isDoor (z : Str) : Bool := isName z && !decide (V.str z = V.str "any")
def spIsInt : Sp := fun vs H Q _ => ∃ (x : V) (T : String), vs = [x] ∧ Kd H x T ∧ Q (.bl (isI x)) H
def spIsWorths : Sp := fun vs H Q _ => ∃ (x : V) (T : String), vs = [x] ∧ Kd H x T ∧ Q (.bl (worthsOk x)) H
def spIsName : Sp := fun vs H Q _ => ∃ z : Str, vs = [.str z] ∧ z.length ≤ 10000000 ∧ Q (.bl (isName z)) H
def spIsDoor : Sp := fun vs H Q _ => ∃ z : Str, vs = [.str z] ∧ z.length ≤ 10000000 ∧ Q (.bl (isDoor z)) H
abbrev s_is_integer : Stmt := topS 5
theorem sc_is_integer : FnScope ["value"] ["value"] (defScope s_is_integer) := ⟨rfl, rfl, rfl, by decide +kernel, rfl, by decide +kernel, by decide +kernel⟩
abbrev s_is_worths : Stmt := topS 6
theorem sc_is_worths : FnScope ["value"] ["value"] (defScope s_is_worths) := ⟨rfl, rfl, rfl, by decide +kernel, rfl, by decide +kernel, by decide +kernel⟩
abbrev s_is_name : Stmt := topS 7
theorem sc_is_name : FnScope ["value"] ["value"] (defScope s_is_name) := ⟨rfl, rfl, rfl, by decide +kernel, rfl, by decide +kernel, by decide +kernel⟩
abbrev s_is_door : Stmt := topS 8
theorem sc_is_door : FnScope ["value"] ["value"] (defScope s_is_door) := ⟨rfl, rfl, rfl, by decide +kernel, rfl, by decide +kernel, by decide +kernel⟩
theorem big_size {n : Nat} (h : n ≤ 10000000) : n ≤ sizeLine := Nat.le_trans h (by decide)
section
variable {P : Program} {w : World} {K : PySem.W.Frag} {mg : Str → Option Value} {base : Heap}
theorem ok_is_integer {f : Addr} {fd : FuncData} (B : Bt mg) (D : Df K mg "is_integer" s_is_integer f fd ["value"]) : FnOk P w K mg base CX0 1 f fd ["value"] spIsInt := by
  refine D.F.ok sc_is_integer (fun vs H Q E h => ?_) (fun cdv A outer s H vs Q E hr h => ?_)
  · obtain ⟨x, T, rfl, _⟩ := h
    rfl
  · obtain ⟨x, T, rfl, hx, k⟩ := h
    have S := sc_is_integer
    refine ⟨_, (pss_one (ps_ret (pe_and (pe_callB call_isi (by rfl) B.m_isinstance PyProof.Rows.boot_isinstance (pa_cons (pv 0) (pa_cons (pe_tyN bt_int (by rfl) B.m_int) pa_nil))) (pe_one (pe_not (pe_callB call_isi (by rfl) B.m_isinstance PyProof.Rows.boot_isinstance (pa_cons (pv 0) (pa_cons (pe_tyN bt_bool (by rfl) B.m_bool) pa_nil)))))))), ?_⟩
    refine (val_andV (val_isi (val_var rfl) hx hx.int_) fun _ => val_notV (val_isi (val_var rfl) hx hx.bool_)) _ ?_
    have e : (isIB x && !isB x) = isI x := by cases x <;> rfl
    rw [e]
    exact k
theorem ok_is_worths {f fI : Addr} {fd fdI : FuncData} (B : Bt mg) (D : Df K mg "is_worths" s_is_worths f fd ["value"]) (D_is_integer : Df K mg "is_integer" s_is_integer fI fdI ["value"]) : FnOk P w K mg base CX0 2 f fd ["value"] spIsWorths := by
  have G_is_integer : FnOk P w K mg base CX0 1 fI fdI ["value"] spIsInt := ok_is_integer B D_is_integer
  refine D.F.ok sc_is_worths (fun vs H Q E h => ?_) (fun cdv A outer s H vs Q E hr h => ?_)
  · obtain ⟨x, T, rfl, _⟩ := h
    rfl
  · obtain ⟨x, T, rfl, hx, k⟩ := h
    have S := sc_is_worths
    refine ⟨_, (pss_one (ps_ret (pe_and (pe_call G_is_integer (hr.mono (by decide)) (by rfl) D_is_integer.g D_is_integer.F.kp D_is_integer.b .nil pass0 (pa_cons (pv 0) pa_nil)) (pe_one (pe_chain op_le op_le pe_int (pv 0) pe_int))))), ?_⟩
    refine (val_call (va_cons (val_var rfl) va_nil) fun Q q => ⟨x, T, rfl, hx, q⟩) _ ⟨_, rfl, ?_⟩
    cases hx with
    | int i => exact iteT ((val_chain val_c (val_var rfl) val_c) _ k)
    | _ => exact iteF k
theorem ok_is_name {f : Addr} {fd : FuncData} (B : Bt mg) (D : Df K mg "is_name" s_is_name f fd ["value"]) : FnOk P w K mg base CX0 1 f fd ["value"] spIsName := by
  refine D.F.ok sc_is_name (fun vs H Q E h => ?_) (fun cdv A outer s H vs Q E hr h => ?_)
  · obtain ⟨z, rfl, _⟩ := h
    rfl
  · obtain ⟨z, rfl, hz, k⟩ := h
    have S := sc_is_name
    refine ⟨_, (pss_cons (ps_if (pt_not (pt_val (pe_callB call_isi (by rfl) B.m_isinstance PyProof.Rows.boot_isinstance (pa_cons (pv 0) (pa_cons (pe_tyN bt_str (by rfl) B.m_str) pa_nil)))))
        (pss_one (ps_ret pe_bl))
        pss_nil)
      (pss_one (ps_ret (pe_and (pe_chain op_le op_le pe_int (pe_callB call_len_str (by rfl) B.m_len PySem.boot_len (pa_cons (pv 0) pa_nil)) pe_int) (pe_and (pe_bm0 PySem.F.plainAttrs_str PySem.F.slot_str_isascii PySem.F.type_str_isascii mt_isascii (pv 0)) (pe_and (pe_bm0 PySem.F.plainAttrs_str PySem.F.slot_str_isalpha PySem.F.type_str_isalpha mt_isalpha (pv 0)) (pe_one (pe_bm0 PySem.F.plainAttrs_str PySem.F.slot_str_islower PySem.F.type_str_islower mt_islower (pv 0))))))))), ?_⟩
    refine (val_isi (val_var rfl) (.str z) (Kd.str_ (H := H) (.str z))) _ ⟨_, rfl, ?_⟩
    refine iteF ?_
    exact (val_andV (val_chain val_c (val_lenS (val_var rfl) (big_size hz)) val_c) fun _ => val_andV (val_sb0 (val_var rfl)) fun _ => val_andV (val_sb0 (val_var rfl)) fun _ => val_sb0 (val_var rfl)) _ k
theorem ok_is_door {f fN : Addr} {fd fdN : FuncData} (B : Bt mg) (D : Df K mg "is_door" s_is_door f fd ["value"]) (D_is_name : Df K mg "is_name" s_is_name fN fdN ["value"]) : FnOk P w K mg base CX0 2 f fd ["value"] spIsDoor := by
  have G_is_name : FnOk P w K mg base CX0 1 fN fdN ["value"] spIsName := ok_is_name B D_is_name
  refine D.F.ok sc_is_door (fun vs H Q E h => ?_) (fun cdv A outer s H vs Q E hr h => ?_)
  · obtain ⟨z, rfl, _⟩ := h
    rfl
  · obtain ⟨z, rfl, hz, k⟩ := h
    have S := sc_is_door
    refine ⟨_, (pss_one (ps_ret (pe_and (pe_call G_is_name (hr.mono (by decide)) (by rfl) D_is_name.g D_is_name.F.kp D_is_name.b .nil pass0 (pa_cons (pv 0) pa_nil)) (pe_one (pe_cmpR op_ne (pv 0) pe_str (nomark _)))))), ?_⟩
    exact (val_andV (val_call (va_cons (val_var rfl) va_nil) fun Q q => ⟨z, rfl, hz, q⟩) fun _ => val_op (val_var rfl) val_c fun Q q => ⟨rfl, q⟩) _ k
end
end K5
namespace K5
open PySem PySem.Spec PyProof.Rows L2
/-! ### numbers as words -/
theorem dec_range : ∀ c : Nat, c < 128 → Unicode.isDecimal c = true → 48 ≤ c ∧ c < 58 := by
  have h : ∀ c : Fin 128, Unicode.isDecimal c.val = true → 48 ≤ c.val ∧ c.val < 58 := by decide +kernel
  exact fun c hc => h ⟨c, hc⟩
def okNum (z : Str) : Bool := match PySem.intText? z with
  | some n => decide (0 ≤ n ∧ n ≤ 999)
  | none => false
theorem okNum_spec {z : Str} (h : okNum z = true) : ∃ n, PySem.intText? z = some n ∧ 0 ≤ n ∧ n ≤ 999 := by
  unfold okNum at h
  cases e : PySem.intText? z with
  | none => rw [e] at h; cases h
  | some n =>
    rw [e] at h
    exact ⟨n, rfl, of_decide_eq_true h⟩
theorem ok1 : ∀ a : Fin 10, okNum ⟨#[48 + a.val]⟩ = true := by decide +kernel
theorem ok2 : ∀ a b : Fin 10, okNum ⟨#[48 + a.val, 48 + b.val]⟩ = true := by decide +kernel
theorem ok3 : ∀ a b c : Fin 10, okNum ⟨#[48 + a.val, 48 + b.val, 48 + c.val]⟩ = true := by decide +kernel
theorem digits3 {z : Str} (h3 : z.length ≤ 3) (ha : Txt.isascii z = true) (hd : Txt.isdecimal z = true) : okNum z = true := by
  obtain ⟨⟨l⟩⟩ := z
  have hall : ∀ c ∈ l, 48 ≤ c ∧ c < 58 := by
    intro c hc
    unfold Txt.isascii at ha
    unfold Txt.isdecimal at hd
    rw [Bool.and_eq_true] at hd
    have h1 := hd.2
    rw [List.all_toArray, List.all_eq_true] at h1 ha
    exact dec_range c (of_decide_eq_true (ha c hc)) (h1 c hc)
  have hl : 0 < l.length := by
    unfold Txt.isdecimal at hd
    rw [Bool.and_eq_true] at hd
    exact of_decide_eq_true hd.1
  have hl3 : l.length ≤ 3 := h3
  match l, hl, hl3, hall with
  | [a], _, _, hall =>
    have q := hall a (by simp)
    have z := ok1 ⟨a - 48, by omega⟩
    rw [show 48 + (a - 48) = a by omega] at z
    exact z
  | [a, b], _, _, hall =>
    have q1 := hall a (by simp)
    have q2 := hall b (by simp)
    have z := ok2 ⟨a - 48, by omega⟩ ⟨b - 48, by omega⟩
    rw [show 48 + (a - 48) = a by omega, show 48 + (b - 48) = b by omega] at z
    exact z
  | [a, b, c], _, _, hall =>
    have q1 := hall a (by simp)
    have q2 := hall b (by simp)
    have q3 := hall c (by simp)
    have z := ok3 ⟨a - 48, by omega⟩ ⟨b - 48, by omega⟩ ⟨c - 48, by omega⟩
    rw [show 48 + (a - 48) = a by omega, show 48 + (b - 48) = b by omega, show 48 + (c - 48) = c by omega] at z
    exact z
def numV (z : Str) : Int := (PySem.intText? z).getD 0
def numOf (z : Str) (many : Int) : Int :=
  if (decide ((3 : Int) < (z.length : Int)) || !(Txt.isascii z && Txt.isdecimal z)) = true then -1
  else if (decide (V.str (toString (numV z)) = V.str z) && decide (numV z < many)) = true then numV z else -1
section
variable {X : Cx} {K : PySem.W.Frag} {σ : L2.St} {H : Hp} {ta tb tc : TE} {t u : TT} {i j k : Int} {p : Addr} {xs : List V} {v x : V} {a b : Bool}
theorem ans_or2 (h1 : Ans t σ H a) (h2 : a = false → Ans u σ H b) : Ans (tOr t u) σ H (a || b) := by
  intro Q q
  refine h1 _ ?_
  cases a with
  | true => exact iteT q
  | false => exact iteF (h2 rfl Q q)
theorem ans_and3 (h1 : Ans t σ H a) (h2 : a = true → Ans u σ H b) : Ans (tAnd t u) σ H (a && b) := by
  intro Q q
  refine h1 _ ?_
  cases a with
  | true => exact iteT (h2 rfl Q q)
  | false => exact iteF q
theorem ans_i0 {g : Int → Int → Bool} (ha : Val ta σ H (.int i)) (hb : Val tb σ H (.int j)) : Ans (tTest (tOp (rI0 fun i j => .bl (g i j)) ta tb)) σ H (g i j) := fun Q q =>
  (val_i0b ha hb) _ ⟨_, rfl, q⟩
theorem ans_eq2 (ha : Val ta σ H x) (hb : Val tb σ H v) (hs : scal x v = true) : Ans (tTest (tOp rEq ta tb)) σ H (decide (x = v)) := ans_eq ha hb hs rfl
theorem val_ite (ht : Ans t σ H a) (h1 : a = true → Val ta σ H x) (h2 : a = false → Val tb σ H v) : Val (tIf t ta tb) σ H (if a = true then x else v) := fun Q q => ht _ (by
  cases a with
  | true => exact iteT (h1 rfl Q q)
  | false => exact iteF (h2 rfl Q q))
theorem val_neg (h : Val ta σ H (.int i)) : Val (tUn (rU fun i => .int (-i)) ta) σ H (.int (-i)) := fun Q q => h _ ⟨i, rfl, q⟩
theorem val_intS {z : Str} {n : Int} (h : Val ta σ H (.str z)) (hn : PySem.intText? z = some n) (hl : z.length ≤ 640) : Val (tCB (fun xs H Q => ∃ a n, xs = [.str a] ∧ PySem.intText? a = some n ∧ a.length ≤ 640 ∧ Q (.int n) H) (tCons ta tNil)) σ H (.int n) := fun Q q => h _ ⟨z, n, rfl, hn, hl, q⟩
theorem val_strI {n : Int} (h : Val ta σ H (.int n)) (hl : n.natAbs.log2 < 1920) : Val (tCB (fun xs H Q => ∃ i, xs = [.int i] ∧ i.natAbs.log2 < 1920 ∧ Q (.str (toString i)) H) (tCons ta tNil)) σ H (.str (toString n)) := fun Q q => h _ ⟨n, rfl, hl, q⟩
end
def spNumber : Sp := fun vs H Q _ => ∃ (z : Str) (m : Int), vs = [.str z, .int m] ∧ z.length ≤ 10000000 ∧ Q (.int (numOf z m)) H
abbrev s_number : Stmt := topS 11
theorem sc_number : FnScope ["word", "many", "worth"] ["word", "many"] (defScope s_number) := ⟨rfl, rfl, rfl, by decide +kernel, rfl, by decide +kernel, by decide +kernel⟩
theorem log_small {n : Nat} (h : n ≤ 999) : n.log2 < 1920 := by
  by_cases h0 : n = 0
  · rw [h0]; decide
  · exact Nat.lt_of_lt_of_le ((Nat.log2_lt h0).mpr (show n < 2 ^ 10 by omega)) (by decide)
section
variable {P : Program} {w : World} {K : PySem.W.Frag} {mg : Str → Option Value} {base : Heap}
theorem ok_number {f : Addr} {fd : FuncData} (B : Bt mg) (D : Df K mg "number" s_number f fd ["word", "many"]) : FnOk P w K mg base CX0 1 f fd ["word", "many"] spNumber := by
  refine D.F.ok sc_number (fun vs H Q E h => ?_) (fun cdv A outer s H vs Q E hr h => ?_)
  · obtain ⟨z, m, rfl, _⟩ := h
    rfl
  · obtain ⟨z, m, rfl, hz, k⟩ := h
    have S := sc_number
    refine ⟨_, (pss_cons (ps_if (PW.pt (pw_or (pt_cmpR op_gt (pe_callB call_len_str (by rfl) B.m_len PySem.boot_len (pa_cons (pv 0) pa_nil)) pe_int (nomark _)) (pw_or1 (pt_not (PW.pt (pw_and (pt_val (pe_bm0 PySem.F.plainAttrs_str PySem.F.slot_str_isascii PySem.F.type_str_isascii mt_isascii (pv 0))) (pw_and1 (pt_val (pe_bm0 PySem.F.plainAttrs_str PySem.F.slot_str_isdecimal PySem.F.type_str_isdecimal mt_isdecimal (pv 0))))))))))
        (pss_one (ps_ret (pe_un un_neg pe_int)))
        pss_nil)
      (pss_cons (ps_set (i := 2) S.nd rfl (.inl rfl) (pe_callTy call_int_str (by rfl) B.m_int PyProof.Rows.boot_int (pa_cons (pv 0) pa_nil)))
      (pss_one (ps_ret (pe_ifExp (PW.pt (pw_and (pt_cmpR op_eq (pe_callTy call_str_int (by rfl) B.m_str (by decide +kernel) (pa_cons (pv 2) pa_nil)) (pv 0) (nomark _)) (pw_and1 (pt_cmpR op_lt (pv 2) (pv 1) (nomark _))))) (pv 2) (pe_un un_neg pe_int)))))), ?_⟩
    refine (ans_or2 (ans_i0 (val_lenS (val_var rfl) (big_size hz)) val_c) fun _ => ans_not (ans_and3 (ans_val (val_sb0 (val_var rfl))) fun _ => ans_val (val_sb0 (val_var rfl)))) _ ?_
    by_cases c : (decide ((3 : Int) < (z.length : Int)) || !(Txt.isascii z && Txt.isdecimal z)) = true
    · rw [c]
      refine iteT ((val_neg val_c) _ ?_)
      have e : numOf z m = -1 := if_pos c
      rw [e] at k
      exact k
    · have e : numOf z m = if (decide (V.str (toString (numV z)) = V.str z) && decide (numV z < m)) = true then numV z else -1 := if_neg c
      rw [Bool.not_eq_true] at c
      rw [c]
      rw [Bool.or_eq_false_iff, Bool.not_eq_false', Bool.and_eq_true] at c
      obtain ⟨c1, c2, c3⟩ := c
      have h3 : z.length ≤ 3 := by
        have := of_decide_eq_false c1
        omega
      obtain ⟨n, hn, n0, n1⟩ := okNum_spec (digits3 h3 c2 c3)
      have en : numV z = n := by
        unfold numV
        rw [hn]
        rfl
      refine iteF ?_
      dsimp only [tNext, tSeq, tAsg]
      refine (val_intS (val_var rfl) hn (by omega)) _ ?_
      refine (val_ite (ans_and3 (ans_eq2 (val_strI (val_var rfl) (log_small (by omega))) (val_var rfl) rfl) fun _ => ans_i0 (val_var rfl) (val_var rfl)) (fun _ => val_var rfl) fun _ => val_neg val_c) _ ?_
      rw [en] at e
      rw [e] at k
      cases q : (decide (V.str (toString n) = V.str z) && decide (n < m)) with
      | true =>
        rw [q, if_pos rfl] at k
        rw [if_pos rfl]
        exact k
      | false =>
        rw [q, if_neg Bool.false_ne_true] at k
        rw [if_neg Bool.false_ne_true]
        exact k
end
end K5
namespace K5
open PySem PySem.Spec PyProof.Rows L2
/-! ### errors -/
/-- the error x's class at C, its __init__ at fI -/
structure Er (K : PySem.W.Frag) (mg : Str → Option Value) (x : Str) (C fI : Addr) : Prop where
  O : OexC K C
  g : mg x = some (.ref C)
  iC : PySem.W.findIn K (.ref C) "__init__" = some (some (.ref fI))
  tI : PySem.W.typeIn K (.ref fI) = some (.type "function")
  nv : PySem.W.findIn K (.ref C) "value" = some none
/-- an error of the class at C with this value lies behind H -/
def ErrK (C : Addr) (v : V) (H : Hp) (E : XK) : Prop := ∀ (d : Addr) (H' : Hp), Same H H' → H d = none → H' d = some (.xd [(("value" : Str), v)]) → E (.ref C) (some d) H'
theorem ErrK.mono {C : Addr} {v : V} {H H1 : Hp} {E : XK} (h : ErrK C v H E) (e : Same H H1) : ErrK C v H1 E := fun d H' e2 nd hd => h d H' (e.trans e2) (e.free nd) hd
def spErr (K : PySem.W.Frag) : Sp := fun vs H Q _ => ∃ (a C : Addr) (v : V), vs = [.ref a, v] ∧ OexC K C ∧ PySem.W.findIn K (.ref C) "value" = some none ∧ H a = some (exo a C none) ∧
  ∀ dx, H dx = none → dx ≠ a → Q .non (upd (upd H dx (exd dx [(("value" : Str), v)])) a (exo a C (some dx)))
abbrev s_err : Stmt := inClass (topS 1) 0
theorem sc_err : FnScope ["self", "value"] ["self", "value"] (defScope s_err) := ⟨rfl, rfl, rfl, by decide +kernel, rfl, by decide +kernel, by decide +kernel⟩
section
variable {P : Program} {w : World} {K : PySem.W.Frag} {mg : Str → Option Value} {base : Heap}
theorem ok_err {f : Addr} {fd : FuncData} (F : Fun K "__init__" "WireError.__init__" s_err f fd) : FnOk P w K mg base CX0 1 f fd ["self", "value"] (spErr K) := by
  refine F.ok sc_err (fun vs H Q E h => ?_) (fun cdv A outer s H vs Q E hr h => ?_)
  · obtain ⟨a, C, v, rfl, _⟩ := h
    rfl
  · obtain ⟨a, C, v, rfl, T, hn, ha, k⟩ := h
    refine ⟨_, pss_one (ps_ost (pv 0) (pv 1)), ?_⟩
    exact ⟨v, rfl, .ref a, rfl, a, C, rfl, T, hn, .inl ⟨ha, fun dx nd ne => k dx nd ne⟩⟩
end
/-- raise X(e), the value of e known -/
theorem raise_run {K : PySem.W.Frag} {C : Addr} {ta : TE} {σ : L2.St} {H : Hp} {v : V} {Q : XK} (T : OexC K C) (hn : PySem.W.findIn K (.ref C) "value" = some none) (hv : Val ta σ H v) (h : ErrK C v H Q) :
    tMkO C (spErr K) [] (tCons ta tNil) σ H Q := by
  refine hv _ ⟨by show 1 ≤ 1000; decide, fun a na => ?_⟩
  refine ⟨a, C, v, rfl, T, hn, upd_same, fun dx nd ne => ⟨rfl, dx, [(("value" : Str), v)], upd_same, ?_, ?_, ?_⟩⟩
  · rw [upd_ne ne, upd_same]
  · rw [upd_ne ne] at nd
    exact nd
  · have nd' : H dx = none := by
      rw [upd_ne ne] at nd
      exact nd
    refine h dx _ (fun b o e => ?_) nd' upd_same
    have n1 : b ≠ dx := ne_of_none e nd'
    have n2 : b ≠ a := ne_of_none e na
    rw [upd_ne n1, del_ne n2, upd_ne n2, upd_ne n1, upd_ne n2]
    exact e
/-! ### texts -/
def rRepS : R2 := fun x y H Q => ∃ z n, x = .str z ∧ y = .int n ∧ MulOk z n ∧ Q (.str (Txt.mul z n)) H
theorem op_repS {X : Cx} : OpR X (binaryOp .Mult) rRepS := by
  intro pins s σ H x y v u Q I rx ry h
  obtain ⟨z, n, rfl, rfl, hc, q⟩ := h
  obtain ⟨t, rfl⟩ := rx
  obtain ⟨t', rfl⟩ := ry
  exact SB.mul hc fun t' k => ⟨.str _, H, I.tok _, ⟨_, rfl⟩, q⟩
/-! ### lines -/
theorem lk_hd {f : Str} {v : V} {r : List (Str × V)} : List.lookup f ((f, v) :: r) = some v := by simp [List.lookup]
theorem lk_tl {f g : Str} {v : V} {r : List (Str × V)} (h : ¬ f = g) : List.lookup f ((g, v) :: r) = List.lookup f r := by
  have e : (f == g) = false := by simpa using h
  simp [List.lookup, e]
theorem put_hd {f : Str} {v x : V} {r : List (Str × V)} : putF f v ((f, x) :: r) = (f, v) :: r := by
  unfold putF
  rw [if_pos rfl]
theorem put_tl {f g : Str} {v x : V} {r : List (Str × V)} (h : ¬ g = f) : putF f v ((g, x) :: r) = (g, x) :: putF f v r := by
  show (if g = f then _ else _) = _
  rw [if_neg h]
structure ClL (K : PySem.W.Frag) (C : Addr) : Prop where
  cl : Cls K C
  nr : NoAttr K C "rows"
  na : NoAttr K C "at"
def lf (r : Addr) (n : Int) : List (Str × V) := [("rows", .ref r), ("at", .int n)]
theorem lf_rows {r : Addr} {n : Int} : (lf r n).lookup ("rows" : Str) = some (.ref r) := lk_hd
theorem lf_at {r : Addr} {n : Int} : (lf r n).lookup ("at" : Str) = some (.int n) := (lk_tl (by decide +kernel)).trans lk_hd
theorem lf_no {r : Addr} {n : Int} {m : Str} (h1 : ¬ m = "rows") (h2 : ¬ m = "at") : (lf r n).lookup m = none := (lk_tl h1).trans (lk_tl h2)
theorem lf_put {r : Addr} {n k : Int} : putF "at" (.int k) (lf r n) = lf r k := (put_tl (by decide +kernel)).trans (congrArg _ put_hd)
/-- a reader of these rows, at a line -/
structure LinesAt (C : Addr) (H : Hp) (l dx r : Addr) (rows : List Str) (n : Nat) : Prop where
  o : H l = some (.ins C dx (lf r n))
  r : H r = some (.lst (rows.map V.str))
  le : n ≤ rows.length
theorem LinesAt.mono {C : Addr} {H H' : Hp} {l dx r : Addr} {rows : List Str} {n : Nat} (h : LinesAt C H l dx r rows n) (e : Same H H') : LinesAt C H' l dx r rows n := ⟨e _ _ h.o, e _ _ h.r, h.le⟩
/-- sizes that are never met -/
structure Sz (rows : List Str) : Prop where
  len : rows.length ≤ 10001
  row : ∀ z ∈ rows, z.length ≤ 10000
  ok : ∀ z ∈ rows, PyData.strOk z = true
/-! ### what stands in the parts of a text -/
theorem cps_append (x y : Str) : (x ++ y).cps.toList = x.cps.toList ++ y.cps.toList := by
  show (x.cps ++ y.cps).toList = _
  exact Array.toList_append
theorem join_mem {y p : Str} {c : Nat} : ∀ {ps : List Str}, p ∈ ps → c ∈ p.cps.toList → c ∈ (Str.join y ps).cps.toList
  | [x], hp, hc => by
    have e : p = x := by simpa using hp
    rw [← e]
    exact hc
  | x :: z :: r, hp, hc => by
    show c ∈ (x ++ y ++ Str.join y (z :: r)).cps.toList
    rw [cps_append, cps_append]
    rcases List.mem_cons.mp hp with e | e
    · rw [e] at hc
      exact List.mem_append_left _ (List.mem_append_left _ hc)
    · exact List.mem_append_right _ (join_mem e hc)
theorem join_len {y p : Str} : ∀ {ps : List Str}, p ∈ ps → p.length ≤ (Str.join y ps).length
  | [x], hp => by
    have e : p = x := by simpa using hp
    rw [← e]
    exact Nat.le_refl _
  | x :: z :: r, hp => by
    have e0 : (Str.join y (x :: z :: r)).length = x.length + y.length + (Str.join y (z :: r)).length := by
      show (x.cps ++ y.cps ++ (Str.join y (z :: r)).cps).size = _
      rw [Array.size_append, Array.size_append]
      rfl
    rw [e0]
    rcases List.mem_cons.mp hp with e | e
    · rw [e]
      omega
    · have := join_len (y := y) e
      omega
theorem join_many {y : Str} (hy : 1 ≤ y.length) : ∀ {ps : List Str}, ps.length ≤ (Str.join y ps).length + 1
  | [] => Nat.zero_le _
  | [x] => Nat.le_add_left _ _
  | x :: z :: r => by
    have ih := join_many hy (ps := z :: r)
    have e0 : (Str.join y (x :: z :: r)).length = x.length + y.length + (Str.join y (z :: r)).length := by
      show (x.cps ++ y.cps ++ (Str.join y (z :: r)).cps).size = _
      rw [Array.size_append, Array.size_append]
      rfl
    rw [e0, List.length_cons]
    omega
theorem split_len {x y p : Str} (h : p ∈ Txt.split x y) : p.length ≤ x.length := by
  have := join_len (y := y) h
  rw [StrLaws.join_split] at this
  exact this
theorem split_ok {x y p : Str} (h : p ∈ Txt.split x y) (hx : PyData.strOk x = true) : PyData.strOk p = true := by
  unfold PyData.strOk at hx ⊢
  rw [Array.all_eq_true'] at hx ⊢
  intro c hc
  have := join_mem (y := y) h (Array.mem_toList_iff.mpr hc)
  rw [StrLaws.join_split] at this
  exact hx c (Array.mem_toList_iff.mp this)
theorem cut_ok {x : Str} {lo hi : Option Int} (hx : PyData.strOk x = true) : PyData.strOk (cutS x lo hi) = true := by
  unfold PyData.strOk at hx ⊢
  rw [Array.all_eq_true'] at hx ⊢
  intro c hc
  refine hx c (Array.mem_toList_iff.mp ?_)
  have h1 : c ∈ (cutS x lo hi).cps.toList := Array.mem_toList_iff.mpr hc
  have h2 : c ∈ (x.cps.toList.drop (HT.sIx x.length 0 lo)).take (HT.sIx x.length x.length hi - HT.sIx x.length 0 lo) := h1
  exact List.mem_of_mem_drop (List.mem_of_mem_take h2)
theorem sz_rows {z : Str} (hz : z.length ≤ 10000) (ho : PyData.strOk z = true) : Sz (Txt.split z "\n") where
  len := by
    have := join_many (y := "\n") (by decide +kernel) (ps := Txt.split z "\n")
    rw [StrLaws.join_split] at this
    omega
  row := fun p hp => Nat.le_trans (split_len hp) hz
  ok := fun p hp => split_ok hp ho
def margin (dp : Nat) : Str := Txt.mul "  " (dp : Int)
def cleanWords (ws : List Str) : List Str := if inV (.str "") (ws.map V.str) = true then [] else ws
def restWords (row : Str) (dp : Nat) : List Str := Txt.split (cutS row (some ((margin dp).length : Int)) none) " "
def rowWords (row : Str) (dp : Nat) : List Str := if Txt.startswith row (margin dp) = true then cleanWords (restWords row dp) else []
def wordsAt (rows : List Str) (n dp : Nat) : List Str := match rows[n]? with
  | none => []
  | some row => rowWords row dp
theorem words_ok {rows : List Str} {n dp : Nat} (sz : Sz rows) : ∀ z ∈ wordsAt rows n dp, PyData.strOk z = true ∧ z.length ≤ 10000 := by
  intro z hz
  unfold wordsAt at hz
  cases e : rows[n]? with
  | none =>
    rw [e] at hz
    cases hz
  | some row =>
    rw [e] at hz
    have hr : row ∈ rows := List.mem_of_getElem? e
    have h2 : z ∈ restWords row dp := by
      unfold rowWords cleanWords at hz
      dsimp only at hz
      split at hz
      · split at hz
        · cases hz
        · exact hz
      · cases hz
    exact ⟨split_ok h2 (cut_ok (sz.ok _ hr)), Nat.le_trans (split_len h2) (Nat.le_trans (cutS_length _ _ _) (sz.row _ hr))⟩
theorem words_many {rows : List Str} {n dp : Nat} (sz : Sz rows) : (wordsAt rows n dp).length ≤ 10001 := by
  unfold wordsAt
  cases e : rows[n]? with
  | none => exact Nat.zero_le _
  | some row =>
    have hr : row ∈ rows := List.mem_of_getElem? e
    have h1 : (restWords row dp).length ≤ 10001 := by
      have := join_many (y := " ") (by decide +kernel) (ps := restWords row dp)
      unfold restWords at this ⊢
      rw [StrLaws.join_split] at this
      have h2 := cutS_length row (some ((margin dp).length : Int)) none
      have h3 := sz.row _ hr
      omega
    show (rowWords row dp).length ≤ _
    unfold rowWords cleanWords
    split
    · split
      · exact Nat.zero_le _
      · exact h1
    · exact Nat.zero_le _
/-- a list or tuple of texts, as data -/
theorem dpAll_strs {K : PySem.W.Frag} {H : Hp} : ∀ l : List Str, DpAll K H (l.map V.str) (l.map PyData.str)
  | [] => .nil
  | z :: r => .cons (.str z) (dpAll_strs r)
theorem lay_strs : ∀ {l : List Str}, (∀ z ∈ l, PyData.strOk z = true) → PyData.canLayAll0 (l.map PyData.str) = true ∧ PyData.depthAll (l.map PyData.str) = 0
  | [], _ => ⟨by simp [PyData.canLayAll0], by simp [PyData.depthAll]⟩
  | z :: r, h => by
    have ih := lay_strs (l := r) fun y hy => h y (List.mem_cons_of_mem _ hy)
    have hz := h z (List.mem_cons_self ..)
    constructor
    · simp [PyData.canLayAll0, PyData.canLay0, hz, ih.1]
    · simp [PyData.depthAll, PyData.depth, ih.2]
theorem shaped_strs {l : List Str} (h : ∀ z ∈ l, PyData.strOk z = true) : SeqAt.shaped (.list (l.map PyData.str)) = true := by
  have q := lay_strs h
  unfold SeqAt.shaped
  simp [PyData.canLay0, PyData.depth, q.1, q.2]
theorem eqv_strs : ∀ a b : List Str, PyData.eqvAll (a.map PyData.str) (b.map PyData.str) = decide (a = b)
  | [], [] => by simp [PyData.eqvAll]
  | [], _ :: _ => by simp [PyData.eqvAll]
  | _ :: _, [] => by simp [PyData.eqvAll]
  | x :: a, y :: b => by
    rw [List.map_cons, List.map_cons, PyData.eqvAll, eqv_strs a b, PyData.eqv]
    by_cases h : x = y
    · subst h
      simp
    · simp [h]
theorem margin_ok {dp : Nat} (h : dp ≤ 3) : MulOk ("  " : Str) (dp : Int) ∧ (margin dp).length ≤ 6 := by
  match dp, h with
  | 0, _ => exact ⟨⟨by decide, fun q => absurd (by decide) q, fun q => absurd (by decide) q⟩, by decide +kernel⟩
  | 1, _ => exact ⟨⟨by decide, fun _ q => absurd q (by decide), fun _ q => absurd q (by decide)⟩, by decide +kernel⟩
  | 2, _ => exact ⟨⟨by decide, fun _ _ => by decide +kernel, fun _ _ => by decide +kernel⟩, by decide +kernel⟩
  | 3, _ => exact ⟨⟨by decide, fun _ _ => by decide +kernel, fun _ _ => by decide +kernel⟩, by decide +kernel⟩
end K5
namespace K5
open PySem PySem.Spec PyProof.Rows L2
theorem cutS_le {z : Str} {lo hi : Option Int} : (cutS z lo hi).length ≤ z.length := cutS_length z lo hi
abbrev s_Lines___init__ : Stmt := inClass (topS 10) 0
theorem sc_Lines___init__ : FnScope ["self", "text"] ["self", "text"] (defScope s_Lines___init__) := ⟨rfl, rfl, rfl, by decide +kernel, rfl, by decide +kernel, by decide +kernel⟩
abbrev s_Lines_words : Stmt := inClass (topS 10) 1
theorem sc_Lines_words : FnScope ["self", "depth", "margin", "words"] ["self", "depth"] (defScope s_Lines_words) := ⟨rfl, rfl, rfl, by decide +kernel, rfl, by decide +kernel, by decide +kernel⟩
abbrev s_Lines_begins : Stmt := inClass (topS 10) 2
theorem sc_Lines_begins : FnScope ["self", "word"] ["self", "word"] (defScope s_Lines_begins) := ⟨rfl, rfl, rfl, by decide +kernel, rfl, by decide +kernel, by decide +kernel⟩
abbrev s_Lines_step : Stmt := inClass (topS 10) 5
theorem sc_Lines_step : FnScope ["self"] ["self"] (defScope s_Lines_step) := ⟨rfl, rfl, rfl, by decide +kernel, rfl, by decide +kernel, by decide +kernel⟩
abbrev s_Lines_need : Stmt := inClass (topS 10) 6
theorem sc_Lines_need : FnScope ["self", "right"] ["self", "right"] (defScope s_Lines_need) := ⟨rfl, rfl, rfl, by decide +kernel, rfl, by decide +kernel, by decide +kernel⟩
abbrev s_Lines_need_end : Stmt := inClass (topS 10) 7
theorem sc_Lines_need_end : FnScope ["self"] ["self"] (defScope s_Lines_need_end) := ⟨rfl, rfl, rfl, by decide +kernel, rfl, by decide +kernel, by decide +kernel⟩
/-! ### promises -/
def rowsOf (z : Str) : List Str := Txt.split z "\n"
def spLinesInit (C CT : Addr) : Sp := fun vs H Q E => ∃ (l dx : Addr) (x : V) (T : String), vs = [.ref l, x] ∧ H l = some (.ins C dx []) ∧ Kd H x T ∧
  (∀ z : Str, x = .str z → z.length ≤ 10000 ∧ ∀ (H' : Hp) (r : Addr), SameBut l H H' → H r = none → LinesAt C H' l dx r (rowsOf z) 0 → Q .non H') ∧
  (isS x = false → ErrK CT (.int (-1)) H E)
def spWords (C : Addr) : Sp := fun vs H Q _ => ∃ (l dx r : Addr) (rows : List Str) (n dp : Nat), vs = [.ref l, .int dp] ∧ LinesAt C H l dx r rows n ∧ Sz rows ∧ dp ≤ 3 ∧
  ∀ (H' : Hp) (p : Addr), Same H H' → H p = none → H' p = some (.lst ((wordsAt rows n dp).map V.str)) → Q (.ref p) H'
def spBegins (C : Addr) : Sp := fun vs H Q _ => ∃ (l dx r : Addr) (rows : List Str) (n : Nat) (z : Str), vs = [.ref l, .str z] ∧ LinesAt C H l dx r rows n ∧ Sz rows ∧ PyData.strOk z = true ∧
  ∀ H' : Hp, Same H H' → Q (.bl (decide ((wordsAt rows n 0).take 1 = [z]))) H'
def spStep (C : Addr) : Sp := fun vs H Q _ => ∃ (l dx r : Addr) (rows : List Str) (n : Nat), vs = [.ref l] ∧ LinesAt C H l dx r rows n ∧ n < rows.length ∧
  ∀ H' : Hp, SameBut l H H' → LinesAt C H' l dx r rows (n + 1) → Q .non H'
def spNeed (K : PySem.W.Frag) (C CT : Addr) : Sp := fun vs H Q E => ∃ (l dx r : Addr) (rows : List Str) (n : Nat) (x : V) (b : Bool), vs = [.ref l, x] ∧ LinesAt C H l dx r rows n ∧ TruV K x H b ∧
  (b = true → Q .non H) ∧ (b = false → ErrK CT (.int n) H E)
def spNeedEnd (C CT : Addr) : Sp := fun vs H Q E => ∃ (l dx r : Addr) (rows : List Str) (n : Nat), vs = [.ref l] ∧ LinesAt C H l dx r rows n ∧
  (n = rows.length → Q .non H) ∧ (n ≠ rows.length → ErrK CT (.int n) H E)
section
variable {X : Cx} {K : PySem.W.Frag} {σ : L2.St} {H : Hp} {ta tb tc : TE} {t u : TT} {i j k : Int} {p : Addr} {xs : List V} {v x : V} {a b : Bool}
theorem val_repS {z : Str} {n : Int} (ha : Val ta σ H (.str z)) (hb : Val tb σ H (.int n)) (hc : MulOk z n) : Val (tOp rRepS ta tb) σ H (.str (Txt.mul z n)) := val_op ha hb fun Q q => ⟨z, n, rfl, rfl, hc, q⟩
theorem val_sw {z y : Str} (ha : Val ta σ H (.str z)) (hb : Val tb σ H (.str y)) : Val (tBM K "str" (fun x xs H Q => ∃ a b, x = .str a ∧ xs = [.str b] ∧ Q (.bl (Txt.startswith a b)) H) ta (tCons tb tNil)) σ H (.bl (Txt.startswith z y)) := fun Q q =>
  ha _ ⟨rfl, hb _ ⟨z, y, rfl, rfl, q⟩⟩
theorem val_cutS {z : Str} {n : Int} (ha : Val ta σ H (.str z)) (hb : Val tb σ H (.int n)) (hz : z.length ≤ sizeLine) : Val (tSl rSlS ta (tPart tb) tNoPart) σ H (.str (cutS z (some n) none)) := fun Q q =>
  ha _ (hb _ ⟨n, rfl, z, rfl, hz, q⟩)
end
section
variable {P : Program} {w : World} {K : PySem.W.Frag} {mg : Str → Option Value} {base : Heap}
/-- an error of a callee leaves the def as its own -/
theorem pxp {X : Cx} {E : XK} (hs : X.stack = X.env :: X.outer) (hf : X.env.frame = some X.env.locals) (hex : X.ex = []) {E₁ : Value → Shared → Prop}
    (hx : X.xe = fun e s' => wpAny (model X.prog X.w) X.A (leaving X.env e) (fun _ s'' => L2.CX X.prog X.w X.outer X.H_0 X.s_0 E e s'') E₁ s') : Passes (L2.CX X.prog X.w) X E :=
  passes_call (W := fun c d _ H => E c d H) (takes_of hs hf hex hx) fun _ _ _ _ h => h
theorem ok_Lines_init {f CL CT fE : Addr} {fd fdE : FuncData} (B : Bt mg) (L : ClL K CL) (F : Fun K "__init__" "Lines.__init__" s_Lines___init__ f fd) (T : Er K mg "BadText" CT fE) (FE : Fun K "__init__" "WireError.__init__" s_err fE fdE) (bE : Binds K fdE ["self", "value"] []) :
    FnOk P w K mg base (L2.CX P w) 4 f fd ["self", "text"] (spLinesInit CL CT) := by
  have GE : FnOk P w K mg base CX0 1 fE fdE ["self", "value"] (spErr K) := ok_err FE
  refine F.okX sc_Lines___init__ (fun vs H Q E h => ?_) (fun cdv A outer s H vs Q E hr h => ?_)
  · obtain ⟨l, dx, x, T, rfl, _⟩ := h
    rfl
  · obtain ⟨l, dx, x, Ty, rfl, hl, hx, k, ke⟩ := h
    have S := sc_Lines___init__
    refine ⟨_, (pss_cons (ps_if (pt_not (pt_val (pe_callB call_isi (by rfl) B.m_isinstance PyProof.Rows.boot_isinstance (pa_cons (pv 1) (pa_cons (pe_tyN bt_str (by rfl) B.m_str) pa_nil)))))
        (pss_one (ps_raise rfl (takes_of rfl rfl rfl rfl) (pmk_oex T.O T.iC T.tI GE (hr.mono (by decide)) bE .nil pass0 (by rfl) T.g (pa_cons (pe_un un_neg pe_int) pa_nil))))
        pss_nil)
      (pss_cons (ps_fld (pv 0) (pe_bm PySem.F.plainAttrs_str PySem.F.slot_str_split PySem.F.type_str_split mt_split (pv 1) (pa_cons pe_str pa_nil)) rfl)
      (pss_one (ps_fld (pv 0) pe_int rfl)))), ?_⟩
    refine (val_isi (val_var rfl) hx hx.str_) _ ⟨_, rfl, ?_⟩
    cases hx with
    | str z =>
      obtain ⟨hz, kk⟩ := k z rfl
      refine iteF ?_
      refine ⟨_, rfl, rfl, z, "\n", rfl, rfl, by decide +kernel, by have : z.length + 2 ≤ 10000000 := by omega
                                                                    exact big_size this, fun r nr => ?_⟩
      have nlr : l ≠ r := ne_of_none hl nr
      refine ⟨_, rfl, l, CL, dx, _, rfl, by rw [upd_ne nlr]; exact hl, L.cl, L.nr, by decide, ?_⟩
      refine ⟨_, rfl, l, CL, dx, _, rfl, upd_same, L.cl, L.na, by show 1 < 1000; decide, ?_⟩
      refine kk _ r (fun a o na e => ?_) nr ⟨?_, ?_, Nat.zero_le _⟩
      · rw [upd_ne na, upd_ne na, upd_ne (ne_of_none e nr)]
        exact e
      · rw [upd_same]
        have e : putF "at" (V.int 0) (putF "rows" (V.ref r) []) = lf r 0 := (put_tl (by decide +kernel)).trans rfl
        rw [e]
        rfl
      · rw [upd_ne nlr.symm, upd_ne nlr.symm, upd_same]
        rfl
    | _ =>
      refine iteT ?_
      exact raise_run T.O T.nv (val_neg val_c) (ke rfl)
theorem ok_words {f CL : Addr} {fd : FuncData} (B : Bt mg) (L : ClL K CL) (F : Fun K "words" "Lines.words" s_Lines_words f fd) : FnOk P w K mg base CX0 1 f fd ["self", "depth"] (spWords CL) := by
  refine F.ok sc_Lines_words (fun vs H Q E h => ?_) (fun cdv A outer s H vs Q E hr h => ?_)
  · obtain ⟨l, dx, r, rows, n, dp, rfl, _⟩ := h
    rfl
  · obtain ⟨l, dx, r, rows, n, dp, rfl, hl, sz, hd, k⟩ := h
    have S := sc_Lines_words
    refine ⟨_, (pss_cons (ps_set (i := 2) S.nd rfl (.inl rfl) (pe_op op_repS pe_str (pv 1)))
      (pss_cons (ps_if (PW.pt (pw_or (pt_cmpR op_eq (pe_fld (pv 0) rfl) (pe_callB call_len_seq (by rfl) B.m_len PySem.boot_len (pa_cons (pe_fld (pv 0) rfl) pa_nil)) (nomark _)) (pw_or1 (pt_not (pt_val (pe_bm PySem.F.plainAttrs_str PySem.F.slot_str_startswith PySem.F.type_str_startswith mt_startswith (pe_ix ix_list (pe_fld (pv 0) rfl) (pe_fld (pv 0) rfl) (fun _ _ => rfl)) (pa_cons (pv 2) pa_nil)))))))
        (pss_one (ps_ret (pe_lst pa_nil)))
        pss_nil)
      (pss_cons (ps_set (i := 3) S.nd rfl (.inl rfl) (pe_bm PySem.F.plainAttrs_str PySem.F.slot_str_split PySem.F.type_str_split mt_split (pe_slice sl_str (pe_ix ix_list (pe_fld (pv 0) rfl) (pe_fld (pv 0) rfl) (fun _ _ => rfl)) (po_some (pe_callB call_len_str (by rfl) B.m_len PySem.boot_len (pa_cons (pv 2) pa_nil))) po_none) (pa_cons pe_str pa_nil)))
      (pss_one (ps_ret (pe_ifExp (pt_cmpR op_in_seq pe_str (pv 3) (by rfl)) (pe_lst pa_nil) (pv 3))))))), ?_⟩
    have hm := margin_ok hd
    have hR : SqL K H r (rows.map V.str) := SqL.of hl.r
    refine (show Val _ _ _ (V.str (margin dp)) from val_repS val_c (val_var rfl) hm.1) _ ?_
    have vat : ∀ σ : L2.St, σ[0]? = some (some (.ref l)) → Val (tFld K (tVar 0) "at") σ H (.int n) := fun σ h0 => val_fld (val_var h0) hl.o L.cl L.na lf_at
    have vrw : ∀ σ : L2.St, σ[0]? = some (some (.ref l)) → Val (tFld K (tVar 0) "rows") σ H (.ref r) := fun σ h0 => val_fld (val_var h0) hl.o L.cl L.nr lf_rows
    by_cases c : n = rows.length
    · have e : wordsAt rows n dp = [] := by
        unfold wordsAt
        rw [c, List.getElem?_eq_none (Nat.le_refl _)]
      rw [e] at k
      refine (ans_or1 (ans_eq (vat _ rfl) (val_lenL (vrw _ rfl) hR) rfl (decide_eq_true (by rw [List.length_map, c])))) _ ?_
      refine iteT ⟨Nat.zero_le _, fun p np => ?_⟩
      exact k _ p (same_upd np) np upd_same
    · have hn : n < rows.length := by
        have := hl.le
        omega
      have hg : rows[n]? = some rows[n] := List.getElem?_eq_getElem hn
      have hgV : (rows.map V.str)[n]? = some (.str rows[n]) := by
        rw [List.getElem?_map, hg]
        rfl
      have hz : rows[n].length ≤ 10000 := sz.row _ (List.getElem_mem hn)
      have vrow : ∀ σ : L2.St, σ[0]? = some (some (.ref l)) → Val (tOp (rIxL K) (tFld K (tVar 0) "rows") (tFld K (tVar 0) "at")) σ H (.str rows[n]) := fun σ h0 => val_ixL (vrw σ h0) (vat σ h0) hR (atI_nat hgV)
      have ew : wordsAt rows n dp = rowWords rows[n] dp := by
        unfold wordsAt
        rw [hg]
      rw [ew] at k
      refine (ans_or (ans_eq (vat _ rfl) (val_lenL (vrw _ rfl) hR) rfl (decide_eq_false (by rw [List.length_map]; intro q; injection q with q; omega))) (ans_not (ans_val (val_sw (vrow _ rfl) (val_var rfl))))) _ ?_
      by_cases c2 : Txt.startswith rows[n] (margin dp) = true
      · have er : rowWords rows[n] dp = cleanWords (restWords rows[n] dp) := if_pos c2
        rw [er] at k
        rw [c2]
        refine iteF ?_
        dsimp only [tNext, tSeq, tAsg]
        refine (val_cutS (vrow _ rfl) (val_lenS (val_var rfl) (big_size (by have := hm.2; omega))) (big_size (by omega))) _ ?_
        have hc := cutS_le (z := rows[n]) (lo := some ((margin dp).length : Int)) (hi := none)
        refine ⟨rfl, _, " ", rfl, rfl, by decide +kernel, big_size (by omega), fun p np => ?_⟩
        have hp : (upd H p (.lst ((restWords rows[n] dp).map V.str))) p = some (.lst ((restWords rows[n] dp).map V.str)) := upd_same
        refine ⟨_, rfl, p, _, rfl, .inl (SqL.of hp), rfl, ?_, _, rfl, ?_⟩
        · rw [List.all_map, List.all_eq_true]
          intro z hz
          rfl
        · have s1 : Same H (upd H p (.lst ((restWords rows[n] dp).map V.str))) := same_upd np
          unfold cleanWords at k
          cases c4 : inV (.str "") ((restWords rows[n] dp).map V.str) with
          | true =>
            rw [c4, if_pos rfl] at k
            refine iteT ⟨Nat.zero_le _, fun q nq => ?_⟩
            exact k _ q (s1.trans (same_upd nq)) (s1.free nq) upd_same
          | false =>
            rw [c4, if_neg Bool.false_ne_true] at k
            exact iteF ⟨_, rfl, k _ p s1 np hp⟩
      · have er : rowWords rows[n] dp = [] := if_neg c2
        rw [er] at k
        rw [Bool.not_eq_true] at c2
        rw [c2]
        refine iteT ⟨Nat.zero_le _, fun p np => ?_⟩
        exact k _ p (same_upd np) np upd_same
theorem ok_begins {f fW CL : Addr} {fd fdW : FuncData} (B : Bt mg) (L : ClL K CL) (F : Fun K "begins" "Lines.begins" s_Lines_begins f fd) (M_words : Mf K CL "words" "Lines.words" s_Lines_words fW fdW ["self", "depth"]) :
    FnOk P w K mg base CX0 2 f fd ["self", "word"] (spBegins CL) := by
  have G_words : FnOk P w K mg base CX0 1 fW fdW ["self", "depth"] (spWords CL) := ok_words B L M_words.F
  refine F.ok sc_Lines_begins (fun vs H Q E h => ?_) (fun cdv A outer s H vs Q E hr h => ?_)
  · obtain ⟨l, dx, r, rows, n, z, rfl, _⟩ := h
    rfl
  · obtain ⟨l, dx, r, rows, n, z, rfl, hl, sz, hz, k⟩ := h
    have S := sc_Lines_begins
    refine ⟨_, (pss_one (ps_ret (pe_cmpR (op_eqD (by have := hr.units; exact this)) (pe_slice sl_list (pe_meth (pv 0) L.cl M_words.m G_words (hr.mono (by decide)) M_words.b .nil pass0 (pa_cons pe_int pa_nil)) po_none (po_some pe_int)) (pe_lst (pa_cons (pv 1) pa_nil)) (nomark _)))), ?_⟩
    refine ⟨_, rfl, l, dx, _, rfl, hl.o, lf_no (by decide +kernel) (by decide +kernel), ?_⟩
    refine ⟨l, dx, r, rows, n, 0, rfl, hl, sz, by decide, fun H1 p s1 np hp => ?_⟩
    refine ⟨1, rfl, p, _, rfl, SqL.of hp, fun q nq => ?_⟩
    refine ⟨_, rfl, by show 1 ≤ sizeLine; decide, fun o no => ?_⟩
    have s2 : Same H1 (upd H1 q (.lst (cutV ((wordsAt rows n 0).map V.str) none (some 1)))) := same_upd nq
    have s3 := same_upd (H := upd H1 q (.lst (cutV ((wordsAt rows n 0).map V.str) none (some 1)))) (o := .lst [V.str z]) no
    have ec : cutV ((wordsAt rows n 0).map V.str) none (some 1) = ((wordsAt rows n 0).take 1).map V.str := by
      unfold cutV
      rw [show HT.sIx ((wordsAt rows n 0).map V.str).length ((wordsAt rows n 0).map V.str).length (some 1) = min 1 ((wordsAt rows n 0).map V.str).length from HT.sIx_nat _ _ 1, HT.sIx_none, List.drop_zero, Nat.sub_zero, List.map_take]
      exact List.take_eq_take_min.symm
    have hq : SqL K (upd (upd H1 q (.lst (cutV ((wordsAt rows n 0).map V.str) none (some 1)))) o (.lst [V.str z])) q (((wordsAt rows n 0).take 1).map V.str) := by
      rw [← ec]
      exact SqL.of (s3 _ _ upd_same)
    refine ⟨.list (((wordsAt rows n 0).take 1).map PyData.str), .list ([z].map PyData.str), .lst hq (dpAll_strs _), .lst (SqL.of upd_same) (dpAll_strs [z]), shaped_strs fun y hy => (words_ok sz y (List.mem_of_mem_take hy)).1, shaped_strs fun y hy => ?_, ?_⟩
    · have e : y = z := by simpa using hy
      rw [e]
      exact hz
    · have e : PyData.eqv (.list (((wordsAt rows n 0).take 1).map PyData.str)) (.list ([z].map PyData.str)) = decide ((wordsAt rows n 0).take 1 = [z]) := by
        rw [PyData.eqv]
        exact eqv_strs _ _
      rw [e]
      exact k _ ((s1.trans s2).trans s3)
theorem ok_step {f CL : Addr} {fd : FuncData} (L : ClL K CL) (F : Fun K "step" "Lines.step" s_Lines_step f fd) : FnOk P w K mg base CX0 1 f fd ["self"] (spStep CL) := by
  refine F.ok sc_Lines_step (fun vs H Q E h => ?_) (fun cdv A outer s H vs Q E hr h => ?_)
  · obtain ⟨l, dx, r, rows, n, rfl, _⟩ := h
    rfl
  · obtain ⟨l, dx, r, rows, n, rfl, hl, hn, k⟩ := h
    refine ⟨_, (pss_one (ps_fldaug (pv 0) pe_int in_add)), ?_⟩
    refine ⟨_, rfl, l, CL, dx, _, _, rfl, hl.o, L.cl, L.na, lf_at, n, 1, rfl, rfl, dx, _, hl.o, by show 2 < 1000; decide, ?_⟩
    refine k _ (SameBut.upd l H _) ⟨?_, ?_, hn⟩
    · rw [upd_same, lf_put]
      rfl
    · rw [upd_ne (ne_of hl.r hl.o (by intro q; cases q))]
      exact hl.r
theorem ok_need {f CL CT fE : Addr} {fd fdE : FuncData} (L : ClL K CL) (F : Fun K "need" "Lines.need" s_Lines_need f fd) (T : Er K mg "BadText" CT fE) (FE : Fun K "__init__" "WireError.__init__" s_err fE fdE) (bE : Binds K fdE ["self", "value"] []) :
    FnOk P w K mg base (L2.CX P w) 4 f fd ["self", "right"] (spNeed K CL CT) := by
  have GE : FnOk P w K mg base CX0 1 fE fdE ["self", "value"] (spErr K) := ok_err FE
  refine F.okX sc_Lines_need (fun vs H Q E h => ?_) (fun cdv A outer s H vs Q E hr h => ?_)
  · obtain ⟨l, dx, r, rows, n, x, b, rfl, _⟩ := h
    rfl
  · obtain ⟨l, dx, r, rows, n, x, b, rfl, hl, ht, k, ke⟩ := h
    refine ⟨_, (pss_one (ps_if (pt_not (pt_truth (pv 1) (by intro _; rfl)))
        (pss_one (ps_raise rfl (takes_of rfl rfl rfl rfl) (pmk_oex T.O T.iC T.tI GE (hr.mono (by decide)) bE .nil pass0 (by rfl) T.g (pa_cons (pe_fld (pv 0) rfl) pa_nil))))
        pss_nil)), ?_⟩
    refine ⟨_, rfl, b, ht, ?_⟩
    cases b with
    | true => exact iteF (k rfl)
    | false =>
      refine iteT ?_
      exact raise_run T.O T.nv (val_fld (val_var rfl) hl.o L.cl L.na lf_at) (ke rfl)
theorem ok_need_end {f fN CL CT fE : Addr} {fd fdN fdE : FuncData} (B : Bt mg) (L : ClL K CL) (F : Fun K "need_end" "Lines.need_end" s_Lines_need_end f fd) (M_need : Mf K CL "need" "Lines.need" s_Lines_need fN fdN ["self", "right"]) (T : Er K mg "BadText" CT fE) (FE : Fun K "__init__" "WireError.__init__" s_err fE fdE) (bE : Binds K fdE ["self", "value"] []) :
    FnOk P w K mg base (L2.CX P w) 5 f fd ["self"] (spNeedEnd CL CT) := by
  have G_need : FnOk P w K mg base (L2.CX P w) 4 fN fdN ["self", "right"] (spNeed K CL CT) := ok_need L M_need.F T FE bE
  refine F.okX sc_Lines_need_end (fun vs H Q E h => ?_) (fun cdv A outer s H vs Q E hr h => ?_)
  · obtain ⟨l, dx, r, rows, n, rfl, _⟩ := h
    rfl
  · obtain ⟨l, dx, r, rows, n, rfl, hl, k, ke⟩ := h
    refine ⟨_, (pss_one (ps_expr (pe_meth (pv 0) L.cl M_need.m G_need (hr.mono (by decide)) M_need.b .nil (pxp rfl rfl rfl rfl) (pa_cons (pe_cmpR op_eq (pe_fld (pv 0) rfl) (pe_callB call_len_seq (by rfl) B.m_len PySem.boot_len (pa_cons (pe_fld (pv 0) rfl) pa_nil)) (nomark _)) pa_nil)))), ?_⟩
    refine ⟨_, rfl, l, dx, _, rfl, hl.o, lf_no (by decide +kernel) (by decide +kernel), ?_⟩
    have hR : SqL K H r (rows.map V.str) := SqL.of hl.r
    refine (val_op (val_fld (val_var rfl) hl.o L.cl L.na lf_at) (val_lenL (val_fld (val_var rfl) hl.o L.cl L.nr lf_rows) hR) fun Q q => ⟨rfl, q⟩) _ ?_
    refine ⟨l, dx, r, rows, n, _, _, rfl, hl, rfl, fun e => k ?_, fun e => ke ?_⟩
    · have := of_decide_eq_true e
      rw [List.length_map] at this
      injection this with this
      omega
    · have := of_decide_eq_false e
      rw [List.length_map] at this
      intro q
      exact this (by rw [q])
end
end K5
namespace K5
open PySem PySem.Spec PyProof.Rows L2
/-! ### x, *xs = a list -/
section
variable {prog : Program} {w : World} {A : Around} {E : Value → Shared → Prop} {s : Shared}
theorem star_items {a : Addr} {ys : Array Value} {Q : List Value → Shared → Prop} (ha : s.heap.IsList a ys) (hh : A.handled = none) (h1 : 1 ≤ ys.size) (few : ys.size ≤ 16384)
    (h : ∀ (h' : Heap) (tk : Nat), (∀ b o, s.heap.get? b = some o → h'.get? b = some o) → Q (ys.toList.take 1 ++ [.ref h'.objs.size]) { s with heap := h'.push { cls := .type "list", data := .seq (ys.toList.drop 1).toArray }, toks := tk }) :
    wpAny (model prog w) A (unpackItems (.ref a) 2 (some 1)) Q E s := by
  have na : a ≠ s.heap.objs.size := by
    obtain ⟨o, e, _⟩ := ha
    exact Nat.ne_of_lt (Heap.lt_size e)
  unfold unpackItems notIterableAtAll
  refine wpAny_bind (wpAny_bind (wpAny_specialOf ha.typeIs slot_list_iter.lookup (wpAny_pure ?_)))
  simp only [Bool.false_eq_true, if_false]
  refine wpAny_bind (wpAny_holding (wpAny_pyIter_list ha (wpAny_bind (wpAny_holding (PySem.W.kun_draw na 1 0 _ _ ⟨_, Heap.get?_push_size _ rfl, rfl, rfl⟩ (ha.push _) (by omega) fun g hit hs => ?_)))))
  rw [Nat.zero_add] at hit
  rw [List.drop_zero]
  have hg : g.IsList a ys := (ha.push _).extBut hs.extBut na
  have q1 := hit
  have q2 := hg
  obtain ⟨o1, e1, _⟩ := q1
  obtain ⟨o2, e2, _⟩ := q2
  have hf : (ys.toList.take 1).length = 1 := by
    rw [List.length_take, Array.length_toList]
    omega
  rw [if_neg (show ¬ (ys.toList.take 1).length < 1 by omega)]
  refine wpAny_bind (wpAny_holding (PySem.W.kun_collect (s := { s with heap := g }) (T := "list_iterator") (.inr (.inr (.inl rfl))) (Walks.list (A := A.in1) hh s.heap.objs.size a na ys) (fun j u st => st.1.typeIs) (k := 1) h1 ⟨hit, hg⟩ (Heap.lt_size e1) (Heap.lt_size e2) (fun g2 tk hk => ?_) (Nat.le_trans few (by decide))))
  have hd : (ys.toList.drop 1).length = ys.size - 1 := by rw [List.length_drop, Array.length_toList]
  show wpAny _ _ (if (ys.toList.drop 1).length < 2 - 1 - 1 then _ else _) _ _ _
  rw [if_neg (Nat.not_lt_zero _)]
  show wpAny _ _ (newList ((ys.toList.drop 1).take ((ys.toList.drop 1).length - 0)) >>= fun d => pure (ys.toList.take 1 ++ [d] ++ (ys.toList.drop 1).drop ((ys.toList.drop 1).length - 0))) _ _ _
  simp only [Nat.sub_zero, List.take_length, List.drop_length, List.append_nil]
  refine wpAny_bind (wpAny_newList (wpAny_pure (h g2 tk fun b o e => ?_)) (by rw [hd]; exact Nat.le_trans (Nat.sub_le _ _) (Nat.le_trans few (by decide))))
  exact hk b o (Nat.ne_of_lt (Heap.lt_size e)) (hs.extBut b o (Nat.ne_of_lt (Heap.lt_size e)) (Heap.get?_push_of_some _ e))
end
/-- (x, *xs) = a list of one item at least -/
def gStar (K : PySem.W.Frag) (t u : TG) : TG := fun v σ H Q => ∃ (a : Addr) (x : V) (xs : List V), v = .ref a ∧ SqL K H a (x :: xs) ∧ xs.length ≤ 16000 ∧ ∀ p, H p = none → t x σ (upd H p (.lst xs)) fun σ' H' => u (.ref p) σ' H' Q
theorem pg_star {X : Cx} {e1 e2 : Expr} {sp : Pos} {k : Nat} {pos : Pos} {t u : TG} (hc : X.calm = true) (h1 : PG X e1 t) (h2 : PG X e2 u)
    (hs : assignEach [e1, .Starred e2 sp] X.env = [(false, assign e1 X.env), (true, assign e2 X.env)] := by rfl) : PG X (.Tuple [e1, .Starred e2 sp] k pos) (gStar X.K t u) := by
  refine ⟨fun pins s σ H v w Q I r hw => ?_⟩
  obtain ⟨a, x, xs, ev, hq, hl, hw⟩ := hw
  subst ev
  cases r
  obtain ⟨things, rvs, isl, few⟩ := I.list hq
  have hL : s.heap.IsList a things.toArray := by
    obtain ⟨o, m, e, c, d, q⟩ := isl
    exact ⟨o, e, c, m, q⟩
  cases rvs with
  | cons r1 rr =>
    rename_i y ys
    have hlen := rr.length
    rw [PyProof.Rows.assign_Tuple]
    refine wpAny_bind (wpAny_standAt ?_)
    unfold unpack
    rw [hs]
    refine wpAny_bind (wpAny_holding (star_items hL (I.ok.hd hc) (by simp) (by simp; omega) fun h' tk hk => ?_))
    have I1 : Inv X pins σ H { s with heap := h', toks := tk } := I.kept (t' := tk) hk
    have nf : H h'.objs.size = none := I1.hok.fresh (Nat.le_refl _)
    have I2 : Inv X pins σ (upd H h'.objs.size (.lst xs)) { s with heap := h'.push { cls := .type "list", data := .seq ys.toArray }, toks := tk } := by
      refine I1.laid (t' := tk) (fun b o e => Heap.get?_push_of_some _ e) (Nat.le_refl _) ?_
      exact ⟨Nat.le_trans hl (by decide), ys, 0, rr, Heap.get?_push_size _ rfl⟩
    show wpAny _ _ (assignInOrder [assign e1 X.env, assign e2 X.env] [y, .ref h'.objs.size]) _ _ _
    refine assignInOrder_cons (thn (h1.run pins _ σ _ x y _ I2 r1 (hw _ nf)) fun _ s1 ⟨σ1, H1, I3, q1⟩ => ?_)
    refine assignInOrder_cons (thn (h2.run pins s1 σ1 H1 (.ref h'.objs.size) _ _ I3 rfl q1) fun _ s2 ⟨σ2, H2, I4, q2⟩ => ?_)
    exact assignInOrder_nil ⟨σ2, H2, I4, q2⟩
end K5
namespace K5
open PySem PySem.Spec PyProof.Rows L2
/-! ### the reader of statements: what it holds -/
structure Ad where
  (l dl r g dg ct pt st ak : Addr)
structure Tx where
  (rows : List Str) (w : Int) (cells ports : List Str)
structure TxOk (T : Tx) : Prop where
  sz : Sz T.rows
  c : T.cells.length ≤ 3
  p : T.ports.length ≤ 2
def pNames : List Str := ["lines", "worths", "cells", "ports", "steps", "asks", "many"]
def pf (A : Ad) (T : Tx) (m : Nat) : List (Str × V) := [("lines", .ref A.l), ("worths", .int T.w), ("cells", .ref A.ct), ("ports", .ref A.pt), ("steps", .ref A.st), ("asks", .ref A.ak), ("many", .int m)]
theorem lk_none {m : Str} : ∀ {fs : List (Str × V)}, (∀ x ∈ fs.map (·.1), ¬ m = x) → fs.lookup m = none
  | [], _ => rfl
  | (g, v) :: r, h => (lk_tl (h g (by simp))).trans (lk_none fun x hx => h x (by simp at hx ⊢; exact .inr hx))
theorem pf_no {A : Ad} {T : Tx} {k : Nat} {m : Str} (h : ∀ x ∈ pNames, ¬ m = x) : (pf A T k).lookup m = none := lk_none h
section
variable {A : Ad} {T : Tx} {m k : Nat}
theorem pf_lines : (pf A T m).lookup ("lines" : Str) = some (.ref A.l) := lk_hd
theorem pf_worths : (pf A T m).lookup ("worths" : Str) = some (.int T.w) := (lk_tl (by decide +kernel)).trans lk_hd
theorem pf_cells : (pf A T m).lookup ("cells" : Str) = some (.ref A.ct) := (lk_tl (by decide +kernel)).trans ((lk_tl (by decide +kernel)).trans lk_hd)
theorem pf_ports : (pf A T m).lookup ("ports" : Str) = some (.ref A.pt) := (lk_tl (by decide +kernel)).trans ((lk_tl (by decide +kernel)).trans ((lk_tl (by decide +kernel)).trans lk_hd))
theorem pf_steps : (pf A T m).lookup ("steps" : Str) = some (.ref A.st) := (lk_tl (by decide +kernel)).trans ((lk_tl (by decide +kernel)).trans ((lk_tl (by decide +kernel)).trans ((lk_tl (by decide +kernel)).trans lk_hd)))
theorem pf_asks : (pf A T m).lookup ("asks" : Str) = some (.ref A.ak) := (lk_tl (by decide +kernel)).trans ((lk_tl (by decide +kernel)).trans ((lk_tl (by decide +kernel)).trans ((lk_tl (by decide +kernel)).trans ((lk_tl (by decide +kernel)).trans lk_hd))))
theorem pf_many : (pf A T m).lookup ("many" : Str) = some (.int m) := (lk_tl (by decide +kernel)).trans ((lk_tl (by decide +kernel)).trans ((lk_tl (by decide +kernel)).trans ((lk_tl (by decide +kernel)).trans ((lk_tl (by decide +kernel)).trans ((lk_tl (by decide +kernel)).trans lk_hd)))))
theorem pf_put : putF "many" (.int k) (pf A T m) = pf A T k := by
  unfold pf
  rw [put_tl (by decide +kernel), put_tl (by decide +kernel), put_tl (by decide +kernel), put_tl (by decide +kernel), put_tl (by decide +kernel), put_tl (by decide +kernel), put_hd]
end
structure ClP (K : PySem.W.Frag) (C : Addr) : Prop where
  cl : Cls K C
  na : ∀ x ∈ pNames, NoAttr K C x
section
variable {K : PySem.W.Frag} {C : Addr}
theorem ClP.lines (c : ClP K C) : NoAttr K C "lines" := c.na _ (by decide +kernel)
theorem ClP.worths (c : ClP K C) : NoAttr K C "worths" := c.na _ (by decide +kernel)
theorem ClP.cells (c : ClP K C) : NoAttr K C "cells" := c.na _ (by decide +kernel)
theorem ClP.ports (c : ClP K C) : NoAttr K C "ports" := c.na _ (by decide +kernel)
theorem ClP.steps (c : ClP K C) : NoAttr K C "steps" := c.na _ (by decide +kernel)
theorem ClP.asks (c : ClP K C) : NoAttr K C "asks" := c.na _ (by decide +kernel)
theorem ClP.many (c : ClP K C) : NoAttr K C "many" := c.na _ (by decide +kernel)
end
/-- a tuple of which the very object is known: it has no dict of its own -/
def FT (H : Hp) (a : Addr) (xs : List V) : Prop := ∃ ob : Obj, H a = some (.frz ob (.tup xs)) ∧ ob.dict = none
theorem FT.mono {H H' : Hp} {a : Addr} {xs : List V} (h : FT H a xs) (e : Same H H') : FT H' a xs := by
  obtain ⟨ob, h1, h2⟩ := h
  exact ⟨ob, e _ _ h1, h2⟩
theorem FT.sq {K : PySem.W.Frag} {H : Hp} {a : Addr} {xs : List V} (h : FT H a xs) : SqT K H a xs := by
  obtain ⟨ob, h1, _⟩ := h
  exact .inl (.inr ⟨ob, h1⟩)
/-- t.index(z), t such a tuple of texts, z among them -/
def tTupIx (K : PySem.W.Frag) (to : TE) (t : TA) : TE := fun σ H Q => to σ H fun x H1 => ∃ (p : Addr) (ys : List Str), x = .ref p ∧ FT H1 p (ys.map V.str) ∧ t σ H1 fun vs H2 => ∃ (z : Str) (j : Nat), vs = [.str z] ∧ SqT K H2 p (ys.map V.str) ∧ ys[j]? = some z ∧ (∀ m, m < j → ys[m]? ≠ some z) ∧ Q (.int (j : Nat)) H2
theorem pe_tupIx {X : Cx} {o e : Expr} {to : TE} {t : TA} {apos cpos : Pos} (ho : PE X o to) (ha : PA X [e] t)
    (hbase : attributeBase o "index" X.env (eval o X.env) = eval o X.env := by rfl)
    (hfew : ((backTo cpos (starEach [e] X.env)).all (fun x => !x.1) && (backToKw cpos (keywordEach [] X.env)).all (fun x => x.1.isSome) && decide (([e] : List Expr).length + ([] : List Keyword).length + (if ([] : List Keyword).isEmpty then 0 else 1) < 30)) = true := by rfl)
    (hline : (apos.endLine == cpos.line) = true := by rfl) 
    (star1 : starEach [e] X.env = (false, eval e X.env) :: starEach [] X.env := by rfl) (hplain : (backTo cpos (starEach [] X.env)).any (·.1) = false := by rfl) :
    PE X (.Call (.Attribute o "index" apos) [e] [] cpos) (tTupIx X.K to t) := by
  refine ⟨fun pins s σ H Q I h => wpAny_Call_method_late hbase hfew hline rfl (thn (ho.run pins s σ H _ I h) fun v s1 ⟨x, H1, I1, r1, p, ys, ex, hF, q1⟩ => ?_)⟩
  subst ex
  cases r1
  obtain ⟨ob, hob, hd⟩ := hF
  have hok : s1.heap.get? p = some ob ∧ ObjOk X.prog X.w H1 s1.heap p (.tup (ys.map V.str)) := I1.hok p _ hob
  obtain ⟨h1, _, its, _, o2, h2, hc, _⟩ := hok
  refine ⟨"tuple", "tuple.index", PySem.F.plainAttrs_tuple, PySem.F.slot_tuple_index, PySem.F.type_tuple_index, ⟨o2, h2, hc⟩, fun a e2 => ?_, ?_⟩
  · cases e2
    exact ⟨ob, h1, hd⟩
  · have hA := ha.run cpos pins s1 σ H1 _ I1 q1
    rw [star1] at hA ⊢
    refine Calls.callWith_builtin (by show (false || (backTo cpos (starEach [] X.env)).any (·.1)) = false; rw [hplain] <;> rfl) (Calls.evalArgs_plain (thn hA fun us s2 ⟨vs, H2, I2, r2, z, j, ev, hS, hj, hf, q2⟩ => ?_))
    exact mt_tup_index pins s2 σ H2 (.ref p) vs (.ref p) us Q I2 rfl r2 ⟨p, ys, z, j, rfl, ev, hS, hj, hf, q2⟩
/-- a step: a tuple of one item at least -/
def StepAt (H : Hp) (x : V) : Prop := ∃ (a : Addr) (y : V) (ys : List V), x = .ref a ∧ H a = some (.tup (y :: ys)) ∧ ys.length ≤ 10
/-- a step, perhaps with a place behind it -/
def StepB (H : Hp) (x : V) : Prop := ∃ (a : Addr) (y : V) (ys : List V), x = .ref a ∧ H a = some (.tup (y :: ys)) ∧ ys.length ≤ 20
theorem StepAt.b {H : Hp} {x : V} (h : StepAt H x) : StepB H x := by
  obtain ⟨a, y, ys, e, h1, h2⟩ := h
  exact ⟨a, y, ys, e, h1, by omega⟩
theorem StepB.mono {H H' : Hp} {x : V} (h : StepB H x) (e : Same H H') : StepB H' x := by
  obtain ⟨a, y, ys, rfl, h1, h2⟩ := h
  exact ⟨a, y, ys, rfl, e _ _ h1, h2⟩
/-- the reader at A.g over the lines at A.l, at line n, m statements read; H0: what stood before -/
structure Wd (CL CP : Addr) (A : Ad) (T : Tx) (H0 H : Hp) (n m : Nat) (xs : List V) (kvs : List (Key × V)) : Prop where
  s0 : Same H0 H
  l0 : H0 A.l = none
  g0 : H0 A.g = none
  st0 : H0 A.st = none
  ak0 : H0 A.ak = none
  lg : A.l ≠ A.g
  li : LinesAt CL H A.l A.dl A.r T.rows n
  pg : H A.g = some (.ins CP A.dg (pf A T m))
  ct : FT H A.ct (T.cells.map V.str)
  pt : H A.pt = some (.tup (T.ports.map V.str))
  st : H A.st = some (.lst xs)
  sx : ∀ x ∈ xs, StepB H x
  ak : H A.ak = some (.dK kvs)
  rst : A.r ≠ A.st
theorem StepAt.mono {H H' : Hp} {x : V} (h : StepAt H x) (e : Same H H') : StepAt H' x := by
  obtain ⟨a, y, ys, rfl, h1, h2⟩ := h
  exact ⟨a, y, ys, rfl, e _ _ h1, h2⟩
section
variable {CL CP : Addr} {A : Ad} {T : Tx} {H0 H H' : Hp} {n m : Nat} {xs : List V} {kvs : List (Key × V)}
theorem Wd.mono (p : Wd CL CP A T H0 H n m xs kvs) (e : Same H H') : Wd CL CP A T H0 H' n m xs kvs where
  s0 := p.s0.trans e
  l0 := p.l0
  g0 := p.g0
  st0 := p.st0
  ak0 := p.ak0
  lg := p.lg
  li := p.li.mono e
  pg := e _ _ p.pg
  ct := p.ct.mono e
  pt := e _ _ p.pt
  st := e _ _ p.st
  sx := fun x hx => (p.sx x hx).mono e
  ak := e _ _ p.ak
  rst := p.rst
end
/-! ### in -/
theorem inV_strs (z : Str) : ∀ l : List Str, inV (.str z) (l.map V.str) = decide (z ∈ l)
  | [] => by simp [inV]
  | y :: r => by
    have ih := inV_strs z r
    unfold inV at ih ⊢
    rw [List.map_cons, List.any_cons, ih]
    by_cases h : z = y
    · subst h
      simp [eqV]
    · have h2 : (y == z) = false := by
        rw [beq_eq_false_iff_ne]
        exact fun e => h e.symm
      simp [eqV, h, h2]
theorem flat_strs (l : List Str) : (l.map V.str).all flatV = true := by
  rw [List.all_map, List.all_eq_true]
  intro z _
  rfl
section
variable {X : Cx} {K : PySem.W.Frag} {σ : L2.St} {H : Hp} {ta tb tc : TE} {t u : TT} {i j k : Int} {p : Addr} {xs : List V} {v x : V} {a b : Bool}
theorem val_inT {z : Str} {l : List Str} (ha : Val ta σ H (.str z)) (hb : Val tb σ H (.ref p)) (hS : SqT K H p (l.map V.str)) : Val (tOp (rIn K false) ta tb) σ H (.bl (decide (z ∈ l))) :=
  val_op ha hb fun Q q => ⟨p, _, rfl, .inr hS, rfl, flat_strs l, by
    show Q (.bl (inV (.str z) (l.map V.str))) H
    rw [inV_strs]
    exact q⟩
/-- x in a pair of texts written there -/
theorem run_in2 {z s1 s2 : Str} {Q : VK} (ha : Val ta σ H (.str z)) (q : ∀ H', Same H H' → Q (.bl (decide (z ∈ [s1, s2]))) H') : tOp (rIn K false) ta (tTup (tCons (tC (.str s1)) (tCons (tC (.str s2)) tNil))) σ H Q := by
  refine ha _ ⟨by show 2 ≤ sizeLine; decide, fun p np => ?_⟩
  refine ⟨p, [.str s1, .str s2], rfl, .inr (SqT.of upd_same), rfl, rfl, ?_⟩
  show Q (.bl (inV (.str z) ([s1, s2].map V.str))) _
  rw [inV_strs]
  exact q _ (same_upd np)
end
/-! ### what a word of an expression may be -/
def srcOk (T : Tx) (z : Str) : Bool := decide (z ∈ (["it", "got"] : List Str)) || decide (z ∈ T.cells) || decide (0 ≤ numOf z T.w)
def condOk (T : Tx) (ws : List Str) : Bool :=
  (decide (ws.length = 1) && decide (ws.getD 0 "" ∈ (["lost", "busy"] : List Str))) ||
  (decide (ws.length = 3) && decide (ws.getD 1 "" ∈ (["=", "!="] : List Str)) && srcOk T (ws.getD 0 "") && srcOk T (ws.getD 2 ""))
/-- its place in a list -/
theorem first_at {z : Str} : ∀ {l : List Str}, z ∈ l → ∃ j : Nat, l[j]? = some z ∧ ∀ m : Nat, m < j → l[m]? ≠ some z
  | y :: r, h => by
    by_cases e : y = z
    · exact ⟨0, by rw [e]; rfl, fun m hm => absurd hm (Nat.not_lt_zero _)⟩
    · obtain ⟨j, h1, h2⟩ := first_at (l := r) (by
        rcases List.mem_cons.mp h with q | q
        · exact absurd q.symm e
        · exact q)
      refine ⟨j + 1, h1, fun m hm => ?_⟩
      cases m with
      | zero => exact fun q => e (Option.some.inj q)
      | succ m => exact h2 m (Nat.lt_of_succ_lt_succ hm)
/-! ### promises -/
def spCell (CL CP CT : Addr) : Sp := fun vs H Q E => ∃ (A : Ad) (T : Tx) (H0 : Hp) (n m : Nat) (xs : List V) (kvs : List (Key × V)) (z : Str), vs = [.ref A.g, .str z] ∧ Wd CL CP A T H0 H n m xs kvs ∧ TxOk T ∧
  (z ∈ T.cells → ∀ i : Nat, Q (.int i) H) ∧ (z ∉ T.cells → ErrK CT (.int n) H E)
def spSource (CL CP CT : Addr) : Sp := fun vs H Q E => ∃ (A : Ad) (T : Tx) (H0 : Hp) (n m : Nat) (xs : List V) (kvs : List (Key × V)) (z : Str), vs = [.ref A.g, .str z] ∧ Wd CL CP A T H0 H n m xs kvs ∧ TxOk T ∧ z.length ≤ 10000 ∧
  (srcOk T z = true → ∀ (H' : Hp) (x : V), Same H H' → StepAt H' x → Q x H') ∧ (srcOk T z = false → ErrK CT (.int n) H E)
def spCond (CL CP CT : Addr) : Sp := fun vs H Q E => ∃ (A : Ad) (T : Tx) (H0 : Hp) (n m : Nat) (xs : List V) (kvs : List (Key × V)) (p : Addr) (ws : List Str), vs = [.ref A.g, .ref p] ∧ Wd CL CP A T H0 H n m xs kvs ∧ TxOk T ∧
  H p = some (.lst (ws.map V.str)) ∧ (∀ z ∈ ws, z.length ≤ 10000) ∧
  (condOk T ws = true → ∀ (H' : Hp) (x : V), Same H H' → StepAt H' x → Q x H') ∧ (condOk T ws = false → ErrK CT (.int n) H E)
end K5
namespace K5
open PySem PySem.Spec PyProof.Rows L2
abbrev s_Program_cell : Stmt := inClass (topS 16) 9
theorem sc_Program_cell : FnScope ["self", "word"] ["self", "word"] (defScope s_Program_cell) := ⟨rfl, rfl, rfl, by decide +kernel, rfl, by decide +kernel, by decide +kernel⟩
abbrev s_Program_source : Stmt := inClass (topS 16) 10
theorem sc_Program_source : FnScope ["self", "word", "worth"] ["self", "word"] (defScope s_Program_source) := ⟨rfl, rfl, rfl, by decide +kernel, rfl, by decide +kernel, by decide +kernel⟩
abbrev s_Program_condition : Stmt := inClass (topS 16) 11
theorem sc_Program_condition : FnScope ["self", "words"] ["self", "words"] (defScope s_Program_condition) := ⟨rfl, rfl, rfl, by decide +kernel, rfl, by decide +kernel, by decide +kernel⟩
/-- what stands at the names of the top, as far as the readers ask -/
structure En (P : Program) (w : World) (K : PySem.W.Frag) (mg : Str → Option Value) (base : Heap) (CL CP CT : Addr) (fNeed fNum fDoor : Addr) (dNeed dNum dDoor : FuncData) : Prop where
  B : Bt mg
  L : ClL K CL
  C : ClP K CP
  Mn : Mf K CL "need" "Lines.need" s_Lines_need fNeed dNeed ["self", "right"]
  Gn : FnOk P w K mg base (L2.CX P w) 4 fNeed dNeed ["self", "right"] (spNeed K CL CT)
  Du : Df K mg "number" s_number fNum dNum ["word", "many"]
  Gu : FnOk P w K mg base CX0 1 fNum dNum ["word", "many"] spNumber
  Dd : Df K mg "is_door" s_is_door fDoor dDoor ["value"]
  Gd : FnOk P w K mg base CX0 2 fDoor dDoor ["value"] spIsDoor
theorem meth_run {C a dx : Addr} {m : Str} {fs : List (Str × V)} {sp : Sp} {E : XK} {ta : TE} {t : TA} {σ : L2.St} {H : Hp} {Q : VK} (ho : Val ta σ H (.ref a)) (ha : H a = some (.ins C dx fs)) (hm : fs.lookup m = none) (h : t σ H fun vs H2 => sp (.ref a :: (vs ++ [])) H2 Q E) :
    tMeth C m sp [] E ta t σ H Q := ho _ ⟨a, dx, fs, rfl, ha, hm, h⟩
theorem tix_run {K : PySem.W.Frag} {to te : TE} {σ : L2.St} {H : Hp} {Q : VK} {p : Addr} {ys : List Str} {z : Str} {j : Nat} (ho : Val to σ H (.ref p)) (he : Val te σ H (.str z)) (hF : FT H p (ys.map V.str)) (hj : ys[j]? = some z) (hf : ∀ m, m < j → ys[m]? ≠ some z) (q : Q (.int (j : Nat)) H) :
    tTupIx K to (tCons te tNil) σ H Q := ho _ ⟨p, ys, rfl, hF, he _ ⟨z, j, rfl, hF.sq, hj, hf, q⟩⟩
theorem bm_run {K : PySem.W.Frag} {T : String} {r : V → List V → Hp → VK → Prop} {to : TE} {t : TA} {σ : L2.St} {H : Hp} {Q : VK} {x : V} (ho : Val to σ H x) (ht : tyV K T x H) (ha : t σ H fun vs H2 => r x vs H2 Q) : tBM K T r to t σ H Q := ho _ ⟨ht, ha⟩
section
variable {P : Program} {w : World} {K : PySem.W.Frag} {mg : Str → Option Value} {base : Heap} {CL CP CT fNeed fNum fDoor : Addr} {dNeed dNum dDoor : FuncData}
theorem ok_cell {f : Addr} {fd : FuncData} (N : En P w K mg base CL CP CT fNeed fNum fDoor dNeed dNum dDoor) (F : Fun K "cell" "Program.cell" s_Program_cell f fd) : FnOk P w K mg base (L2.CX P w) 5 f fd ["self", "word"] (spCell CL CP CT) := by
  refine F.okX sc_Program_cell (fun vs H Q E h => ?_) (fun cdv A0 outer s H vs Q E hr h => ?_)
  · obtain ⟨A, T, H0, n, m, xs, kvs, z, rfl, _⟩ := h
    rfl
  · obtain ⟨A, T, H0, n, m, xs, kvs, z, rfl, pw, tx, k, ke⟩ := h
    refine ⟨_, (pss_cons (ps_expr (pe_meth (pe_fld (pv 0) rfl) N.L.cl N.Mn.m N.Gn (hr.mono (by decide)) N.Mn.b .nil (pxp rfl rfl rfl rfl) (pa_cons (pe_cmpR op_in_seq (pv 1) (pe_fld (pv 0) rfl) (by rfl)) pa_nil)))
      (pss_one (ps_ret (pe_tupIx (pe_fld (pv 0) rfl) (pa_cons (pv 1) pa_nil))))), ?_⟩
    have hC : SqT K H A.ct (T.cells.map V.str) := pw.ct.sq
    refine meth_run (val_fld (val_var rfl) pw.pg N.C.cl N.C.lines pf_lines) pw.li.o (lf_no (by decide +kernel) (by decide +kernel)) ?_
    refine (val_inT (val_var rfl) (val_fld (val_var rfl) pw.pg N.C.cl N.C.cells pf_cells) hC) _ ?_
    refine ⟨A.l, A.dl, A.r, T.rows, n, _, _, rfl, pw.li, rfl, fun e => ?_, fun e => ke (of_decide_eq_false e)⟩
    have hz := of_decide_eq_true e
    obtain ⟨j, hj, hf⟩ := first_at hz
    exact tix_run (val_fld (val_var rfl) pw.pg N.C.cl N.C.cells pf_cells) (val_var rfl) pw.ct hj hf (k hz j)
theorem ok_source {f : Addr} {fd : FuncData} (N : En P w K mg base CL CP CT fNeed fNum fDoor dNeed dNum dDoor) (F : Fun K "source" "Program.source" s_Program_source f fd) : FnOk P w K mg base (L2.CX P w) 5 f fd ["self", "word"] (spSource CL CP CT) := by
  refine F.okX sc_Program_source (fun vs H Q E h => ?_) (fun cdv A0 outer s H vs Q E hr h => ?_)
  · obtain ⟨A, T, H0, n, m, xs, kvs, z, rfl, _⟩ := h
    rfl
  · obtain ⟨A, T, H0, n, m, xs, kvs, z, rfl, pw, tx, hz, k, ke⟩ := h
    have S := sc_Program_source
    refine ⟨_, (pss_cons (ps_if (pt_cmpR op_in_seq (pv 1) (pe_tup (pa_cons pe_str (pa_cons pe_str pa_nil))) (by rfl))
        (pss_one (ps_ret (pe_tup (pa_cons (pv 1) (pa_cons pe_int pa_nil)))))
        pss_nil)
      (pss_cons (ps_if (pt_cmpR op_in_seq (pv 1) (pe_fld (pv 0) rfl) (by rfl))
        (pss_one (ps_ret (pe_tup (pa_cons pe_str (pa_cons (pe_tupIx (pe_fld (pv 0) rfl) (pa_cons (pv 1) pa_nil)) pa_nil)))))
        pss_nil)
      (pss_cons (ps_set (i := 2) S.nd rfl (.inl rfl) (pe_call N.Gu (hr.mono (by decide)) (by rfl) N.Du.g N.Du.F.kp N.Du.b .nil pass0 (pa_cons (pv 1) (pa_cons (pe_fld (pv 0) rfl) pa_nil))))
      (pss_cons (ps_expr (pe_meth (pe_fld (pv 0) rfl) N.L.cl N.Mn.m N.Gn (hr.mono (by decide)) N.Mn.b .nil (pxp rfl rfl rfl rfl) (pa_cons (pe_cmpR op_ge (pv 2) pe_int (nomark _)) pa_nil)))
      (pss_one (ps_ret (pe_tup (pa_cons pe_str (pa_cons (pv 2) pa_nil))))))))), ?_⟩
    refine run_in2 (val_var rfl) fun H1 s1 => ⟨_, rfl, ?_⟩
    have p1 := pw.mono s1
    by_cases c1 : z ∈ (["it", "got"] : List Str)
    · rw [decide_eq_true c1]
      refine iteT ⟨_, rfl, by show 2 ≤ sizeLine; decide, fun p np => ?_⟩
      refine k ?_ _ _ (s1.trans (same_upd np)) ⟨p, _, _, rfl, upd_same, Nat.le_of_ble_eq_true rfl⟩
      unfold srcOk
      rw [decide_eq_true c1]
      rfl
    · rw [decide_eq_false c1]
      refine iteF ?_
      dsimp only [tNext, tSeq, tIfS]
      have hC : SqT K H1 A.ct (T.cells.map V.str) := p1.ct.sq
      refine (val_inT (val_var rfl) (val_fld (val_var rfl) p1.pg N.C.cl N.C.cells pf_cells) hC) _ ⟨_, rfl, ?_⟩
      by_cases c2 : z ∈ T.cells
      · rw [decide_eq_true c2]
        obtain ⟨j, hj, hf⟩ := first_at c2
        refine iteT ?_
        dsimp only [tRet, tTup, tCons, tC]
        refine tix_run (val_fld (val_var rfl) p1.pg N.C.cl N.C.cells pf_cells) (val_var rfl) p1.ct hj hf ?_
        refine ⟨by show 2 ≤ sizeLine; decide, fun p np => ?_⟩
        refine k ?_ _ _ (s1.trans (same_upd np)) ⟨p, _, _, rfl, upd_same, Nat.le_of_ble_eq_true rfl⟩
        unfold srcOk
        rw [decide_eq_true c2, Bool.or_true, Bool.true_or]
      · rw [decide_eq_false c2]
        refine iteF ?_
        dsimp only [tNext, tSeq, tAsg]
        refine (val_call (va_cons (val_var rfl) (va_cons (val_fld (val_var rfl) p1.pg N.C.cl N.C.worths pf_worths) va_nil)) fun Q q => ⟨z, T.w, rfl, by omega, q⟩) _ ?_
        refine meth_run (val_fld (val_var rfl) p1.pg N.C.cl N.C.lines pf_lines) p1.li.o (lf_no (by decide +kernel) (by decide +kernel)) ?_
        refine (val_i0b (val_var rfl) val_c) _ ?_
        have e : srcOk T z = decide (0 ≤ numOf z T.w) := by
          unfold srcOk
          rw [decide_eq_false c1, decide_eq_false c2]
          rfl
        refine ⟨A.l, A.dl, A.r, T.rows, n, _, _, rfl, p1.li, rfl, fun e2 => ?_, fun e2 => (ke (e.trans e2)).mono s1⟩
        refine ⟨_, rfl, by show 2 ≤ sizeLine; decide, fun p np => ?_⟩
        exact k (e.trans e2) _ _ (s1.trans (same_upd np)) ⟨p, _, _, rfl, upd_same, Nat.le_of_ble_eq_true rfl⟩
theorem dec_len {l : List V} {n : Nat} : decide (V.int (l.length : Int) = V.int (n : Int)) = decide (l.length = n) := by
  by_cases h : l.length = n
  · rw [h, decide_eq_true rfl, decide_eq_true rfl]
  · rw [decide_eq_false h]
    exact decide_eq_false fun e => by
      injection e with e
      omega
theorem ok_condition {f fS : Addr} {fd dS : FuncData} (N : En P w K mg base CL CP CT fNeed fNum fDoor dNeed dNum dDoor) (F : Fun K "condition" "Program.condition" s_Program_condition f fd) (M_source : Mf K CP "source" "Program.source" s_Program_source fS dS ["self", "word"]) : FnOk P w K mg base (L2.CX P w) 6 f fd ["self", "words"] (spCond CL CP CT) := by
  have G_source : FnOk P w K mg base (L2.CX P w) 5 fS dS ["self", "word"] (spSource CL CP CT) := ok_source N M_source.F
  refine F.okX sc_Program_condition (fun vs H Q E h => ?_) (fun cdv A0 outer s H vs Q E hr h => ?_)
  · obtain ⟨A, T, H0, n, m, xs, kvs, p, ws, rfl, _⟩ := h
    rfl
  · obtain ⟨A, T, H0, n, m, xs, kvs, p, ws, rfl, pw, tx, hp, hz, k, ke⟩ := h
    refine ⟨_, (pss_cons (ps_if (PW.pt (pw_and (pt_cmpR op_eq (pe_callB call_len_seq (by rfl) N.B.m_len PySem.boot_len (pa_cons (pv 1) pa_nil)) pe_int (nomark _)) (pw_and1 (pt_cmpR op_in_seq (pe_ix ix_list (pv 1) pe_int (fun _ _ => rfl)) (pe_tup (pa_cons pe_str (pa_cons pe_str pa_nil))) (by rfl)))))
        (pss_one (ps_ret (pe_tup (pa_cons (pe_ix ix_list (pv 1) pe_int (fun _ _ => rfl)) pa_nil))))
        pss_nil)
      (pss_cons (ps_expr (pe_meth (pe_fld (pv 0) rfl) N.L.cl N.Mn.m N.Gn (hr.mono (by decide)) N.Mn.b .nil (pxp rfl rfl rfl rfl) (pa_cons (pe_and (pe_cmpR op_eq (pe_callB call_len_seq (by rfl) N.B.m_len PySem.boot_len (pa_cons (pv 1) pa_nil)) pe_int (nomark _)) (pe_one (pe_cmpR op_in_seq (pe_ix ix_list (pv 1) pe_int (fun _ _ => rfl)) (pe_tup (pa_cons pe_str (pa_cons pe_str pa_nil))) (by rfl)))) pa_nil)))
      (pss_one (ps_ret (pe_tup (pa_cons (pe_ix ix_list (pv 1) pe_int (fun _ _ => rfl)) (pa_cons (pe_meth (pv 0) N.C.cl M_source.m G_source (hr.mono (by decide)) M_source.b .nil (pxp rfl rfl rfl rfl) (pa_cons (pe_ix ix_list (pv 1) pe_int (fun _ _ => rfl)) pa_nil)) (pa_cons (pe_meth (pv 0) N.C.cl M_source.m G_source (hr.mono (by decide)) M_source.b .nil (pxp rfl rfl rfl rfl) (pa_cons (pe_ix ix_list (pv 1) pe_int (fun _ _ => rfl)) pa_nil)) pa_nil)))))))), ?_⟩
    have hL : (ws.map V.str).length = ws.length := List.length_map ..
    have sq : ∀ {H' : Hp}, Same H H' → SqL K H' p (ws.map V.str) := fun e => SqL.of (e _ _ hp)
    -- what stands behind the first test, once it is false
    have tail : ∀ H1 : Hp, Same H H1 → (decide (ws.length = 1) && decide (ws.getD 0 "" ∈ (["lost", "busy"] : List Str))) = false → (tSeq (tDrop (tMeth CL "need" (spNeed K CL CT) [] E (tFld K (tVar 0) "lines") (tCons (tAndV (tOp rEq (tCB (rLenSq K) (tCons (tVar 1) tNil)) (tC (.int 3))) (tOp (rIn K false) (tOp (rIxL K) (tVar 1) (tC (.int 1))) (tTup (tCons (tC (.str "=")) (tCons (tC (.str "!=")) tNil))))) tNil)))
        (tRet (tTup (tCons (tOp (rIxL K) (tVar 1) (tC (.int 1))) (tCons (tMeth CP "source" (spSource CL CP CT) [] E (tVar 0) (tCons (tOp (rIxL K) (tVar 1) (tC (.int 0))) tNil)) (tCons (tMeth CP "source" (spSource CL CP CT) [] E (tVar 0) (tCons (tOp (rIxL K) (tVar 1) (tC (.int 2))) tNil)) tNil))))))
        { nx := fun _ H' => Q .non H', rt := Q } [some (.ref A.g), some (.ref p)] H1 := by
      intro H1 s1 hn
      have p1 := pw.mono s1
      refine meth_run (val_fld (val_var rfl) p1.pg N.C.cl N.C.lines pf_lines) p1.li.o (lf_no (by decide +kernel) (by decide +kernel)) ?_
      refine (val_op (val_lenL (val_var rfl) (sq s1)) val_c fun Q q => ⟨rfl, q⟩) _ ⟨_, rfl, ?_⟩
      rw [show (V.int 3) = V.int ((3 : Nat) : Int) from rfl, dec_len, hL]
      have e0 : condOk T ws = (decide (ws.length = 3) && decide (ws.getD 1 "" ∈ (["=", "!="] : List Str)) && srcOk T (ws.getD 0 "") && srcOk T (ws.getD 2 "")) := by
        unfold condOk
        rw [hn, Bool.false_or]
      by_cases c : ws.length = 3
      · obtain ⟨a, b, d, rfl⟩ : ∃ a b d, ws = [a, b, d] := by
          match ws, c with
          | [a, b, d], _ => exact ⟨a, b, d, rfl⟩
        rw [decide_eq_true c]
        refine iteT (run_in2 (val_ixL (val_var rfl) val_c (sq s1) (atI_nat (j := 1) rfl)) fun H2 s2 => ?_)
        have s12 := s1.trans s2
        have p2 := pw.mono s12
        refine ⟨A.l, A.dl, A.r, T.rows, n, _, _, rfl, p2.li, rfl, fun e2 => ?_, fun e2 => ErrK.mono (ke ?_) s12⟩
        · refine (val_ixL (val_var rfl) val_c (sq s12) (atI_nat (j := 1) rfl)) _ ?_
          have ez : condOk T [a, b, d] = (srcOk T a && srcOk T d) := by
            rw [e0]
            show (true && decide (b ∈ (["=", "!="] : List Str)) && srcOk T a && srcOk T d) = _
            rw [e2]
            rfl
          refine meth_run (val_var rfl) p2.pg (pf_no (by decide +kernel)) ?_
          refine (val_ixL (val_var rfl) val_c (sq s12) (atI_nat (j := 0) rfl)) _ ?_
          refine ⟨A, T, H0, n, m, xs, kvs, a, rfl, p2, tx, hz _ (by simp), fun ea H3 x s3 hx => ?_, fun ea => ErrK.mono (ke (by rw [ez, ea]; rfl)) s12⟩
          have s13 := s12.trans s3
          have p3 := pw.mono s13
          refine meth_run (val_var rfl) p3.pg (pf_no (by decide +kernel)) ?_
          refine (val_ixL (val_var rfl) val_c (sq s13) (atI_nat (j := 2) rfl)) _ ?_
          refine ⟨A, T, H0, n, m, xs, kvs, d, rfl, p3, tx, hz _ (by simp), fun ed H4 y s4 hy => ?_, fun ed => ErrK.mono (ke (by rw [ez, ed, Bool.and_false])) s13⟩
          refine ⟨by show 3 ≤ sizeLine; decide, fun q nq => ?_⟩
          exact k (by rw [ez, ea, ed]; rfl) _ _ ((s13.trans s4).trans (same_upd nq)) ⟨q, _, _, rfl, upd_same, Nat.le_of_ble_eq_true rfl⟩
        · rw [e0]
          show (true && decide (b ∈ (["=", "!="] : List Str)) && srcOk T a && srcOk T d) = _
          rw [e2]
          rfl
      · rw [decide_eq_false c]
        refine iteF ⟨A.l, A.dl, A.r, T.rows, n, _, false, rfl, p1.li, rfl, fun q => Bool.noConfusion q, fun _ => ErrK.mono (ke ?_) s1⟩
        rw [e0, decide_eq_false c]
        rfl
    refine (ans_eq (val_lenL (val_var rfl) (sq (Same.refl H))) val_c rfl rfl) _ ?_
    rw [show (V.int 1) = V.int ((1 : Nat) : Int) from rfl, dec_len, hL]
    by_cases c : ws.length = 1
    · obtain ⟨a, rfl⟩ : ∃ a, ws = [a] := by
        match ws, c with
        | [a], _ => exact ⟨a, rfl⟩
      rw [decide_eq_true c]
      refine iteT (run_in2 (val_ixL (val_var rfl) val_c (sq (Same.refl H)) (atI_nat (j := 0) rfl)) fun H1 s1 => ⟨_, rfl, ?_⟩)
      cases c2 : decide (a ∈ (["lost", "busy"] : List Str)) with
      | true =>
        refine iteT ((val_ixL (val_var rfl) val_c (sq s1) (atI_nat (j := 0) rfl)) _ ⟨by show 1 ≤ sizeLine; decide, fun q nq => ?_⟩)
        refine k ?_ _ _ (s1.trans (same_upd nq)) ⟨q, _, _, rfl, upd_same, Nat.le_of_ble_eq_true rfl⟩
        show (true && decide (a ∈ (["lost", "busy"] : List Str)) || _) = true
        rw [c2]
        rfl
      | false => exact iteF (tail H1 s1 (by show (true && decide (a ∈ (["lost", "busy"] : List Str))) = false; rw [c2]; rfl))
    · rw [decide_eq_false c]
      exact iteF (iteF (tail H (Same.refl H) (by rw [decide_eq_false c]; rfl)))
end
end K5
namespace K5
open PySem PySem.Spec PyProof.Rows L2
abbrev s_Program_ask_step : Stmt := inClass (topS 16) 8
theorem sc_Program_ask_step : FnScope ["self", "port", "door", "word", "source"] ["self", "port", "door", "word"] (defScope s_Program_ask_step) := ⟨rfl, rfl, rfl, by decide +kernel, rfl, by decide +kernel, by decide +kernel⟩
abbrev s_Program_plain_step : Stmt := inClass (topS 16) 7
theorem sc_Program_plain_step : FnScope ["self", "words", "word", "rest"] ["self", "words"] (defScope s_Program_plain_step) := ⟨rfl, rfl, rfl, by decide +kernel, rfl, by decide +kernel, by decide +kernel⟩
def askOk (T : Tx) (p d z : Str) : Bool := decide (p ∈ T.ports) && isDoor d && srcOk T z
def plainOk (T : Tx) (ws : List Str) : Bool := match ws with
  | [] => false
  | x :: r =>
    if (decide (x ∈ (["set", "add"] : List Str)) && decide (r.length = 2)) = true then decide (r.getD 0 "" ∈ T.cells) && srcOk T (r.getD 1 "")
    else if (decide (x = ("draw" : Str)) && decide (r.length = 1)) = true then decide (r.getD 0 "" ∈ T.cells)
    else if (decide (x = ("ask" : Str)) && decide (r.length = 3)) = true then askOk T (r.getD 0 "") (r.getD 1 "") (r.getD 2 "")
    else if (decide (x = ("answer" : Str)) && decide (r.length = 1)) = true then srcOk T (r.getD 0 "")
    else decide (ws = (["fail"] : List Str))
/-- what a step's reading leaves -/
def StepQ (CL CP : Addr) (A : Ad) (T : Tx) (H0 : Hp) (n m : Nat) (xs : List V) (kvs : List (Key × V)) (Q : VK) : Prop :=
  ∀ (H' : Hp) (x : V) (kvs' : List (Key × V)), Wd CL CP A T H0 H' n m xs kvs' → kvs'.length ≤ kvs.length + 1 → StepAt H' x → Q x H'
def spAsk (CL CP CT : Addr) : Sp := fun vs H Q E => ∃ (A : Ad) (T : Tx) (H0 : Hp) (n m : Nat) (xs : List V) (kvs : List (Key × V)) (p d z : Str), vs = [.ref A.g, .str p, .str d, .str z] ∧ Wd CL CP A T H0 H n m xs kvs ∧ TxOk T ∧
  d.length ≤ 10000 ∧ z.length ≤ 10000 ∧ kvs.length ≤ 1000 ∧ xs.length ≤ 1000 ∧
  (askOk T p d z = true → StepQ CL CP A T H0 n m xs kvs Q) ∧ (askOk T p d z = false → ErrK CT (.int n) H0 E)
def spPlain (CL CP CT : Addr) : Sp := fun vs H Q E => ∃ (A : Ad) (T : Tx) (H0 : Hp) (n m : Nat) (xs : List V) (kvs : List (Key × V)) (p : Addr) (ws : List Str), vs = [.ref A.g, .ref p] ∧ Wd CL CP A T H0 H n m xs kvs ∧ TxOk T ∧
  H p = some (.lst (ws.map V.str)) ∧ ws ≠ [] ∧ (∀ z ∈ ws, PyData.strOk z = true ∧ z.length ≤ 10000) ∧ ws.length ≤ 10001 ∧ kvs.length ≤ 1000 ∧ xs.length ≤ 1000 ∧
  (plainOk T ws = true → StepQ CL CP A T H0 n m xs kvs Q) ∧ (plainOk T ws = false → ErrK CT (.int n) H0 E)
theorem putK_le (kvs : List (Key × V)) (k : Key) (v : V) : (putK kvs k v).length ≤ kvs.length + 1 := by
  unfold putK
  split
  · rw [List.length_map]
    omega
  · rw [List.length_append]
    exact Nat.le_refl _
section
variable {P : Program} {w : World} {K : PySem.W.Frag} {mg : Str → Option Value} {base : Heap} {CL CP CT fNeed fNum fDoor : Addr} {dNeed dNum dDoor : FuncData}
theorem ok_ask_step {f fS : Addr} {fd dS : FuncData} (N : En P w K mg base CL CP CT fNeed fNum fDoor dNeed dNum dDoor) (F : Fun K "ask_step" "Program.ask_step" s_Program_ask_step f fd) (M_source : Mf K CP "source" "Program.source" s_Program_source fS dS ["self", "word"]) : FnOk P w K mg base (L2.CX P w) 6 f fd ["self", "port", "door", "word"] (spAsk CL CP CT) := by
  have G_source : FnOk P w K mg base (L2.CX P w) 5 fS dS ["self", "word"] (spSource CL CP CT) := ok_source N M_source.F
  refine F.okX sc_Program_ask_step (fun vs H Q E h => ?_) (fun cdv A0 outer s H vs Q E hr h => ?_)
  · obtain ⟨A, T, H0, n, m, xs, kvs, p, d, z, rfl, _⟩ := h
    rfl
  · obtain ⟨A, T, H0, n, m, xs, kvs, p, d, z, rfl, pw, tx, hd, hz, hkv, hxs, k, ke⟩ := h
    have S := sc_Program_ask_step
    refine ⟨_, (pss_cons (ps_expr (pe_meth (pe_fld (pv 0) rfl) N.L.cl N.Mn.m N.Gn (hr.mono (by decide)) N.Mn.b .nil (pxp rfl rfl rfl rfl) (pa_cons (pe_and (pe_cmpR op_in_seq (pv 1) (pe_fld (pv 0) rfl) (by rfl)) (pe_one (pe_call N.Gd (hr.mono (by decide)) (by rfl) N.Dd.g N.Dd.F.kp N.Dd.b .nil pass0 (pa_cons (pv 2) pa_nil)))) pa_nil)))
      (pss_cons (ps_set (i := 4) S.nd rfl (.inl rfl) (pe_meth (pv 0) N.C.cl M_source.m G_source (hr.mono (by decide)) M_source.b .nil (pxp rfl rfl rfl rfl) (pa_cons (pv 3) pa_nil)))
      (pss_cons (ps_dput (hu_of hr) (pe_fld (pv 0) rfl) (pe_fld (pe_fld (pv 0) rfl) rfl) (pe_tup (pa_cons (pe_op op_add (pe_callB call_len_seq (by rfl) N.B.m_len PySem.boot_len (pa_cons (pe_fld (pv 0) rfl) pa_nil)) pe_int) (pa_cons (pv 1) (pa_cons (pv 2) pa_nil)))) rfl)
      (pss_one (ps_ret (pe_tup (pa_cons pe_str (pa_cons (pv 1) (pa_cons (pv 2) (pa_cons (pv 4) (pa_cons (pe_fld (pe_fld (pv 0) rfl) rfl) pa_nil))))))))))), ?_⟩
    refine meth_run (val_fld (val_var rfl) pw.pg N.C.cl N.C.lines pf_lines) pw.li.o (lf_no (by decide +kernel) (by decide +kernel)) ?_
    refine (val_andV (val_inT (val_var rfl) (val_fld (val_var rfl) pw.pg N.C.cl N.C.ports pf_ports) (SqT.of pw.pt)) fun _ => val_call (va_cons (val_var rfl) va_nil) fun Q q => ⟨d, rfl, by omega, q⟩) _ ?_
    refine ⟨A.l, A.dl, A.r, T.rows, n, _, _, rfl, pw.li, rfl, fun e => ?_, fun e => ErrK.mono (ke (by unfold askOk; rw [e]; rfl)) pw.s0⟩
    have ea : askOk T p d z = srcOk T z := by
      unfold askOk
      rw [e]
      rfl
    dsimp only [tNext, tSeq, tAsg]
    refine meth_run (val_var rfl) pw.pg (pf_no (by decide +kernel)) ?_
    refine (val_var rfl) _ ?_
    refine ⟨A, T, H0, n, m, xs, kvs, z, rfl, pw, tx, hz, fun es H1 x s1 hx => ?_, fun es => ErrK.mono (ke (ea.trans es)) pw.s0⟩
    have p1 := pw.mono s1
    dsimp only [gName]
    -- self.asks[self.lines.at] = ..
    refine (val_i0 (val_lenL (val_fld (val_var rfl) p1.pg N.C.cl N.C.steps pf_steps) (SqL.of p1.st)) val_c) _ ?_
    refine ⟨_, rfl, _, rfl, by show 3 ≤ sizeLine; decide, fun q nq => ?_⟩
    have p2 := p1.mono (same_upd (o := .tup [.int ((xs.length : Int) + 1), .str p, .str d]) nq)
    refine (val_fld (val_var rfl) p2.pg N.C.cl N.C.asks pf_asks) _ ?_
    refine (val_fld (val_fld (val_var rfl) p2.pg N.C.cl N.C.lines pf_lines) p2.li.o N.L.cl N.L.na lf_at) _ ?_
    refine ⟨A.ak, _, rfl, DPut.k (k := .inl (n : Int)) p2.ak (small1000 hkv), ?_⟩
    have hx2 := hx.mono (same_upd (o := .tup [.int ((xs.length : Int) + 1), .str p, .str d]) nq)
    generalize (upd H1 q (.tup [.int ((xs.length : Int) + 1), .str p, .str d])) = H2 at p2 hx2
    -- the dict has changed
    have nak : ∀ {b : Addr} {o : HO}, H2 b = some o → (∀ kv, o ≠ .dK kv) → b ≠ A.ak := fun h1 h2 e2 => by
      rw [e2, p2.ak] at h1
      exact h2 _ (Option.some.inj h1).symm
    have keep : ∀ {b : Addr} {o : HO}, H2 b = some o → (∀ kv, o ≠ .dK kv) → (upd H2 A.ak (.dK (putK kvs (.inl (n : Int)) (.ref q)))) b = some o := fun h1 h2 => by
      rw [upd_ne (nak h1 h2)]
      exact h1
    have stp : ∀ {y : V}, StepAt H2 y → StepAt (upd H2 A.ak (.dK (putK kvs (.inl (n : Int)) (.ref q)))) y := fun hy => by
      obtain ⟨a, y, ys, e1, h1, h2⟩ := hy
      exact ⟨a, y, ys, e1, keep h1 (fun _ z => nomatch z), h2⟩
    have p3 : Wd CL CP A T H0 (upd H2 A.ak (.dK (putK kvs (.inl (n : Int)) (.ref q)))) n m xs (putK kvs (.inl (n : Int)) (.ref q)) := {
      s0 := fun b o h1 => by
        rw [upd_ne (ne_of_none h1 p2.ak0)]
        exact p2.s0 b o h1
      l0 := p2.l0
      g0 := p2.g0
      st0 := p2.st0
      ak0 := p2.ak0
      lg := p2.lg
      li := ⟨keep p2.li.o (fun _ z => nomatch z), keep p2.li.r (fun _ z => nomatch z), p2.li.le⟩
      pg := keep p2.pg (fun _ z => nomatch z)
      ct := by
        obtain ⟨ob, h1, h2⟩ := p2.ct
        exact ⟨ob, keep h1 (fun _ z => nomatch z), h2⟩
      pt := keep p2.pt (fun _ z => nomatch z)
      st := keep p2.st (fun _ z => nomatch z)
      sx := fun y hy => by
        obtain ⟨a, y, ys, e1, h1, h2⟩ := p2.sx y hy
        exact ⟨a, y, ys, e1, keep h1 (fun _ z => nomatch z), h2⟩
      ak := upd_same
      rst := p2.rst }
    have hx3 := stp hx2
    refine ⟨_, rfl, _, rfl, _, rfl, ?_⟩
    refine (val_fld (val_fld (val_var rfl) p3.pg N.C.cl N.C.lines pf_lines) p3.li.o N.L.cl N.L.na lf_at) _ ?_
    refine ⟨by show 5 ≤ sizeLine; decide, fun q2 nq2 => ?_⟩
    exact k (ea.trans es) _ _ _ (p3.mono (same_upd nq2)) (putK_le _ _ _) ⟨q2, _, _, rfl, upd_same, Nat.le_of_ble_eq_true rfl⟩
theorem dec_str {x y : Str} : decide (V.str x = V.str y) = decide (x = y) := by
  by_cases h : x = y
  · rw [h, decide_eq_true rfl, decide_eq_true rfl]
  · rw [decide_eq_false h]
    exact decide_eq_false fun e => by
      injection e with e
      exact h e
theorem ok_plain_step {f fS fC fA : Addr} {fd dS dC dA : FuncData} (N : En P w K mg base CL CP CT fNeed fNum fDoor dNeed dNum dDoor) (F : Fun K "plain_step" "Program.plain_step" s_Program_plain_step f fd) (M_source : Mf K CP "source" "Program.source" s_Program_source fS dS ["self", "word"]) (M_cell : Mf K CP "cell" "Program.cell" s_Program_cell fC dC ["self", "word"]) (M_ask_step : Mf K CP "ask_step" "Program.ask_step" s_Program_ask_step fA dA ["self", "port", "door", "word"]) :
    FnOk P w K mg base (L2.CX P w) 7 f fd ["self", "words"] (spPlain CL CP CT) := by
  have G_source : FnOk P w K mg base (L2.CX P w) 5 fS dS ["self", "word"] (spSource CL CP CT) := ok_source N M_source.F
  have G_cell : FnOk P w K mg base (L2.CX P w) 5 fC dC ["self", "word"] (spCell CL CP CT) := ok_cell N M_cell.F
  have G_ask_step : FnOk P w K mg base (L2.CX P w) 6 fA dA ["self", "port", "door", "word"] (spAsk CL CP CT) := ok_ask_step N M_ask_step.F M_source
  refine F.okX sc_Program_plain_step (fun vs H Q E h => ?_) (fun cdv A0 outer s H vs Q E hr h => ?_)
  · obtain ⟨A, T, H0, n, m, xs, kvs, p, ws, rfl, _⟩ := h
    rfl
  · obtain ⟨A, T, H0, n, m, xs, kvs, p, ws, rfl, pw, tx, hp, hne, hz, hwl, hkv, hxs, k, ke⟩ := h
    have S := sc_Program_plain_step
    refine ⟨_, (pss_cons (ps_asg (pv 1) (pg_star (by rfl) (pg_name (i := 2) S.nd rfl (.inl rfl)) (pg_name (i := 3) S.nd rfl (.inl rfl))))
      (pss_cons (ps_if (PW.pt (pw_and (pt_cmpR op_in_seq (pv 2) (pe_tup (pa_cons pe_str (pa_cons pe_str pa_nil))) (by rfl)) (pw_and1 (pt_cmpR op_eq (pe_callB call_len_seq (by rfl) N.B.m_len PySem.boot_len (pa_cons (pv 3) pa_nil)) pe_int (nomark _)))))
        (pss_one (ps_ret (pe_tup (pa_cons (pv 2) (pa_cons (pe_meth (pv 0) N.C.cl M_cell.m G_cell (hr.mono (by decide)) M_cell.b .nil (pxp rfl rfl rfl rfl) (pa_cons (pe_ix ix_list (pv 3) pe_int (fun _ _ => rfl)) pa_nil)) (pa_cons (pe_meth (pv 0) N.C.cl M_source.m G_source (hr.mono (by decide)) M_source.b .nil (pxp rfl rfl rfl rfl) (pa_cons (pe_ix ix_list (pv 3) pe_int (fun _ _ => rfl)) pa_nil)) pa_nil))))))
        pss_nil)
      (pss_cons (ps_if (PW.pt (pw_and (pt_cmpR op_eq (pv 2) pe_str (nomark _)) (pw_and1 (pt_cmpR op_eq (pe_callB call_len_seq (by rfl) N.B.m_len PySem.boot_len (pa_cons (pv 3) pa_nil)) pe_int (nomark _)))))
        (pss_one (ps_ret (pe_tup (pa_cons (pv 2) (pa_cons (pe_meth (pv 0) N.C.cl M_cell.m G_cell (hr.mono (by decide)) M_cell.b .nil (pxp rfl rfl rfl rfl) (pa_cons (pe_ix ix_list (pv 3) pe_int (fun _ _ => rfl)) pa_nil)) pa_nil)))))
        pss_nil)
      (pss_cons (ps_if (PW.pt (pw_and (pt_cmpR op_eq (pv 2) pe_str (nomark _)) (pw_and1 (pt_cmpR op_eq (pe_callB call_len_seq (by rfl) N.B.m_len PySem.boot_len (pa_cons (pv 3) pa_nil)) pe_int (nomark _)))))
        (pss_one (ps_ret (pe_meth (pv 0) N.C.cl M_ask_step.m G_ask_step (hr.mono (by decide)) M_ask_step.b .nil (pxp rfl rfl rfl rfl) (pa_cons (pe_ix ix_list (pv 3) pe_int (fun _ _ => rfl)) (pa_cons (pe_ix ix_list (pv 3) pe_int (fun _ _ => rfl)) (pa_cons (pe_ix ix_list (pv 3) pe_int (fun _ _ => rfl)) pa_nil))))))
        pss_nil)
      (pss_cons (ps_if (PW.pt (pw_and (pt_cmpR op_eq (pv 2) pe_str (nomark _)) (pw_and1 (pt_cmpR op_eq (pe_callB call_len_seq (by rfl) N.B.m_len PySem.boot_len (pa_cons (pv 3) pa_nil)) pe_int (nomark _)))))
        (pss_one (ps_ret (pe_tup (pa_cons (pv 2) (pa_cons (pe_meth (pv 0) N.C.cl M_source.m G_source (hr.mono (by decide)) M_source.b .nil (pxp rfl rfl rfl rfl) (pa_cons (pe_ix ix_list (pv 3) pe_int (fun _ _ => rfl)) pa_nil)) pa_nil)))))
        pss_nil)
      (pss_cons (ps_expr (pe_meth (pe_fld (pv 0) rfl) N.L.cl N.Mn.m N.Gn (hr.mono (by decide)) N.Mn.b .nil (pxp rfl rfl rfl rfl) (pa_cons (pe_cmpR (op_eqD (by have := hr.units; exact this)) (pv 1) (pe_lst (pa_cons pe_str pa_nil)) (nomark _)) pa_nil)))
      (pss_one (ps_ret (pe_tup (pa_cons pe_str pa_nil)))))))))), ?_⟩
    obtain ⟨x, r, rfl⟩ : ∃ x r, ws = x :: r := by
      cases ws with
      | nil => exact absurd rfl hne
      | cons x r => exact ⟨x, r, rfl⟩
    refine ⟨_, rfl, p, .str x, r.map V.str, rfl, SqL.of hp, by rw [List.length_map]; rw [List.length_cons] at hwl; omega, fun q nq => ?_⟩
    have s1 : Same H (upd H q (.lst (r.map V.str))) := same_upd nq
    have hq : (upd H q (.lst (r.map V.str))) q = some (.lst (r.map V.str)) := upd_same
    generalize (upd H q (.lst (r.map V.str))) = H1 at s1 hq
    have hL : (r.map V.str).length = r.length := List.length_map ..
    have sq : ∀ {H' : Hp}, Same H1 H' → SqL K H' q (r.map V.str) := fun e => SqL.of (e _ _ hq)
    have hr0 : ∀ z ∈ r, z.length ≤ 10000 := fun z h => (hz z (List.mem_cons_of_mem _ h)).2
    have err : ∀ {H' : Hp}, Same H H' → plainOk T (x :: r) = false → ErrK CT (.int n) H' E := fun e h => ErrK.mono (ke h) (pw.s0.trans e)
    -- set, add
    refine run_in2 (val_var rfl) fun H2 s2 => ⟨_, rfl, ?_⟩
    have s12 := s1.trans s2
    have p2 := pw.mono s12
    have vlen : ∀ {H' : Hp} (e : Same H1 H') (j : Nat), Ans (tTest (tOp rEq (tCB (rLenSq K) (tCons (tVar 3) tNil)) (tC (.int (j : Int))))) [some (.ref A.g), some (.ref p), some (.str x), some (.ref q)] H' (decide (r.length = j)) := fun e j Q2 q2 => by
      refine (ans_eq (val_lenL (val_var rfl) (sq e)) val_c rfl rfl) _ ?_
      rw [dec_len, hL]
      exact q2
    have vix : ∀ {H' : Hp} (e : Same H1 H') (j : Nat) (z : Str), r[j]? = some z → Val (tOp (rIxL K) (tVar 3) (tC (.int (j : Int)))) [some (.ref A.g), some (.ref p), some (.str x), some (.ref q)] H' (.str z) := fun e j z hj =>
      val_ixL (val_var rfl) val_c (sq e) (atI_nat (by rw [List.getElem?_map, hj]; rfl))
    have vis : ∀ {H' : Hp} (y : Str), Ans (tTest (tOp rEq (tVar 2) (tC (.str y)))) [some (.ref A.g), some (.ref p), some (.str x), some (.ref q)] H' (decide (x = y)) := fun y Q2 q2 => by
      refine (ans_eq2 (val_var rfl) val_c rfl) _ ?_
      rw [dec_str]
      exact q2
    have ePl : plainOk T (x :: r) = (if (decide (x ∈ (["set", "add"] : List Str)) && decide (r.length = 2)) = true then decide (r.getD 0 "" ∈ T.cells) && srcOk T (r.getD 1 "")
      else if (decide (x = ("draw" : Str)) && decide (r.length = 1)) = true then decide (r.getD 0 "" ∈ T.cells)
      else if (decide (x = ("ask" : Str)) && decide (r.length = 3)) = true then askOk T (r.getD 0 "") (r.getD 1 "") (r.getD 2 "")
      else if (decide (x = ("answer" : Str)) && decide (r.length = 1)) = true then srcOk T (r.getD 0 "")
      else decide ((x :: r) = (["fail"] : List Str))) := rfl
    have st1 : ∀ Q2 : Bool → Hp → Prop, Q2 (decide (x ∈ (["set", "add"] : List Str)) && decide (r.length = 2)) H2 → (if decide (x ∈ (["set", "add"] : List Str)) = true then tTest (tOp rEq (tCB (rLenSq K) (tCons (tVar 3) tNil)) (tC (.int 2))) [some (.ref A.g), some (.ref p), some (.str x), some (.ref q)] H2 Q2 else Q2 false H2) := by
      intro Q2
      cases decide (x ∈ (["set", "add"] : List Str)) with
      | true => exact fun q2 => iteT (vlen s2 2 _ (by rw [Bool.true_and] at q2; exact q2))
      | false => exact fun q2 => iteF q2
    refine st1 _ ?_
    cases c1 : (decide (x ∈ (["set", "add"] : List Str)) && decide (r.length = 2)) with
    | true =>
      rw [c1, if_pos rfl] at ePl
      obtain ⟨a, b, rfl⟩ : ∃ a b, r = [a, b] := by
        rw [Bool.and_eq_true] at c1
        match r, of_decide_eq_true c1.2 with
        | [a, b], _ => exact ⟨a, b, rfl⟩
      have ePl' : plainOk T [x, a, b] = (decide (a ∈ T.cells) && srcOk T b) := ePl
      refine iteT ?_
      dsimp only [tRet, tTup]
      refine (val_var rfl) _ ?_
      refine meth_run (val_var rfl) p2.pg (pf_no (by decide +kernel)) ?_
      refine (vix s2 0 a rfl) _ ?_
      refine ⟨A, T, H0, n, m, xs, kvs, a, rfl, p2, tx, fun hc i => ?_, fun hc => err s12 (by rw [ePl', decide_eq_false hc]; rfl)⟩
      refine meth_run (val_var rfl) p2.pg (pf_no (by decide +kernel)) ?_
      refine (vix s2 1 b rfl) _ ?_
      refine ⟨A, T, H0, n, m, xs, kvs, b, rfl, p2, tx, hr0 _ (by simp), fun hs H3 y s3 hy => ?_, fun hs => err s12 (by rw [ePl', hs, Bool.and_false])⟩
      refine ⟨by show 3 ≤ sizeLine; decide, fun o no => ?_⟩
      exact k (by rw [ePl', decide_eq_true hc, hs]; rfl) _ _ _ ((p2.mono s3).mono (same_upd no)) (Nat.le_succ _) ⟨o, _, _, rfl, upd_same, Nat.le_of_ble_eq_true rfl⟩
    | false =>
      rw [c1, if_neg Bool.false_ne_true] at ePl
      refine iteF ?_
      dsimp only [tNext, tSeq, tIfS]
      -- draw
      refine (ans_and3 (vis "draw") fun _ => vlen s2 1) _ ?_
      cases c2 : (decide (x = ("draw" : Str)) && decide (r.length = 1)) with
      | true =>
        rw [c2, if_pos rfl] at ePl
        obtain ⟨a, rfl⟩ : ∃ a, r = [a] := by
          rw [Bool.and_eq_true] at c2
          match r, of_decide_eq_true c2.2 with
          | [a], _ => exact ⟨a, rfl⟩
        have ePl' : plainOk T [x, a] = decide (a ∈ T.cells) := ePl
        refine iteT ?_
        dsimp only [tRet, tTup]
        refine (val_var rfl) _ ?_
        refine meth_run (val_var rfl) p2.pg (pf_no (by decide +kernel)) ?_
        refine (vix s2 0 a rfl) _ ?_
        refine ⟨A, T, H0, n, m, xs, kvs, a, rfl, p2, tx, fun hc i => ?_, fun hc => err s12 (by rw [ePl', decide_eq_false hc])⟩
        refine ⟨by show 2 ≤ sizeLine; decide, fun o no => ?_⟩
        exact k (by rw [ePl', decide_eq_true hc]) _ _ _ (p2.mono (same_upd no)) (Nat.le_succ _) ⟨o, _, _, rfl, upd_same, Nat.le_of_ble_eq_true rfl⟩
      | false =>
        rw [c2, if_neg Bool.false_ne_true] at ePl
        refine iteF ?_
        -- ask
        refine (ans_and3 (vis "ask") fun _ => vlen s2 3) _ ?_
        cases c3 : (decide (x = ("ask" : Str)) && decide (r.length = 3)) with
        | true =>
          rw [c3, if_pos rfl] at ePl
          obtain ⟨a, b, d, rfl⟩ : ∃ a b d, r = [a, b, d] := by
            rw [Bool.and_eq_true] at c3
            match r, of_decide_eq_true c3.2 with
            | [a, b, d], _ => exact ⟨a, b, d, rfl⟩
          have ePl' : plainOk T [x, a, b, d] = askOk T a b d := ePl
          refine iteT ?_
          refine meth_run (val_var rfl) p2.pg (pf_no (by decide +kernel)) ?_
          refine (vix s2 0 a rfl) _ ?_
          refine (vix s2 1 b rfl) _ ?_
          refine (vix s2 2 d rfl) _ ?_
          exact ⟨A, T, H0, n, m, xs, kvs, a, b, d, rfl, p2, tx, hr0 _ (by simp), hr0 _ (by simp), hkv, hxs, fun hs => k (ePl'.trans hs), fun hs => ke (ePl'.trans hs)⟩
        | false =>
          rw [c3, if_neg Bool.false_ne_true] at ePl
          refine iteF ?_
          -- answer
          refine (ans_and3 (vis "answer") fun _ => vlen s2 1) _ ?_
          cases c4 : (decide (x = ("answer" : Str)) && decide (r.length = 1)) with
          | true =>
            rw [c4, if_pos rfl] at ePl
            obtain ⟨a, rfl⟩ : ∃ a, r = [a] := by
              rw [Bool.and_eq_true] at c4
              match r, of_decide_eq_true c4.2 with
              | [a], _ => exact ⟨a, rfl⟩
            have ePl' : plainOk T [x, a] = srcOk T a := ePl
            refine iteT ?_
            dsimp only [tRet, tTup]
            refine (val_var rfl) _ ?_
            refine meth_run (val_var rfl) p2.pg (pf_no (by decide +kernel)) ?_
            refine (vix s2 0 a rfl) _ ?_
            refine ⟨A, T, H0, n, m, xs, kvs, a, rfl, p2, tx, hr0 _ (by simp), fun hs H3 y s3 hy => ?_, fun hs => err s12 (ePl'.trans hs)⟩
            refine ⟨by show 2 ≤ sizeLine; decide, fun o no => ?_⟩
            exact k (ePl'.trans hs) _ _ _ ((p2.mono s3).mono (same_upd no)) (Nat.le_succ _) ⟨o, _, _, rfl, upd_same, Nat.le_of_ble_eq_true rfl⟩
          | false =>
            rw [c4, if_neg Bool.false_ne_true] at ePl
            refine iteF ?_
            try dsimp only [tNext, tSeq, tDrop]
            -- fail
            refine meth_run (val_fld (val_var rfl) p2.pg N.C.cl N.C.lines pf_lines) p2.li.o (lf_no (by decide +kernel) (by decide +kernel)) ?_
            refine (val_var rfl) _ ?_
            refine ⟨by show 1 ≤ sizeLine; decide, fun o no => ?_⟩
            have s3 := same_upd (o := .lst [V.str "fail"]) no
            have p3 := p2.mono s3
            refine ⟨.list ((x :: r).map PyData.str), .list (([("fail" : Str)] : List Str).map PyData.str), .lst (SqL.of (s3 _ _ (s12 _ _ hp))) (dpAll_strs _), .lst (SqL.of upd_same) (dpAll_strs ["fail"]), shaped_strs fun y hy => (hz y hy).1, by decide +kernel, ?_⟩
            have e : PyData.eqv (.list ((x :: r).map PyData.str)) (.list ((["fail"] : List Str).map PyData.str)) = decide ((x :: r) = (["fail"] : List Str)) := by
              rw [PyData.eqv]
              exact eqv_strs _ _
            rw [e]
            refine ⟨A.l, A.dl, A.r, T.rows, n, _, _, rfl, p3.li, rfl, fun e2 => ?_, fun e2 => err (s12.trans s3) (ePl.trans e2)⟩
            refine ⟨by show 1 ≤ sizeLine; decide, fun o2 no2 => ?_⟩
            exact k (ePl.trans e2) _ _ _ (p3.mono (same_upd no2)) (Nat.le_succ _) ⟨o2, _, _, rfl, upd_same, Nat.le_of_ble_eq_true rfl⟩
end
end K5
namespace K5
open PySem PySem.Spec PyProof.Rows L2
/-! ### xs[i] += (v,) -/
theorem no_tup_iadd : typeLookup (.type "tuple") (dunderI "add") = pure none := by
  rw [typeLookup_type, builtinLookup_eq_fast]
  kernel_rfl
def rCatN (K : PySem.W.Frag) : R2 := fun x y H Q => ∃ (a b : Addr) (xs ys : List V), x = .ref a ∧ y = .ref b ∧ SqT K H a xs ∧ SqT K H b ys ∧ xs ≠ [] ∧ ys ≠ [] ∧ xs.length + ys.length ≤ sizeLine ∧ ∀ p, H p = none → Q (.ref p) (upd H p (.tup (xs ++ ys)))
theorem vals_ne {xs : List V} {us : List Value} (r : Vals xs us) (h : xs ≠ []) : us.toArray.isEmpty = false := by
  cases r with
  | nil => exact absurd rfl h
  | cons _ _ => simp
theorem ip_catN {X : Cx} : PIp X .Add (rCatN X.K) := by
  intro pins s σ H x y v u Q I rx ry h
  obtain ⟨a, b, xs, ys, ex, ey, ha, hb, nx, ny, hz, q⟩ := h
  subst ex
  subst ey
  cases rx
  cases ry
  obtain ⟨us, r1, t1, _⟩ := I.tuple ha
  obtain ⟨vs, r2, t2, _⟩ := I.tuple hb
  have l1 := r1.length
  have l2 := r2.length
  have hf := I.hok.fresh (Nat.le_refl s.heap.objs.size)
  have new : Inv X pins σ (upd H s.heap.objs.size (.tup (xs ++ ys))) { s with heap := s.heap.push { cls := .type "tuple", data := .seq (us.toArray ++ vs.toArray) } } := by
    refine I.laid (t' := s.toks) (fun c o e => Heap.get?_push_of_some _ e) (Nat.le_refl _) ?_
    refine ⟨by rw [List.length_append]; exact hz, us ++ vs, r1.append r2, ?_⟩
    have e : (us ++ vs).toArray = us.toArray ++ vs.toArray := by simp
    rw [e]
    exact IsTup.new _ _
  obtain ⟨⟨c1, d1, x1, sl1⟩, g1, k1, n1, w1⟩ := id t1
  obtain ⟨⟨c2, d2, x2, sl2⟩, g2, k2, n2, w2⟩ := id t2
  simp only at k1 w1 k2 w2
  subst k1 w1 k2 w2
  refine wpAny_inplaceOp_concat ⟨_, g1, rfl⟩ ⟨_, g2, rfl⟩ no_tup_iadd noFill_tuple_add seq_tuple_add (call_meets PySem.F.slot_tuple_add ⟨_, g1, rfl⟩ PySem.F.entry_tuple_add (PySem.F.args_tuple_add_2 _ _)
    (tuple_addW2 a b us.toArray vs.toArray n1 n2 d1 d2 sl1 sl2 (by rw [vals_ne r1 nx]; exact Bool.false_ne_true) (by rw [vals_ne r2 ny]; exact Bool.false_ne_true) (by rw [List.size_toArray, List.size_toArray, ← l1, ← l2]; exact hz)) ⟨g1, g2, ?_⟩)
  exact ⟨.ref s.heap.objs.size, _, new, rfl, q _ hf⟩
def rGetN (K : PySem.W.Frag) : R2 := fun o i H Q => ∃ (p : Addr) (xs : List V) (j : Nat) (v : V), o = .ref p ∧ i = .int j ∧ SqL K H p xs ∧ xs[j]? = some v ∧ Q v H
theorem get_list {X : Cx} : PGet X (rGetN X.K) := by
  intro pins s σ H o i ov iv Q I ro ri h
  obtain ⟨p, xs, j, v, eo, ei, hS, hj, q⟩ := h
  subst eo
  subst ei
  cases ro
  obtain ⟨t, et⟩ := ri
  subst et
  obtain ⟨us, r, pl, hz⟩ := I.list hS
  obtain ⟨u, hu, ru⟩ := r.get hj
  have hl : j < xs.length := (List.getElem?_eq_some_iff.mp hj).1
  have hs : sizeLine = 16777216 := by decide
  exact wpAny_getItem_list pl.isList (by omega) (by omega) (by rw [Int.toNat_natCast, List.getElem?_toArray]; exact hu) ⟨v, H, I, ru, q⟩
/-- xs[j] += (v,): the item is a tuple of one item at least -/
theorem aug_run {K : PySem.W.Frag} {to ti te : TE} {D : Ends} {σ : L2.St} {H : Hp} {p a : Addr} {xs ys : List V} {j : Nat} {v y : V} (ho : Val to σ H (.ref p)) (hi : Val ti σ H (.int j)) (he : Val te σ H v)
    (hp : H p = some (.lst xs)) (hj : xs[j]? = some (.ref a)) (ha : H a = some (.tup (y :: ys))) (hy : ys.length ≤ 1000)
    (h : ∀ (H' : Hp) (b : Addr), Same H H' → H' b = some (.tup (y :: ys ++ [v])) → D.nx σ (upd H' p (.lst (xs.set j (.ref b))))) :
    tAugS to ti (tTup (tCons te tNil)) (rGetN K) (rCatN K) rSetL D σ H := by
  refine ho _ (hi _ ⟨p, xs, j, .ref a, rfl, rfl, SqL.of hp, hj, ?_⟩)
  refine he _ ⟨by show 1 ≤ sizeLine; decide, fun q nq => ?_⟩
  have s1 := same_upd (o := .tup [v]) nq
  refine ⟨a, q, y :: ys, [v], rfl, rfl, SqT.of (s1 _ _ ha), SqT.of upd_same, (fun e => nomatch e), (fun e => nomatch e), by simp only [List.length_cons, List.length_nil]; exact Nat.le_trans (show ys.length + 1 + (0 + 1) ≤ 10000000 by omega) (by decide), fun b nb => ?_⟩
  have s2 := same_upd (o := .tup (y :: ys ++ [v])) nb
  have hl : j < xs.length := (List.getElem?_eq_some_iff.mp hj).1
  refine ⟨p, xs, j, j, rfl, rfl, s2 _ _ (s1 _ _ hp), ?_, h _ b (s1.trans s2) upd_same⟩
  unfold ixN
  rw [if_pos (by omega), if_pos (by omega), Int.toNat_natCast]
/-! ### the reader's state, changed -/
section
variable {CL CP : Addr} {A : Ad} {T : Tx} {H0 H H' : Hp} {n m : Nat} {xs ys : List V} {kvs : List (Key × V)}
theorem StepAt.but {o : HO} {b : Addr} {x : V} (h : StepAt H x) (hb : ∀ zs, H b ≠ some (.tup zs)) : StepAt (upd H b o) x := by
  obtain ⟨a, y, zs, e1, h1, h2⟩ := h
  exact ⟨a, y, zs, e1, by rw [upd_ne (fun e => hb _ (e ▸ h1))]; exact h1, h2⟩
theorem StepB.but {o : HO} {b : Addr} {x : V} (h : StepB H x) (hb : ∀ zs, H b ≠ some (.tup zs)) : StepB (upd H b o) x := by
  obtain ⟨a, y, zs, e1, h1, h2⟩ := h
  exact ⟨a, y, zs, e1, by rw [upd_ne (fun e => hb _ (e ▸ h1))]; exact h1, h2⟩
theorem FT.but {o : HO} {b a : Addr} {zs : List V} (h : FT H a zs) (hb : ∀ ob zs, H b ≠ some (.frz ob (.tup zs))) : FT (upd H b o) a zs := by
  obtain ⟨ob, h1, h2⟩ := h
  exact ⟨ob, by rw [upd_ne (fun e => hb _ _ (e ▸ h1))]; exact h1, h2⟩
theorem at_but {o u : HO} {a b : Addr} (h : H a = some u) (hb : H b ≠ some u) : (upd H b o) a = some u := by
  have e : a ≠ b := fun z => hb (by rw [← z]; exact h)
  rw [upd_ne e]
  exact h
/-- the list of steps is another one -/
theorem Wd.steps (p : Wd CL CP A T H0 H n m xs kvs) (hy : ∀ y ∈ ys, StepB H y) : Wd CL CP A T H0 (upd H A.st (.lst ys)) n m ys kvs where
  s0 := fun b o h => by rw [upd_ne (ne_of_none h p.st0)]; exact p.s0 b o h
  l0 := p.l0
  g0 := p.g0
  st0 := p.st0
  ak0 := p.ak0
  lg := p.lg
  li := ⟨at_but p.li.o (by rw [p.st]; exact fun e => nomatch e), by rw [upd_ne p.rst]; exact p.li.r, p.li.le⟩
  pg := at_but p.pg (by rw [p.st]; exact fun e => nomatch e)
  ct := p.ct.but fun _ _ => by rw [p.st]; exact fun e => nomatch e
  pt := at_but p.pt (by rw [p.st]; exact fun e => nomatch e)
  st := upd_same
  sx := fun y h => (hy y h).but fun _ => by rw [p.st]; exact fun e => nomatch e
  ak := at_but p.ak (by rw [p.st]; exact fun e => nomatch e)
  rst := p.rst
/-- one statement more is counted -/
theorem Wd.count (p : Wd CL CP A T H0 H n m xs kvs) (k : Nat) : Wd CL CP A T H0 (upd H A.g (.ins CP A.dg (pf A T k))) n k xs kvs where
  s0 := fun b o h => by rw [upd_ne (ne_of_none h p.g0)]; exact p.s0 b o h
  l0 := p.l0
  g0 := p.g0
  st0 := p.st0
  ak0 := p.ak0
  lg := p.lg
  li := ⟨by rw [upd_ne p.lg]; exact p.li.o, at_but p.li.r (by rw [p.pg]; exact fun e => nomatch e), p.li.le⟩
  pg := upd_same
  ct := p.ct.but fun _ _ => by rw [p.pg]; exact fun e => nomatch e
  pt := at_but p.pt (by rw [p.pg]; exact fun e => nomatch e)
  st := at_but p.st (by rw [p.pg]; exact fun e => nomatch e)
  sx := fun y h => (p.sx y h).but fun _ => by rw [p.pg]; exact fun e => nomatch e
  ak := at_but p.ak (by rw [p.pg]; exact fun e => nomatch e)
  rst := p.rst
/-- the next line -/
theorem Wd.step (p : Wd CL CP A T H0 H n m xs kvs) {k : Nat} (s : SameBut A.l H H') (l : LinesAt CL H' A.l A.dl A.r T.rows k) : Wd CL CP A T H0 H' k m xs kvs where
  s0 := fun b o h => s b o (ne_of_none h p.l0) (p.s0 b o h)
  l0 := p.l0
  g0 := p.g0
  st0 := p.st0
  ak0 := p.ak0
  lg := p.lg
  li := l
  pg := s _ _ p.lg.symm p.pg
  ct := by
    obtain ⟨ob, h1, h2⟩ := p.ct
    exact ⟨ob, s _ _ (ne_of h1 p.li.o (fun e => nomatch e)) h1, h2⟩
  pt := s _ _ (ne_of p.pt p.li.o (fun e => nomatch e)) p.pt
  st := s _ _ (ne_of p.st p.li.o (fun e => nomatch e)) p.st
  sx := fun y h => by
    obtain ⟨a, y, zs, e1, h1, h2⟩ := p.sx y h
    exact ⟨a, y, zs, e1, s _ _ (ne_of h1 p.li.o (fun e => nomatch e)) h1, h2⟩
  ak := s _ _ (ne_of p.ak p.li.o (fun e => nomatch e)) p.ak
  rst := p.rst
end
end K5
namespace K5
open PySem PySem.Spec PyProof.Rows L2
/-! ### the mirror of blocks: the next line and how many statements were read, or the bad line -/
abbrev Res := Except Nat (Nat × Nat)
def Res.K (r : Res) (q : Nat → Nat → Prop) (e : Nat → Prop) : Prop := match r with
  | .ok (a, b) => q a b
  | .error n => e n
def headOk (T : Tx) (dp : Nat) (ws : List Str) : Bool := decide (dp < 3) && condOk T (ws.drop 1)
def whileR (T : Tx) (sub : Bool → Nat → Nat → Res) (dp : Nat) (ws : List Str) (n m : Nat) : Res :=
  if headOk T dp ws = true then sub true (n + 1) m else .error n
def elseR (T : Tx) (sub : Bool → Nat → Nat → Res) (dp : Nat) (n m : Nat) : Res :=
  if decide (wordsAt T.rows n dp = (["else"] : List Str)) = true then sub false (n + 1) m else .ok (n, m)
def ifR (T : Tx) (sub : Bool → Nat → Nat → Res) (dp : Nat) (ws : List Str) (n m : Nat) : Res :=
  if headOk T dp ws = true then match sub false (n + 1) m with
    | .ok (n1, m1) => elseR T sub dp n1 m1
    | .error e => .error e
  else .error n
def stmtR (T : Tx) (sub : Bool → Nat → Nat → Res) (dp : Nat) (ws : List Str) (n m : Nat) : Res :=
  if decide (ws.getD 0 "" = ("if" : Str)) = true then ifR T sub dp ws n m
  else if decide (ws.getD 0 "" = ("while" : Str)) = true then whileR T sub dp ws n m
  else if plainOk T ws = true then .ok (n + 1, m) else .error n
def blockR (T : Tx) (st : List Str → Nat → Nat → Res) (dp : Nat) (af : Bool) : Nat → Nat → Nat → Res
  | 0, n, m => if wordsAt T.rows n dp = [] then .ok (n, m) else .error n
  | f + 1, n, m =>
    if wordsAt T.rows n dp = [] then (if f = 7 then .error n else .ok (n, m))
    else if m < 24 then
      if (decide (f ≠ 7) || (!af || decide ((wordsAt T.rows n dp).getD 0 "" = ("ask" : Str)))) = true then
        match st (wordsAt T.rows n dp) n (m + 1) with
        | .ok (n1, m1) => blockR T st dp af f n1 m1
        | .error e => .error e
      else .error n
    else .error n
def blk (T : Tx) : Nat → Bool → Nat → Nat → Res
  | 0 => fun af n m => blockR T (stmtR T (fun _ _ _ => .error 0) 3) 3 af 8 n m
  | j + 1 => fun af n m => blockR T (stmtR T (blk T j) (2 - j)) (2 - j) af 8 n m
def subR (T : Tx) : Option Nat → Bool → Nat → Nat → Res
  | none => fun _ _ _ => .error 0
  | some j => blk T j
/-- the depth of what stands around it -/
def dpO : Option Nat → Nat
  | none => 3
  | some j => 2 - j
/-! ### promises -/
/-- what a block or a statement leaves -/
def BQ (CL CP : Addr) (A : Ad) (T : Tx) (H0 : Hp) (xs : List V) (sl : Nat) (Q : VK) (n m : Nat) : Prop :=
  ∀ (H' : Hp) (xs' : List V) (kvs' : List (Key × V)), Wd CL CP A T H0 H' n m xs' kvs' → (∃ more, xs' = xs ++ more) → xs'.length + sl ≤ 2 * m + 100 → kvs'.length ≤ m + 100 → m ≤ 24 → Q .non H'
def spHead (CL CP CT : Addr) : Sp := fun vs H Q E => ∃ (A : Ad) (T : Tx) (H0 : Hp) (n m : Nat) (xs : List V) (kvs : List (Key × V)) (p : Addr) (ws : List Str) (dp : Nat), vs = [.ref A.g, .ref p, .int dp] ∧ Wd CL CP A T H0 H n m xs kvs ∧ TxOk T ∧
  H p = some (.lst (ws.map V.str)) ∧ (∀ z ∈ ws, z.length ≤ 10000) ∧ n < T.rows.length ∧ xs.length ≤ 1000 ∧
  (headOk T dp ws = true → ∀ (H' : Hp) (x : V), Wd CL CP A T H0 H' (n + 1) m (xs ++ [x]) kvs → StepAt H' x → Q (.int xs.length) H') ∧ (headOk T dp ws = false → ErrK CT (.int n) H0 E)
/-- read_block at depth 3 - j -/
def spBlock (CL CP CT : Addr) (j : Nat) : Sp := fun vs H Q E => ∃ (A : Ad) (T : Tx) (H0 : Hp) (n m : Nat) (xs : List V) (kvs : List (Key × V)) (af : Bool) (sl : Nat), vs = [.ref A.g, .int ((3 - j : Nat) : Int), .bl af] ∧ Wd CL CP A T H0 H n m xs kvs ∧ TxOk T ∧
  xs.length + sl ≤ 2 * m + 100 ∧ kvs.length ≤ m + 100 ∧ m ≤ 24 ∧ (blk T j af n m).K (BQ CL CP A T H0 xs sl Q) fun e => ErrK CT (.int e) H0 E
def spBlockO (CL CP CT : Addr) : Option Nat → Sp
  | none => fun _ _ _ _ => False
  | some j => spBlock CL CP CT j
/-- read_if, read_while, read_statement, whose blocks are those of o -/
def spStmt (CL CP CT : Addr) (R : Tx → List Str → Nat → Nat → Res) (o : Option Nat) : Sp := fun vs H Q E => ∃ (A : Ad) (T : Tx) (H0 : Hp) (n m : Nat) (xs : List V) (kvs : List (Key × V)) (p : Addr) (ws : List Str) (sl : Nat), vs = [.ref A.g, .ref p, .int ((dpO o : Nat) : Int)] ∧ Wd CL CP A T H0 H n m xs kvs ∧ TxOk T ∧
  H p = some (.lst (ws.map V.str)) ∧ (∀ z ∈ ws, PyData.strOk z = true ∧ z.length ≤ 10000) ∧ ws ≠ [] ∧ ws.length ≤ 10001 ∧ n < T.rows.length ∧ xs.length + 2 + sl ≤ 2 * m + 100 ∧ kvs.length + 1 ≤ m + 100 ∧ m ≤ 24 ∧
  (R T ws n m).K (BQ CL CP A T H0 xs sl Q) fun e => ErrK CT (.int e) H0 E
abbrev s_Program_read_head : Stmt := inClass (topS 16) 6
theorem sc_Program_read_head : FnScope ["self", "words", "depth"] ["self", "words", "depth"] (defScope s_Program_read_head) := ⟨rfl, rfl, rfl, by decide +kernel, rfl, by decide +kernel, by decide +kernel⟩
abbrev s_Program_read_while : Stmt := inClass (topS 16) 5
theorem sc_Program_read_while : FnScope ["self", "words", "depth", "place"] ["self", "words", "depth"] (defScope s_Program_read_while) := ⟨rfl, rfl, rfl, by decide +kernel, rfl, by decide +kernel, by decide +kernel⟩
abbrev s_Program_read_if : Stmt := inClass (topS 16) 4
theorem sc_Program_read_if : FnScope ["self", "words", "depth", "place", "leave"] ["self", "words", "depth"] (defScope s_Program_read_if) := ⟨rfl, rfl, rfl, by decide +kernel, rfl, by decide +kernel, by decide +kernel⟩
abbrev s_Program_read_statement : Stmt := inClass (topS 16) 3
theorem sc_Program_read_statement : FnScope ["self", "words", "depth"] ["self", "words", "depth"] (defScope s_Program_read_statement) := ⟨rfl, rfl, rfl, by decide +kernel, rfl, by decide +kernel, by decide +kernel⟩
abbrev s_Program_read_block : Stmt := inClass (topS 16) 2
theorem sc_Program_read_block : FnScope ["self", "depth", "asks_first", "many", "words"] ["self", "depth", "asks_first"] (defScope s_Program_read_block) := ⟨rfl, rfl, rfl, by decide +kernel, rfl, by decide +kernel, by decide +kernel⟩
abbrev s_Program_read_door : Stmt := inClass (topS 16) 1
theorem sc_Program_read_door : FnScope ["self", "start"] ["self"] (defScope s_Program_read_door) := ⟨rfl, rfl, rfl, by decide +kernel, rfl, by decide +kernel, by decide +kernel⟩
/-- further names of the top -/
structure En2 (P : Program) (w : World) (K : PySem.W.Frag) (mg : Str → Option Value) (base : Heap) (CL CP CT : Addr) (fWords fStep fCond fPlain : Addr) (dWords dStep dCond dPlain : FuncData) : Prop where
  Mw : Mf K CL "words" "Lines.words" s_Lines_words fWords dWords ["self", "depth"]
  Gw : FnOk P w K mg base CX0 1 fWords dWords ["self", "depth"] (spWords CL)
  Ms : Mf K CL "step" "Lines.step" s_Lines_step fStep dStep ["self"]
  Gs : FnOk P w K mg base CX0 1 fStep dStep ["self"] (spStep CL)
  Mc : Mf K CP "condition" "Program.condition" s_Program_condition fCond dCond ["self", "words"]
  Gc : FnOk P w K mg base (L2.CX P w) 6 fCond dCond ["self", "words"] (spCond CL CP CT)
  Mp : Mf K CP "plain_step" "Program.plain_step" s_Program_plain_step fPlain dPlain ["self", "words"]
  Gp : FnOk P w K mg base (L2.CX P w) 7 fPlain dPlain ["self", "words"] (spPlain CL CP CT)
  cD : ∃ t, mg "DEEPEST" = some (.int 3 t)
  cB : ∃ t, mg "MOST_IN_BLOCK" = some (.int 8 t)
  cS : ∃ t, mg "MOST_STATEMENTS" = some (.int 24 t)
theorem cut1 (xs : List V) : cutV xs (some 1) none = xs.drop 1 := by
  unfold cutV
  rw [show HT.sIx xs.length 0 (some 1) = min 1 xs.length from HT.sIx_nat xs.length 0 1, HT.sIx_none]
  cases xs with
  | nil => rfl
  | cons x r =>
    rw [show min 1 (x :: r).length = 1 by
      rw [List.length_cons]
      omega]
    show (List.take ((x :: r).length - 1) r) = r
    rw [List.length_cons, Nat.add_sub_cancel]
    exact List.take_length
theorem meth0_run {C a dx : Addr} {m : Str} {fs : List (Str × V)} {sp : Sp} {E : XK} {ta : TE} {σ : L2.St} {H : Hp} {Q : VK} (ho : Val ta σ H (.ref a)) (ha : H a = some (.ins C dx fs)) (hm : fs.lookup m = none) (h : sp [.ref a] H Q E) :
    tMeth C m sp [] E ta tNil σ H Q := ho _ ⟨a, dx, fs, rfl, ha, hm, h⟩
section
variable {P : Program} {w : World} {K : PySem.W.Frag} {mg : Str → Option Value} {base : Heap} {CL CP CT fNeed fNum fDoor : Addr} {dNeed dNum dDoor : FuncData} {fWords fStep fCond fPlain : Addr} {dWords dStep dCond dPlain : FuncData}
theorem ok_read_head {f : Addr} {fd : FuncData} (N : En P w K mg base CL CP CT fNeed fNum fDoor dNeed dNum dDoor) (M : En2 P w K mg base CL CP CT fWords fStep fCond fPlain dWords dStep dCond dPlain) (F : Fun K "read_head" "Program.read_head" s_Program_read_head f fd) :
    FnOk P w K mg base (L2.CX P w) 7 f fd ["self", "words", "depth"] (spHead CL CP CT) := by
  obtain ⟨tD, gD⟩ := M.cD
  refine F.okX sc_Program_read_head (fun vs H Q E h => ?_) (fun cdv A0 outer s H vs Q E hr h => ?_)
  · obtain ⟨A, T, H0, n, m, xs, kvs, p, ws, dp, rfl, _⟩ := h
    rfl
  · obtain ⟨A, T, H0, n, m, xs, kvs, p, ws, dp, rfl, pw, tx, hp, hz, hn, hxs, k, ke⟩ := h
    have S := sc_Program_read_head
    refine ⟨_, (pss_cons (ps_expr (pe_meth (pe_fld (pv 0) rfl) N.L.cl N.Mn.m N.Gn (hr.mono (by decide)) N.Mn.b .nil (pxp rfl rfl rfl rfl) (pa_cons (pe_cmpR op_lt (pv 2) (pe_glob (v := .int 3) (by rfl) gD ⟨_, rfl⟩) (nomark _)) pa_nil)))
      (pss_cons (ps_expr (pe_bm PySem.F.plainAttrs_list PySem.F.slot_list_append PySem.F.type_list_append mt_append (pe_fld (pv 0) rfl) (pa_cons (pe_tup (pa_cons pe_str (pa_cons (pe_meth (pv 0) N.C.cl M.Mc.m M.Gc (hr.mono (by decide)) M.Mc.b .nil (pxp rfl rfl rfl rfl) (pa_cons (pe_slice sl_list (pv 1) (po_some pe_int) po_none) pa_nil)) pa_nil))) pa_nil)))
      (pss_cons (ps_expr (pe_meth0 (pe_fld (pv 0) rfl) N.L.cl M.Ms.m M.Gs (hr.mono (by decide)) M.Ms.b .nil pass0))
      (pss_one (ps_ret (pe_op op_sub (pe_callB call_len_seq (by rfl) N.B.m_len PySem.boot_len (pa_cons (pe_fld (pv 0) rfl) pa_nil)) pe_int)))))), ?_⟩
    refine meth_run (val_fld (val_var rfl) pw.pg N.C.cl N.C.lines pf_lines) pw.li.o (lf_no (by decide +kernel) (by decide +kernel)) ?_
    refine (val_i0b (val_var rfl) val_c) _ ?_
    refine ⟨A.l, A.dl, A.r, T.rows, n, _, _, rfl, pw.li, rfl, fun e => ?_, fun e => ErrK.mono (ke ?_) pw.s0⟩
    · have hd : decide (dp < 3) = true := by
        refine decide_eq_true ?_
        have := of_decide_eq_true e
        omega
      have eh : headOk T dp ws = condOk T (ws.drop 1) := by
        unfold headOk
        rw [hd]
        rfl
      dsimp only [tSeq, tDrop]
      refine bm_run (val_fld (val_var rfl) pw.pg N.C.cl N.C.steps pf_steps) (.inl ⟨rfl, _, SqL.of pw.st⟩) ?_
      refine meth_run (val_var rfl) pw.pg (pf_no (by decide +kernel)) ?_
      refine ⟨_, rfl, 1, rfl, p, _, rfl, SqL.of hp, fun q nq => ?_⟩
      rw [cut1, ← List.map_drop]
      have s1 := same_upd (o := .lst ((ws.drop 1).map V.str)) nq
      have hq : (upd H q (.lst ((ws.drop 1).map V.str))) q = some (.lst ((ws.drop 1).map V.str)) := upd_same
      have p1 := pw.mono s1
      refine ⟨A, T, H0, n, m, xs, kvs, q, ws.drop 1, rfl, p1, tx, hq, fun z h => hz z (List.mem_of_mem_drop h), fun ec H2 y s2 hy => ?_, fun ec => ErrK.mono (ke (eh.trans ec)) p1.s0⟩
      have p2 := p1.mono s2
      refine ⟨by show 2 ≤ sizeLine; decide, fun o no => ?_⟩
      have s3 := same_upd (o := .tup [.str "unless", y]) no
      have p3 := p2.mono s3
      have hx : StepAt (upd H2 o (.tup [.str "unless", y])) (.ref o) := ⟨o, _, _, rfl, upd_same, Nat.le_of_ble_eq_true rfl⟩
      generalize (upd H2 o (.tup [.str "unless", y])) = H3 at p3 hx
      refine ⟨A.st, xs, .ref o, rfl, rfl, p3.st, small1000 hxs, ?_⟩
      have p4 := p3.steps (ys := xs ++ [.ref o]) fun z h => by
        rcases List.mem_append.mp h with h | h
        · exact p3.sx z h
        · rw [List.mem_singleton.mp h]
          exact hx.b
      have hx4 := hx.but (b := A.st) (o := .lst (xs ++ [.ref o])) fun _ => by rw [p3.st]; exact fun e => nomatch e
      refine meth0_run (val_fld (val_var rfl) p4.pg N.C.cl N.C.lines pf_lines) p4.li.o (lf_no (by decide +kernel) (by decide +kernel)) ?_
      refine ⟨A.l, A.dl, A.r, T.rows, n, rfl, p4.li, hn, fun H5 sb li5 => ?_⟩
      dsimp only [tRet]
      have p5 := p4.step sb li5
      have hx5 : StepAt H5 (.ref o) := by
        obtain ⟨a, y, zs, e1, h1, h2⟩ := hx4
        exact ⟨a, y, zs, e1, sb _ _ (ne_of h1 p4.li.o (fun e => nomatch e)) h1, h2⟩
      refine (val_i0 (val_lenL (val_fld (val_var rfl) p5.pg N.C.cl N.C.steps pf_steps) (SqL.of p5.st)) val_c) _ ?_
      have el : (((xs ++ [V.ref o]).length : Int) - 1) = (xs.length : Int) := by
        rw [List.length_append]
        show ((xs.length + 1 : Nat) : Int) - 1 = _
        omega
      rw [el]
      exact k (eh.trans ec) _ _ p5 hx5
    · unfold headOk
      have : decide (dp < 3) = false := by
        refine decide_eq_false ?_
        have := of_decide_eq_false e
        omega
      rw [this]
      rfl
end
end K5
namespace K5
open PySem PySem.Spec PyProof.Rows L2
theorem Res.K.mono {r : Res} {q q' : Nat → Nat → Prop} {e e' : Nat → Prop} (h : r.K q e) (hq : ∀ a b, q a b → q' a b) (he : ∀ n, e n → e' n) : r.K q' e' := by
  match r, h with
  | .ok (a, b), h => exact hq a b h
  | .error n, h => exact he n h
section
variable {CL CP : Addr} {A : Ad} {T : Tx} {H0 H1 H H' : Hp} {n m : Nat} {xs ys : List V} {kvs : List (Key × V)}
/-- a step is kept by all that follows -/
theorem Wd.pin (p : Wd CL CP A T H0 H n m xs kvs) {a : Addr} {zs : List V} (h : H a = some (.tup zs)) : Wd CL CP A T (upd H0 a (.tup zs)) H n m xs kvs ∧ Same H0 (upd H0 a (.tup zs)) := by
  have nf : ∀ b : Addr, H0 b = none → (∀ ys, H b ≠ some (.tup ys)) → (upd H0 a (.tup zs)) b = none := fun b h0 h1 => by
    have e : b ≠ a := fun z => h1 zs (by rw [z]; exact h)
    rw [upd_ne e]
    exact h0
  have n1 := nf _ p.l0 fun ys => by rw [p.li.o]; exact fun e => nomatch e
  have n2 := nf _ p.g0 fun ys => by rw [p.pg]; exact fun e => nomatch e
  have n3 := nf _ p.st0 fun ys => by rw [p.st]; exact fun e => nomatch e
  have n4 := nf _ p.ak0 fun ys => by rw [p.ak]; exact fun e => nomatch e
  have s1 : Same (upd H0 a (.tup zs)) H := fun b o e => by
    by_cases c : b = a
    · subst c
      rw [upd_same] at e
      rw [← e]
      exact h
    · rw [upd_ne c] at e
      exact p.s0 b o e
  refine ⟨{ p with s0 := s1, l0 := n1, g0 := n2, st0 := n3, ak0 := n4 }, fun b o e => ?_⟩
  by_cases c : b = a
  · subst c
    rw [upd_same]
    exact h.symm.trans (p.s0 b o e)
  · rw [upd_ne c]
    exact e
theorem Wd.weak (p : Wd CL CP A T H1 H n m xs kvs) (e : Same H0 H1) : Wd CL CP A T H0 H n m xs kvs := { p with s0 := e.trans p.s0, l0 := e.free p.l0, g0 := e.free p.g0, st0 := e.free p.st0, ak0 := e.free p.ak0 }
theorem wordsAt_lt {rows : List Str} {n dp : Nat} (h : wordsAt rows n dp ≠ []) : n < rows.length := by
  by_cases c : n < rows.length
  · exact c
  · exact absurd (by unfold wordsAt; rw [List.getElem?_eq_none (by omega)]) h
/-- a step more -/
theorem Wd.push (p : Wd CL CP A T H0 H n m xs kvs) {o : Addr} {y : V} {ys : List V} (h : H o = some (.tup (y :: ys))) (hy : ys.length ≤ 20) : Wd CL CP A T H0 (upd H A.st (.lst (xs ++ [.ref o]))) n m (xs ++ [.ref o]) kvs :=
  p.steps fun z hz => by
    rcases List.mem_append.mp hz with hz | hz
    · exact p.sx z hz
    · rw [List.mem_singleton.mp hz]
      exact ⟨o, _, _, rfl, h, hy⟩
theorem Wd.aug {K : PySem.W.Frag} (p : Wd CL CP A T H0 H n m xs kvs) (C : ClP K CP) {ti te : TE} {D : Ends} {σ : L2.St} {a : Addr} {y v : V} {j : Nat} (h0 : σ[0]? = some (some (.ref A.g))) (hi : Val ti σ H (.int j)) (he : Val te σ H v)
    (hj : xs[j]? = some (.ref a)) (ha : H a = some (.tup (y :: ys))) (hy : ys.length ≤ 10)
    (h : ∀ (H' : Hp) (b : Addr), Wd CL CP A T H0 H' n m (xs.set j (.ref b)) kvs → SameBut A.st H H' → D.nx σ H') :
    tAugS (tFld K (tVar 0) "steps") ti (tTup (tCons te tNil)) (rGetN K) (rCatN K) rSetL D σ H := by
  refine aug_run (val_fld (val_var h0) p.pg C.cl C.steps pf_steps) hi he p.st hj ha (Nat.le_trans hy (by decide)) fun H1 b s1 hb => ?_
  refine h _ b ((p.mono s1).steps fun z hz => ?_) ((SameBut.of_same s1).trans (SameBut.upd A.st H1 _))
  rcases List.mem_or_eq_of_mem_set hz with hz | hz
  · exact (p.sx z hz).mono s1
  · exact ⟨b, y, ys ++ [v], hz, hb, by rw [List.length_append]; show ys.length + 1 ≤ 20; omega⟩
end
section
variable {P : Program} {w : World} {K : PySem.W.Frag} {mg : Str → Option Value} {base : Heap} {CL CP CT fNeed fNum fDoor : Addr} {dNeed dNum dDoor : FuncData} {fWords fStep fCond fPlain : Addr} {dWords dStep dCond dPlain : FuncData}
theorem ok_read_while {f fH fB : Addr} {fd dH dB : FuncData} {kb : Nat} {o : Option Nat} (hk : 7 ≤ kb) (ho : ∀ j, o = some j → j ≤ 2) (N : En P w K mg base CL CP CT fNeed fNum fDoor dNeed dNum dDoor) (M : En2 P w K mg base CL CP CT fWords fStep fCond fPlain dWords dStep dCond dPlain) (F : Fun K "read_while" "Program.read_while" s_Program_read_while f fd)
    (Mh : Mf K CP "read_head" "Program.read_head" s_Program_read_head fH dH ["self", "words", "depth"]) (Mb : Mf K CP "read_block" "Program.read_block" s_Program_read_block fB dB ["self", "depth", "asks_first"]) (Gb : FnOk P w K mg base (L2.CX P w) kb fB dB ["self", "depth", "asks_first"] (spBlockO CL CP CT o)) :
    FnOk P w K mg base (L2.CX P w) (kb + 1) f fd ["self", "words", "depth"] (spStmt CL CP CT (fun T => whileR T (subR T o) (dpO o)) o) := by
  have Gh : FnOk P w K mg base (L2.CX P w) 7 fH dH ["self", "words", "depth"] (spHead CL CP CT) := ok_read_head N M Mh.F
  refine F.okX sc_Program_read_while (fun vs H Q E h => ?_) (fun cdv A0 outer s H vs Q E hr h => ?_)
  · obtain ⟨A, T, H0, n, m, xs, kvs, p, ws, sl, rfl, _⟩ := h
    rfl
  · obtain ⟨A, T, H0, n, m, xs, kvs, p, ws, sl, rfl, pw, tx, hp, hz, hne, hwl, hn, hxs, hkv, hm, k⟩ := h
    have S := sc_Program_read_while
    refine ⟨_, (pss_cons (ps_set (i := 3) S.nd rfl (.inl rfl) (pe_meth (pv 0) N.C.cl Mh.m Gh (hr.mono hk) Mh.b .nil (pxp rfl rfl rfl rfl) (pa_cons (pv 1) (pa_cons (pv 2) pa_nil))))
      (pss_cons (ps_expr (pe_meth (pv 0) N.C.cl Mb.m Gb (hr.mono (Nat.le_refl _)) Mb.b .nil (pxp rfl rfl rfl rfl) (pa_cons (pe_op op_add (pv 2) pe_int) (pa_cons pe_bl pa_nil))))
      (pss_cons (ps_expr (pe_bm PySem.F.plainAttrs_list PySem.F.slot_list_append PySem.F.type_list_append mt_append (pe_fld (pv 0) rfl) (pa_cons (pe_tup (pa_cons pe_str (pa_cons (pv 3) pa_nil))) pa_nil)))
      (pss_one (ps_augS (pe_fld (pv 0) rfl) (pv 3) get_list (pe_tup (pa_cons (pe_callB call_len_seq (by rfl) N.B.m_len PySem.boot_len (pa_cons (pe_fld (pv 0) rfl) pa_nil)) pa_nil)) ip_catN set_list))))), ?_⟩
    dsimp only at k
    dsimp only [tNext, tSeq, tAsg, tDrop]
    refine meth_run (val_var rfl) pw.pg (pf_no (by decide +kernel)) ?_
    refine (val_var rfl) _ ((val_var rfl) _ ?_)
    refine ⟨A, T, H0, n, m, xs, kvs, p, ws, dpO o, rfl, pw, tx, hp, fun z h => (hz z h).2, hn, by omega, fun eh H1 x p1 hx => ?_, fun eh => ?_⟩
    · unfold whileR at k
      rw [if_pos eh] at k
      obtain ⟨a, y, ys, rfl, ha, hy⟩ := hx
      obtain ⟨p1', s0⟩ := p1.pin ha
      cases o with
      | none =>
        unfold headOk at eh
        exact absurd eh (by simp [dpO])
      | some j =>
        have hj := ho j rfl
        refine meth_run (val_var rfl) p1.pg (pf_no (by decide +kernel)) ?_
        refine (val_i0 (val_var rfl) val_c) _ (val_c _ ?_)
        refine ⟨A, T, _, n + 1, m, xs ++ [.ref a], kvs, true, sl + 1, ?_, p1', tx, ?_, by omega, hm, ?_⟩
        · have e : (((dpO (some j) : Nat) : Int) + 1) = ((3 - j : Nat) : Int) := by
            show ((2 - j : Nat) : Int) + 1 = _
            omega
          rw [e]
          rfl
        · rw [List.length_append]
          show xs.length + 1 + (sl + 1) ≤ _
          omega
        · refine Res.K.mono k (fun n2 m2 q H2 xs2 kvs2 p2 hmore hl2 hk2 hm2 => ?_) fun e h => h.mono s0
          obtain ⟨more, rfl⟩ := hmore
          have ha2 : H2 a = some (.tup (y :: ys)) := p2.s0 _ _ upd_same
          have p2 := p2.weak s0
          refine bm_run (val_fld (val_var rfl) p2.pg N.C.cl N.C.steps pf_steps) (.inl ⟨rfl, _, SqL.of p2.st⟩) ?_
          refine (val_var rfl) _ ?_
          refine ⟨by show 2 ≤ sizeLine; decide, fun o no => ?_⟩
          have s3 := same_upd (o := .tup [.str "jump", .int (xs.length : Nat)]) no
          have p3 := p2.mono s3
          have ha3 := s3 _ _ ha2
          have ho3 : (upd H2 o (.tup [.str "jump", .int (xs.length : Nat)])) o = some (.tup [.str "jump", .int (xs.length : Nat)]) := upd_same
          generalize (upd H2 o (.tup [.str "jump", .int (xs.length : Nat)])) = H3 at p3 ho3 ha3 s3
          refine ⟨A.st, _, .ref o, rfl, rfl, p3.st, small1000 (by omega), ?_⟩
          have p4 := p3.push ho3 (Nat.le_of_ble_eq_true rfl)
          have ha4 := at_but (b := A.st) (o := .lst (xs ++ [.ref a] ++ more ++ [.ref o])) ha3 (by rw [p3.st]; exact fun e => nomatch e)
          refine p4.aug N.C rfl (val_var rfl) (val_lenL (val_fld (val_var rfl) p4.pg N.C.cl N.C.steps pf_steps) (SqL.of p4.st)) ?_ ha4 hy fun H5 b p5 _ => ?_
          · rw [List.append_assoc, List.append_assoc, List.getElem?_append_right (Nat.le_refl _), Nat.sub_self]
            rfl
          · refine q H5 _ kvs2 p5 ⟨.ref b :: (more ++ [.ref o]), ?_⟩ ?_ hk2 hm2
            · rw [List.append_assoc, List.append_assoc, List.set_append_right _ _ (Nat.le_refl _), Nat.sub_self]
              rfl
            · rw [List.length_set, List.length_append]
              show _ + 1 + sl ≤ _
              omega
    · unfold whileR at k
      rw [eh, if_neg Bool.false_ne_true] at k
      exact k
end
end K5
namespace K5
open PySem PySem.Spec PyProof.Rows L2
theorem dpO_le (o : Option Nat) : dpO o ≤ 3 := by
  cases o with
  | none => exact Nat.le_refl _
  | some j => show 2 - j ≤ 3; omega
section
variable {P : Program} {w : World} {K : PySem.W.Frag} {mg : Str → Option Value} {base : Heap} {CL CP CT fNeed fNum fDoor : Addr} {dNeed dNum dDoor : FuncData} {fWords fStep fCond fPlain : Addr} {dWords dStep dCond dPlain : FuncData}
theorem ok_read_if {f fH fB : Addr} {fd dH dB : FuncData} {kb : Nat} {o : Option Nat} (hk : 7 ≤ kb) (ho : ∀ j, o = some j → j ≤ 2) (N : En P w K mg base CL CP CT fNeed fNum fDoor dNeed dNum dDoor) (M : En2 P w K mg base CL CP CT fWords fStep fCond fPlain dWords dStep dCond dPlain) (F : Fun K "read_if" "Program.read_if" s_Program_read_if f fd)
    (Mh : Mf K CP "read_head" "Program.read_head" s_Program_read_head fH dH ["self", "words", "depth"]) (Mb : Mf K CP "read_block" "Program.read_block" s_Program_read_block fB dB ["self", "depth", "asks_first"]) (Gb : FnOk P w K mg base (L2.CX P w) kb fB dB ["self", "depth", "asks_first"] (spBlockO CL CP CT o)) :
    FnOk P w K mg base (L2.CX P w) (kb + 1) f fd ["self", "words", "depth"] (spStmt CL CP CT (fun T => ifR T (subR T o) (dpO o)) o) := by
  have Gh : FnOk P w K mg base (L2.CX P w) 7 fH dH ["self", "words", "depth"] (spHead CL CP CT) := ok_read_head N M Mh.F
  refine F.okX sc_Program_read_if (fun vs H Q E h => ?_) (fun cdv A0 outer s H vs Q E hr h => ?_)
  · obtain ⟨A, T, H0, n, m, xs, kvs, p, ws, sl, rfl, _⟩ := h
    rfl
  · obtain ⟨A, T, H0, n, m, xs, kvs, p, ws, sl, rfl, pw, tx, hp, hz, hne, hwl, hn, hxs, hkv, hm, k⟩ := h
    have S := sc_Program_read_if
    refine ⟨_, (pss_cons (ps_set (i := 3) S.nd rfl (.inl rfl) (pe_meth (pv 0) N.C.cl Mh.m Gh (hr.mono hk) Mh.b .nil (pxp rfl rfl rfl rfl) (pa_cons (pv 1) (pa_cons (pv 2) pa_nil))))
      (pss_cons (ps_expr (pe_meth (pv 0) N.C.cl Mb.m Gb (hr.mono (Nat.le_refl _)) Mb.b .nil (pxp rfl rfl rfl rfl) (pa_cons (pe_op op_add (pv 2) pe_int) (pa_cons pe_bl pa_nil))))
      (pss_cons (ps_if (pt_cmpR (op_neD (by have := hr.units; exact this)) (pe_meth (pe_fld (pv 0) rfl) N.L.cl M.Mw.m M.Gw (hr.mono (Nat.le_trans (by decide) hk)) M.Mw.b .nil pass0 (pa_cons (pv 2) pa_nil)) (pe_lst (pa_cons pe_str pa_nil)) (nomark _))
        (pss_cons (ps_augS (pe_fld (pv 0) rfl) (pv 3) get_list (pe_tup (pa_cons (pe_callB call_len_seq (by rfl) N.B.m_len PySem.boot_len (pa_cons (pe_fld (pv 0) rfl) pa_nil)) pa_nil)) ip_catN set_list)
        (pss_one ps_retN))
        pss_nil)
      (pss_cons (ps_expr (pe_meth0 (pe_fld (pv 0) rfl) N.L.cl M.Ms.m M.Gs (hr.mono (Nat.le_trans (by decide) hk)) M.Ms.b .nil pass0))
      (pss_cons (ps_set (i := 4) S.nd rfl (.inl rfl) (pe_callB call_len_seq (by rfl) N.B.m_len PySem.boot_len (pa_cons (pe_fld (pv 0) rfl) pa_nil)))
      (pss_cons (ps_expr (pe_bm PySem.F.plainAttrs_list PySem.F.slot_list_append PySem.F.type_list_append mt_append (pe_fld (pv 0) rfl) (pa_cons (pe_tup (pa_cons pe_str pa_nil)) pa_nil)))
      (pss_cons (ps_augS (pe_fld (pv 0) rfl) (pv 3) get_list (pe_tup (pa_cons (pe_callB call_len_seq (by rfl) N.B.m_len PySem.boot_len (pa_cons (pe_fld (pv 0) rfl) pa_nil)) pa_nil)) ip_catN set_list)
      (pss_cons (ps_expr (pe_meth (pv 0) N.C.cl Mb.m Gb (hr.mono (Nat.le_refl _)) Mb.b .nil (pxp rfl rfl rfl rfl) (pa_cons (pe_op op_add (pv 2) pe_int) (pa_cons pe_bl pa_nil))))
      (pss_one (ps_augS (pe_fld (pv 0) rfl) (pv 4) get_list (pe_tup (pa_cons (pe_callB call_len_seq (by rfl) N.B.m_len PySem.boot_len (pa_cons (pe_fld (pv 0) rfl) pa_nil)) pa_nil)) ip_catN set_list)))))))))), ?_⟩
    dsimp only at k
    dsimp only [tNext, tSeq, tAsg, tDrop, tIfS]
    refine meth_run (val_var rfl) pw.pg (pf_no (by decide +kernel)) ?_
    refine (val_var rfl) _ ((val_var rfl) _ ?_)
    refine ⟨A, T, H0, n, m, xs, kvs, p, ws, dpO o, rfl, pw, tx, hp, fun z h => (hz z h).2, hn, by omega, fun eh H1 x p1 hx => ?_, fun eh => ?_⟩
    · unfold ifR at k
      rw [if_pos eh] at k
      obtain ⟨a, y, ys, rfl, ha, hy⟩ := hx
      obtain ⟨p1', s0⟩ := p1.pin ha
      cases o with
      | none =>
        unfold headOk at eh
        exact absurd eh (by simp [dpO])
      | some j =>
        have hj := ho j rfl
        have e1 : (((dpO (some j) : Nat) : Int) + 1) = ((3 - j : Nat) : Int) := by
          show ((2 - j : Nat) : Int) + 1 = _
          omega
        refine meth_run (val_var rfl) p1.pg (pf_no (by decide +kernel)) ?_
        refine (val_i0 (val_var rfl) val_c) _ (val_c _ ?_)
        refine ⟨A, T, _, n + 1, m, xs ++ [.ref a], kvs, false, sl + 1, by rw [e1]; rfl, p1', tx, ?_, by omega, hm, ?_⟩
        · rw [List.length_append]
          show xs.length + 1 + (sl + 1) ≤ _
          omega
        have k1 : (blk T j false (n + 1) m).K (fun n1 m1 => (elseR T (blk T j) (dpO (some j)) n1 m1).K (BQ CL CP A T H0 xs sl Q) fun e => ErrK CT (.int e) H0 E) fun e => ErrK CT (.int e) H0 E := by
          revert k
          show (match blk T j false (n + 1) m with | .ok (n1, m1) => elseR T (blk T j) (dpO (some j)) n1 m1 | .error e => .error e : Res).K _ _ → _
          match blk T j false (n + 1) m with
          | .ok (n1, m1) => exact fun k => k
          | .error e => exact fun k => k
        refine Res.K.mono k1 (fun n2 m2 q H2 xs2 kvs2 p2 hmore hl2 hk2 hm2 => ?_) fun e h => h.mono s0
        obtain ⟨more, rfl⟩ := hmore
        have ha2 : H2 a = some (.tup (y :: ys)) := p2.s0 _ _ upd_same
        have p2 := p2.weak s0
        have hat : ∀ r : List V, (xs ++ [V.ref a] ++ r)[xs.length]? = some (.ref a) := fun r => by
          rw [List.append_assoc, List.getElem?_append_right (Nat.le_refl _), Nat.sub_self]
          rfl
        have hset : ∀ (r : List V) (b : Addr), (xs ++ [V.ref a] ++ r).set xs.length (V.ref b) = xs ++ (V.ref b :: r) := fun r b => by
          rw [List.append_assoc, List.set_append_right _ _ (Nat.le_refl _), Nat.sub_self]
          rfl
        refine meth_run (val_fld (val_var rfl) p2.pg N.C.cl N.C.lines pf_lines) p2.li.o (lf_no (by decide +kernel) (by decide +kernel)) ?_
        refine (val_var rfl) _ ?_
        refine ⟨A.l, A.dl, A.r, T.rows, n2, dpO (some j), rfl, p2.li, tx.sz, dpO_le _, fun H3 pp s3 np hpp => ?_⟩
        refine ⟨by show 1 ≤ sizeLine; decide, fun qq nq => ?_⟩
        have s4 := same_upd (o := .lst [V.str "else"]) nq
        refine ⟨.list ((wordsAt T.rows n2 (dpO (some j))).map PyData.str), .list (([("else" : Str)] : List Str).map PyData.str), .lst (SqL.of (s4 _ _ hpp)) (dpAll_strs _), .lst (SqL.of upd_same) (dpAll_strs ["else"]), shaped_strs fun y hy => (words_ok tx.sz y hy).1, by decide +kernel, ?_⟩
        have e : PyData.eqv (.list ((wordsAt T.rows n2 (dpO (some j))).map PyData.str)) (.list (([("else" : Str)] : List Str).map PyData.str)) = decide (wordsAt T.rows n2 (dpO (some j)) = (["else"] : List Str)) := by
          rw [PyData.eqv]
          exact eqv_strs _ _
        rw [e]
        have p4 := p2.mono (s3.trans s4)
        have ha4 := (s3.trans s4) _ _ ha2
        generalize (upd H3 qq (.lst [V.str "else"])) = H4 at p4 ha4
        refine ⟨_, rfl, ?_⟩
        unfold elseR at q
        cases ce : decide (wordsAt T.rows n2 (dpO (some j)) = (["else"] : List Str)) with
        | false =>
          rw [ce, if_neg Bool.false_ne_true] at q
          refine iteT ?_
          refine p4.aug N.C rfl (val_var rfl) (val_lenL (val_fld (val_var rfl) p4.pg N.C.cl N.C.steps pf_steps) (SqL.of p4.st)) (hat _) ha4 hy fun H5 b p5 _ => ?_
          refine q H5 _ kvs2 p5 ⟨.ref b :: more, hset _ _⟩ ?_ hk2 hm2
          rw [List.length_set]
          omega
        | true =>
          rw [ce, if_pos rfl] at q
          refine iteF ?_
          have hn2 : n2 < T.rows.length := wordsAt_lt (dp := dpO (some j)) (by rw [of_decide_eq_true ce]; exact fun z => nomatch z)
          dsimp only [tNext, tSeq, tDrop]
          refine meth0_run (val_fld (val_var rfl) p4.pg N.C.cl N.C.lines pf_lines) p4.li.o (lf_no (by decide +kernel) (by decide +kernel)) ?_
          refine ⟨A.l, A.dl, A.r, T.rows, n2, rfl, p4.li, hn2, fun H5 sb li5 => ?_⟩
          have ha5 : H5 a = some (.tup (y :: ys)) := sb _ _ (ne_of ha4 p4.li.o (fun e => nomatch e)) ha4
          have p5 := p4.step sb li5
          refine (val_lenL (val_fld (val_var rfl) p5.pg N.C.cl N.C.steps pf_steps) (SqL.of p5.st)) _ ?_
          dsimp only [gName]
          refine bm_run (val_fld (val_var rfl) p5.pg N.C.cl N.C.steps pf_steps) (.inl ⟨rfl, _, SqL.of p5.st⟩) ?_
          refine ⟨by show 1 ≤ sizeLine; decide, fun o no => ?_⟩
          have s6 := same_upd (o := .tup [.str "jump"]) no
          have p6 := p5.mono s6
          have ha6 := s6 _ _ ha5
          have ho6 : (upd H5 o (.tup [.str "jump"])) o = some (.tup [.str "jump"]) := upd_same
          generalize (upd H5 o (.tup [.str "jump"])) = H6 at p6 ho6 ha6 s6
          refine ⟨A.st, _, .ref o, rfl, rfl, p6.st, small1000 (by omega), ?_⟩
          have p7 := p6.push ho6 (Nat.le_of_ble_eq_true rfl)
          have ha7 := at_but (b := A.st) (o := .lst (xs ++ [.ref a] ++ more ++ [.ref o])) ha6 (by rw [p6.st]; exact fun e => nomatch e)
          have ho7 := at_but (b := A.st) (o := .lst (xs ++ [.ref a] ++ more ++ [.ref o])) ho6 (by rw [p6.st]; exact fun e => nomatch e)
          refine p7.aug N.C rfl (val_var rfl) (val_lenL (val_fld (val_var rfl) p7.pg N.C.cl N.C.steps pf_steps) (SqL.of p7.st)) (by rw [List.append_assoc (xs ++ [V.ref a])]; exact hat _) ha7 hy fun H8 b p8 sb8 => ?_
          have ho8 : H8 o = some (.tup [.str "jump"]) := sb8 _ _ (ne_of ho7 p7.st (fun e => nomatch e)) ho7
          rw [List.append_assoc (xs ++ [V.ref a]), hset] at p8
          obtain ⟨p8', s08⟩ := p8.pin ho8
          refine meth_run (val_var rfl) p8.pg (pf_no (by decide +kernel)) ?_
          refine (val_i0 (val_var rfl) val_c) _ (val_c _ ?_)
          have hl8 : (xs ++ (V.ref b :: (more ++ [V.ref o]))).length = (xs ++ [V.ref a] ++ more).length + 1 := by
            simp only [List.length_append, List.length_cons, List.length_nil]
            omega
          refine ⟨A, T, _, n2 + 1, m2, _, kvs2, false, sl, by rw [e1]; rfl, p8', tx, by rw [hl8]; omega, hk2, hm2, ?_⟩
          refine Res.K.mono q (fun n9 m9 q9 H9 xs9 kvs9 p9 hmore9 hl9 hk9 hm9 => ?_) fun e h => h.mono s08
          obtain ⟨more9, rfl⟩ := hmore9
          have ho9 : H9 o = some (.tup [.str "jump"]) := p9.s0 _ _ upd_same
          have p9 := p9.weak s08
          have hat9 : (xs ++ (V.ref b :: (more ++ [V.ref o])) ++ more9)[(xs ++ [V.ref a] ++ more).length]? = some (.ref o) := by
            have e : xs ++ (V.ref b :: (more ++ [V.ref o])) ++ more9 = (xs ++ (V.ref b :: more)) ++ (V.ref o :: more9) := by simp
            have e2 : (xs ++ [V.ref a] ++ more).length = (xs ++ (V.ref b :: more)).length := by simp
            rw [e, e2, List.getElem?_append_right (Nat.le_refl _), Nat.sub_self]
            rfl
          refine p9.aug N.C rfl (val_var rfl) (val_lenL (val_fld (val_var rfl) p9.pg N.C.cl N.C.steps pf_steps) (SqL.of p9.st)) hat9 ho9 (Nat.zero_le _) fun HA c pA _ => ?_
          refine q9 HA _ kvs9 pA ⟨((V.ref b :: (more ++ [V.ref o])) ++ more9).set (((V.ref b :: more)).length) (.ref c), ?_⟩ ?_ hk9 hm9
          · have e2 : (xs ++ [V.ref a] ++ more).length = xs.length + (V.ref b :: more).length := by simp
            rw [List.append_assoc, e2, List.set_append_right _ _ (Nat.le_add_right _ _), Nat.add_sub_cancel_left]
          · rw [List.length_set]
            exact hl9
    · unfold ifR at k
      rw [eh, if_neg Bool.false_ne_true] at k
      exact k
end
end K5
namespace K5
open PySem PySem.Spec PyProof.Rows L2
section
variable {P : Program} {w : World} {K : PySem.W.Frag} {mg : Str → Option Value} {base : Heap} {CL CP CT fNeed fNum fDoor : Addr} {dNeed dNum dDoor : FuncData} {fWords fStep fCond fPlain : Addr} {dWords dStep dCond dPlain : FuncData}
theorem ok_read_statement {f fH fB fI fW : Addr} {fd dH dB dI dW : FuncData} {kb : Nat} {o : Option Nat} (hk : 7 ≤ kb) (ho : ∀ j, o = some j → j ≤ 2) (N : En P w K mg base CL CP CT fNeed fNum fDoor dNeed dNum dDoor) (M : En2 P w K mg base CL CP CT fWords fStep fCond fPlain dWords dStep dCond dPlain) (F : Fun K "read_statement" "Program.read_statement" s_Program_read_statement f fd)
    (Mi : Mf K CP "read_if" "Program.read_if" s_Program_read_if fI dI ["self", "words", "depth"]) (Mw : Mf K CP "read_while" "Program.read_while" s_Program_read_while fW dW ["self", "words", "depth"])
    (Mh : Mf K CP "read_head" "Program.read_head" s_Program_read_head fH dH ["self", "words", "depth"]) (Mb : Mf K CP "read_block" "Program.read_block" s_Program_read_block fB dB ["self", "depth", "asks_first"]) (Gb : FnOk P w K mg base (L2.CX P w) kb fB dB ["self", "depth", "asks_first"] (spBlockO CL CP CT o)) :
    FnOk P w K mg base (L2.CX P w) (kb + 2) f fd ["self", "words", "depth"] (spStmt CL CP CT (fun T => stmtR T (subR T o) (dpO o)) o) := by
  have Gi : FnOk P w K mg base (L2.CX P w) (kb + 1) fI dI ["self", "words", "depth"] (spStmt CL CP CT (fun T => ifR T (subR T o) (dpO o)) o) := ok_read_if hk ho N M Mi.F Mh Mb Gb
  have Gw : FnOk P w K mg base (L2.CX P w) (kb + 1) fW dW ["self", "words", "depth"] (spStmt CL CP CT (fun T => whileR T (subR T o) (dpO o)) o) := ok_read_while hk ho N M Mw.F Mh Mb Gb
  refine F.okX sc_Program_read_statement (fun vs H Q E h => ?_) (fun cdv A0 outer s H vs Q E hr h => ?_)
  · obtain ⟨A, T, H0, n, m, xs, kvs, p, ws, sl, rfl, _⟩ := h
    rfl
  · obtain ⟨A, T, H0, n, m, xs, kvs, p, ws, sl, rfl, pw, tx, hp, hz, hne, hwl, hn, hxs, hkv, hm, k⟩ := h
    have S := sc_Program_read_statement
    refine ⟨_, (pss_one (ps_if (pt_cmpR op_eq (pe_ix ix_list (pv 1) pe_int (fun _ _ => rfl)) pe_str (nomark _))
        (pss_one (ps_expr (pe_meth (pv 0) N.C.cl Mi.m Gi (hr.mono (Nat.le_refl _)) Mi.b .nil (pxp rfl rfl rfl rfl) (pa_cons (pv 1) (pa_cons (pv 2) pa_nil)))))
        (pss_one (ps_if (pt_cmpR op_eq (pe_ix ix_list (pv 1) pe_int (fun _ _ => rfl)) pe_str (nomark _))
          (pss_one (ps_expr (pe_meth (pv 0) N.C.cl Mw.m Gw (hr.mono (Nat.le_refl _)) Mw.b .nil (pxp rfl rfl rfl rfl) (pa_cons (pv 1) (pa_cons (pv 2) pa_nil)))))
          (pss_cons (ps_expr (pe_bm PySem.F.plainAttrs_list PySem.F.slot_list_append PySem.F.type_list_append mt_append (pe_fld (pv 0) rfl) (pa_cons (pe_meth (pv 0) N.C.cl M.Mp.m M.Gp (hr.mono (by omega)) M.Mp.b .nil (pxp rfl rfl rfl rfl) (pa_cons (pv 1) pa_nil)) pa_nil)))
          (pss_one (ps_expr (pe_meth0 (pe_fld (pv 0) rfl) N.L.cl M.Ms.m M.Gs (hr.mono (by omega)) M.Ms.b .nil pass0)))))))), ?_⟩
    dsimp only at k
    obtain ⟨x, r, rfl⟩ : ∃ x r, ws = x :: r := by
      cases ws with
      | nil => exact absurd rfl hne
      | cons x r => exact ⟨x, r, rfl⟩
    have vis : ∀ (y : Str), Ans (tTest (tOp rEq (tOp (rIxL K) (tVar 1) (tC (.int 0))) (tC (.str y)))) [some (.ref A.g), some (.ref p), some (.int ((dpO o : Nat) : Int))] H (decide (x = y)) := fun y Q2 q2 => by
      refine (ans_eq2 (val_ixL (val_var rfl) val_c (SqL.of hp) (atI_nat (j := 0) rfl)) val_c rfl) _ ?_
      rw [dec_str]
      exact q2
    unfold stmtR at k
    have ex : (x :: r).getD 0 "" = x := rfl
    rw [ex] at k
    dsimp only [tNext, tSeq, tAsg, tDrop, tIfS]
    refine (vis "if") _ ?_
    cases c1 : decide (x = ("if" : Str)) with
    | true =>
      rw [c1, if_pos rfl] at k
      refine iteT ?_
      refine meth_run (val_var rfl) pw.pg (pf_no (by decide +kernel)) ?_
      refine (val_var rfl) _ ((val_var rfl) _ ?_)
      exact ⟨A, T, H0, n, m, xs, kvs, p, x :: r, sl, rfl, pw, tx, hp, hz, hne, hwl, hn, hxs, hkv, hm, k⟩
    | false =>
      rw [c1, if_neg Bool.false_ne_true] at k
      refine iteF ?_
      refine (vis "while") _ ?_
      cases c2 : decide (x = ("while" : Str)) with
      | true =>
        rw [c2, if_pos rfl] at k
        refine iteT ?_
        refine meth_run (val_var rfl) pw.pg (pf_no (by decide +kernel)) ?_
        refine (val_var rfl) _ ((val_var rfl) _ ?_)
        exact ⟨A, T, H0, n, m, xs, kvs, p, x :: r, sl, rfl, pw, tx, hp, hz, hne, hwl, hn, hxs, hkv, hm, k⟩
      | false =>
        rw [c2, if_neg Bool.false_ne_true] at k
        refine iteF ?_
        refine bm_run (val_fld (val_var rfl) pw.pg N.C.cl N.C.steps pf_steps) (.inl ⟨rfl, _, SqL.of pw.st⟩) ?_
        refine meth_run (val_var rfl) pw.pg (pf_no (by decide +kernel)) ?_
        refine (val_var rfl) _ ?_
        refine ⟨A, T, H0, n, m, xs, kvs, p, x :: r, rfl, pw, tx, hp, hne, hz, hwl, by omega, by omega, fun e H1 y kvs1 p1 hkv1 hy => ?_, fun e => ?_⟩
        · rw [if_pos e] at k
          refine ⟨A.st, xs, y, rfl, rfl, p1.st, small1000 (by omega), ?_⟩
          obtain ⟨a, z, zs, rfl, ha, hzs⟩ := hy
          have p2 := p1.push ha (by omega)
          refine meth0_run (val_fld (val_var rfl) p2.pg N.C.cl N.C.lines pf_lines) p2.li.o (lf_no (by decide +kernel) (by decide +kernel)) ?_
          refine ⟨A.l, A.dl, A.r, T.rows, n, rfl, p2.li, hn, fun H3 sb li3 => ?_⟩
          have p3 := p2.step sb li3
          refine k H3 _ kvs1 p3 ⟨[.ref a], rfl⟩ ?_ (by omega) hm
          rw [List.length_append]
          show xs.length + 1 + sl ≤ _
          omega
        · rw [e, if_neg Bool.false_ne_true] at k
          exact k
end
end K5
namespace K5
open PySem PySem.Spec PyProof.Rows L2
def oOf : Nat → Option Nat
  | 0 => none
  | j + 1 => some j
theorem dp_oOf (j : Nat) : dpO (oOf j) = 3 - j := by
  cases j with
  | zero => rfl
  | succ j =>
    show 2 - j = _
    omega
theorem blk_of (T : Tx) (j : Nat) (af : Bool) (n m : Nat) : blk T j af n m = blockR T (stmtR T (subR T (oOf j)) (dpO (oOf j))) (dpO (oOf j)) af 8 n m := by
  cases j <;> rfl
theorem val_orV {ta tb : TE} {σ : L2.St} {H : Hp} {a b : Bool} (ha : Val ta σ H (.bl a)) (hb : a = false → Val tb σ H (.bl b)) : Val (tOrV ta tb) σ H (.bl (a || b)) := fun Q q => ha _ ⟨a, rfl, by
  cases a with
  | true => exact iteT q
  | false => exact iteF (hb rfl _ q)⟩
theorem val_andTB {K : PySem.W.Frag} {ta tb : TE} {σ : L2.St} {H : Hp} {a b : Bool} (ha : Val ta σ H (.bl a)) (hb : Val tb σ H (.bl b)) : Val (tAndT K ta tb) σ H (.bl (a && b)) := fun Q q => ha _ ⟨a, rfl, by
  cases a with
  | true => exact iteT (hb _ q)
  | false => exact iteF q⟩
section
variable {P : Program} {w : World} {K : PySem.W.Frag} {mg : Str → Option Value} {base : Heap} {CL CP CT fNeed fNum fDoor : Addr} {dNeed dNum dDoor : FuncData} {fWords fStep fCond fPlain : Addr} {dWords dStep dCond dPlain : FuncData}
/-- before each turn of a block, f turns left at most -/
structure BW (CL CP CT : Addr) (A : Ad) (T : Tx) (H0 : Hp) (j : Nat) (af : Bool) (xs : List V) (sl : Nat) (Q : VK) (E : XK) (f : Nat) (σ : L2.St) (H : Hp) (n m : Nat) (xs1 : List V) (kvs1 : List (Key × V)) (p : Addr) : Prop where
  f8 : f ≤ 8
  st : σ = [some (.ref A.g), some (.int ((3 - j : Nat) : Int)), some (.bl af), some (.int ((8 - f : Nat) : Int)), some (.ref p)]
  pw : Wd CL CP A T H0 H n m xs1 kvs1
  hp : H p = some (.lst ((wordsAt T.rows n (3 - j)).map V.str))
  mo : ∃ more, xs1 = xs ++ more
  le : xs1.length + sl ≤ 2 * m + 100
  lk : kvs1.length ≤ m + 100
  hm : m ≤ 24
  k : (blockR T (stmtR T (subR T (oOf j)) (dpO (oOf j))) (dpO (oOf j)) af f n m).K (BQ CL CP A T H0 xs sl Q) fun e => ErrK CT (.int e) H0 E
theorem ok_read_block {f fS : Addr} {fd dS : FuncData} {kb j : Nat} (hk : 7 ≤ kb) (N : En P w K mg base CL CP CT fNeed fNum fDoor dNeed dNum dDoor) (M : En2 P w K mg base CL CP CT fWords fStep fCond fPlain dWords dStep dCond dPlain) (F : Fun K "read_block" "Program.read_block" s_Program_read_block f fd)
    (Ms : Mf K CP "read_statement" "Program.read_statement" s_Program_read_statement fS dS ["self", "words", "depth"]) (Gs : FnOk P w K mg base (L2.CX P w) (kb + 2) fS dS ["self", "words", "depth"] (spStmt CL CP CT (fun T => stmtR T (subR T (oOf j)) (dpO (oOf j))) (oOf j))) :
    FnOk P w K mg base (L2.CX P w) (kb + 3) f fd ["self", "depth", "asks_first"] (spBlock CL CP CT j) := by
  obtain ⟨tB, gB⟩ := M.cB
  obtain ⟨tS, gS⟩ := M.cS
  refine F.okX sc_Program_read_block (fun vs H Q E h => ?_) (fun cdv A0 outer s H vs Q E hr h => ?_)
  · obtain ⟨A, T, H0, n, m, xs, kvs, af, sl, rfl, _⟩ := h
    rfl
  · obtain ⟨A, T, H0, n, m, xs, kvs, af, sl, rfl, pw, tx, hl, hkv, hm, k⟩ := h
    have S := sc_Program_read_block
    refine ⟨_, (pss_cons (ps_set (i := 3) S.nd rfl (.inl rfl) pe_int)
      (pss_cons (ps_set (i := 4) S.nd rfl (.inl rfl) (pe_meth (pe_fld (pv 0) rfl) N.L.cl M.Mw.m M.Gw (hr.mono (by omega)) M.Mw.b .nil pass0 (pa_cons (pv 1) pa_nil)))
      (pss_one (ps_while (passes_of rfl) (PW.pt (pw_or (pt_truth (pv 4) (by intro _; rfl)) (pw_or1 (pt_cmpR op_eq (pv 3) pe_int (nomark _)))))
        (pss_cons (ps_expr (pe_meth (pe_fld (pv 0) rfl) N.L.cl N.Mn.m N.Gn (hr.mono (by omega)) N.Mn.b .nil (pxp rfl rfl rfl rfl) (pa_cons (pe_andT (pv 4) (pe_andT (pe_cmpR op_lt (pv 3) (pe_glob (v := .int 8) (by rfl) gB ⟨_, rfl⟩) (nomark _)) (pe_one (pe_cmpR op_lt (pe_fld (pv 0) rfl) (pe_glob (v := .int 24) (by rfl) gS ⟨_, rfl⟩) (nomark _))))) pa_nil)))
        (pss_cons (ps_expr (pe_meth (pe_fld (pv 0) rfl) N.L.cl N.Mn.m N.Gn (hr.mono (by omega)) N.Mn.b .nil (pxp rfl rfl rfl rfl) (pa_cons (pe_or (pe_cmpR op_gt (pv 3) pe_int (nomark _)) (pe_or (pe_not (pv 2)) (pe_one (pe_cmpR op_eq (pe_ix ix_list (pv 4) pe_int (fun _ _ => rfl)) pe_str (nomark _))))) pa_nil)))
        (pss_cons (ps_aug (i := 3) S.nd rfl (.inl rfl) pe_int ip_add)
        (pss_cons (ps_fldaug (pv 0) pe_int in_add)
        (pss_cons (ps_expr (pe_meth (pv 0) N.C.cl Ms.m Gs (hr.mono (Nat.le_refl _)) Ms.b .nil (pxp rfl rfl rfl rfl) (pa_cons (pv 4) (pa_cons (pv 1) pa_nil))))
        (pss_one (ps_set (i := 4) S.nd rfl (.inl rfl) (pe_meth (pe_fld (pv 0) rfl) N.L.cl M.Mw.m M.Gw (hr.mono (by omega)) M.Mw.b .nil pass0 (pa_cons (pv 1) pa_nil))))))))))))), ?_⟩
    dsimp only [tNext, tSeq, tAsg]
    refine meth_run (val_fld (val_var rfl) pw.pg N.C.cl N.C.lines pf_lines) pw.li.o (lf_no (by decide +kernel) (by decide +kernel)) ?_
    refine (val_var rfl) _ ?_
    refine ⟨A.l, A.dl, A.r, T.rows, n, 3 - j, rfl, pw.li, tx.sz, by omega, fun H1 p s1 np hp => ?_⟩
    dsimp only [gName]
    refine ⟨fun f σ H => ∃ n m xs1 kvs1 p, BW CL CP CT A T H0 j af xs sl Q E f σ H n m xs1 kvs1 p, ⟨8, n, m, xs, kvs, p, Nat.le_refl _, rfl, pw.mono s1, hp, ⟨[], (List.append_nil _).symm⟩, hl, hkv, hm, ?_⟩, fun f σ H h => ?_⟩
    · rw [← blk_of]
      exact k
    · obtain ⟨n, m, xs1, kvs1, p, W⟩ := h
      obtain ⟨f8, rfl, pw, hp, hmo, hl, hkv, hm, k⟩ := W
      have k' := k
      rw [dp_oOf] at k'
      have tw : ∀ {H' : Hp}, Same H H' → TruV K (.ref p) H' (!((wordsAt T.rows n (3 - j)).map V.str).isEmpty) := fun e => .inl ⟨_, SqL.of (e _ _ hp), rfl⟩
      cases hw : wordsAt T.rows n (3 - j) with
      | nil =>
        have tf : ∀ {H' : Hp}, Same H H' → TruV K (.ref p) H' false := fun e => by
          have := tw e
          rw [hw] at this
          exact this
        refine ⟨_, rfl, false, tf (Same.refl _), iteF ?_⟩
        refine (ans_eq2 (val_var rfl) val_c rfl) _ ?_
        by_cases c8 : f = 8
        · subst c8
          refine iteT ⟨fun _ _ => False, fun _ _ h => h.elim, ?_⟩
          dsimp only [tDrop]
          refine meth_run (val_fld (val_var rfl) pw.pg N.C.cl N.C.lines pf_lines) pw.li.o (lf_no (by decide +kernel) (by decide +kernel)) ?_
          refine ⟨_, rfl, false, tf (Same.refl _), iteF ?_⟩
          refine ⟨A.l, A.dl, A.r, T.rows, n, _, false, rfl, pw.li, tf (Same.refl _), fun e => absurd e Bool.false_ne_true, fun _ => ErrK.mono ?_ pw.s0⟩
          unfold blockR at k'
          rw [if_pos hw] at k'
          exact k'
        · have ed : decide (V.int ((8 - f : Nat) : Int) = V.int 0) = false := decide_eq_false fun e => by
            injection e with e
            omega
          rw [ed]
          refine iteF ?_
          cases f with
          | zero =>
            unfold blockR at k'
            rw [if_pos hw] at k'
            exact k' H xs1 kvs1 pw hmo hl hkv hm
          | succ f =>
            unfold blockR at k'
            rw [if_pos hw, if_neg (by omega)] at k'
            exact k' H xs1 kvs1 pw hmo hl hkv hm
      | cons z r =>
        have hwn : wordsAt T.rows n (3 - j) ≠ [] := by rw [hw]; exact fun e => nomatch e
        have hn : n < T.rows.length := wordsAt_lt hwn
        have tt : ∀ {H' : Hp}, Same H H' → TruV K (.ref p) H' true := fun e => by
          have := tw e
          rw [hw] at this
          exact this
        refine ⟨_, rfl, true, tt (Same.refl _), iteT ?_⟩
        refine iteT ⟨fun σ' H' => ∃ n m xs1 kvs1 p, BW CL CP CT A T H0 j af xs sl Q E (f - 1) σ' H' n m xs1 kvs1 p ∧ 0 < f, fun σ' H' h => ?_, ?_⟩
        · obtain ⟨n, m, xs1, kvs1, p, h, hf⟩ := h
          exact ⟨f - 1, by omega, n, m, xs1, kvs1, p, h⟩
        dsimp only [tDrop, tSeq]
        refine meth_run (val_fld (val_var rfl) pw.pg N.C.cl N.C.lines pf_lines) pw.li.o (lf_no (by decide +kernel) (by decide +kernel)) ?_
        refine ⟨_, rfl, true, tt (Same.refl _), iteT ?_⟩
        refine (val_andTB (val_i0b (val_var rfl) val_c) (val_i0b (val_fld (val_var rfl) pw.pg N.C.cl N.C.many pf_many) val_c)) _ ?_
        refine ⟨A.l, A.dl, A.r, T.rows, n, _, _, rfl, pw.li, rfl, fun e1 => ?_, fun e1 => ErrK.mono ?_ pw.s0⟩
        · rw [Bool.and_eq_true] at e1
          have hf : 8 - f < 8 := by
            have := of_decide_eq_true e1.1
            omega
          have hm24 : m < 24 := by
            have := of_decide_eq_true e1.2
            omega
          obtain ⟨f, rfl⟩ : ∃ g, f = g + 1 := ⟨f - 1, by omega⟩
          unfold blockR at k'
          rw [if_neg hwn, if_pos hm24] at k'
          refine meth_run (val_fld (val_var rfl) pw.pg N.C.cl N.C.lines pf_lines) pw.li.o (lf_no (by decide +kernel) (by decide +kernel)) ?_
          have vz : Val (tOp rEq (tOp (rIxL K) (tVar 4) (tC (.int 0))) (tC (.str "ask"))) [some (.ref A.g), some (.int ((3 - j : Nat) : Int)), some (.bl af), some (.int ((8 - (f + 1) : Nat) : Int)), some (.ref p)] H (.bl (decide (V.str z = V.str "ask"))) :=
            val_op (val_ixL (val_var rfl) val_c (SqL.of hp) (atI_nat (j := 0) (by rw [hw]; rfl))) val_c fun Q q => ⟨rfl, q⟩
          refine (val_orV (val_i0b (val_var rfl) val_c) fun _ => val_orV (val_notV (val_var rfl)) fun _ => vz) _ ?_
          have a1 : decide ((0 : Int) < ((8 - (f + 1) : Nat) : Int)) = decide (f ≠ 7) := decide_eq_decide.mpr ⟨fun e => by omega, fun e => by omega⟩
          have hcond : (decide ((0 : Int) < ((8 - (f + 1) : Nat) : Int)) || (!af || decide (V.str z = V.str "ask"))) = (decide (f ≠ 7) || (!af || decide ((wordsAt T.rows n (3 - j)).getD 0 "" = ("ask" : Str)))) := by
            rw [a1, dec_str, hw]
            rfl
          rw [hcond]
          refine ⟨A.l, A.dl, A.r, T.rows, n, _, _, rfl, pw.li, rfl, fun e2 => ?_, fun e2 => ErrK.mono ?_ pw.s0⟩
          · rw [if_pos e2] at k'
            have k1 : (stmtR T (subR T (oOf j)) (3 - j) (wordsAt T.rows n (3 - j)) n (m + 1)).K (fun n1 m1 => (blockR T (stmtR T (subR T (oOf j)) (3 - j)) (3 - j) af f n1 m1).K (BQ CL CP A T H0 xs sl Q) fun e => ErrK CT (.int e) H0 E) fun e => ErrK CT (.int e) H0 E := by
              revert k'
              match stmtR T (subR T (oOf j)) (3 - j) (wordsAt T.rows n (3 - j)) n (m + 1) with
              | .ok (n1, m1) => exact fun k => k
              | .error e => exact fun k => k
            refine ⟨_, rfl, _, 1, rfl, rfl, ?_⟩
            refine ⟨_, rfl, A.g, CP, A.dg, _, _, rfl, pw.pg, N.C.cl, N.C.many, pf_many, m, 1, rfl, rfl, A.dg, _, pw.pg, by show 7 < 1000; decide, ?_⟩
            have eH : upd H A.g (.ins CP A.dg (putF "many" (.int ((m : Int) + 1)) (pf A T m))) = upd H A.g (.ins CP A.dg (pf A T (m + 1))) := by
              rw [show ((m : Int) + 1) = ((m + 1 : Nat) : Int) from rfl, pf_put]
            rw [eH]
            have p2 := pw.count (m + 1)
            have hp2 := at_but (b := A.g) (o := .ins CP A.dg (pf A T (m + 1))) hp (by rw [pw.pg]; exact fun e => nomatch e)
            refine meth_run (val_var rfl) p2.pg (pf_no (by decide +kernel)) ?_
            refine (val_var rfl) _ ((val_var rfl) _ ?_)
            refine ⟨A, T, H0, n, m + 1, xs1, kvs1, p, wordsAt T.rows n (3 - j), sl, by rw [dp_oOf]; rfl, p2, tx, hp2, words_ok tx.sz, hwn, words_many tx.sz, hn, by omega, by omega, by omega, ?_⟩
            show (stmtR T (subR T (oOf j)) (dpO (oOf j)) _ n (m + 1)).K _ _
            rw [dp_oOf]
            refine Res.K.mono k1 (fun n1 m1 q H3 xs3 kvs3 p3 hmore hl3 hk3 hm3 => ?_) fun e h => h
            refine meth_run (val_fld (val_var rfl) p3.pg N.C.cl N.C.lines pf_lines) p3.li.o (lf_no (by decide +kernel) (by decide +kernel)) ?_
            refine (val_var rfl) _ ?_
            refine ⟨A.l, A.dl, A.r, T.rows, n1, 3 - j, rfl, p3.li, tx.sz, by omega, fun H4 p4 s4 np4 hp4 => ?_⟩
            dsimp only [gName]
            refine ⟨n1, m1, xs3, kvs3, p4, ⟨by omega, ?_, p3.mono s4, hp4, ?_, hl3, hk3, hm3, ?_⟩, Nat.succ_pos _⟩
            · have e : (((8 - (f + 1) : Nat) : Int) + 1) = ((8 - (f + 1 - 1) : Nat) : Int) := by omega
              show [some (V.ref A.g), some (.int ((3 - j : Nat) : Int)), some (.bl af), some (.int (((8 - (f + 1) : Nat) : Int) + 1)), some (.ref p4)] = _
              rw [e]
            · obtain ⟨more, rfl⟩ := hmo
              obtain ⟨more3, rfl⟩ := hmore
              exact ⟨more ++ more3, List.append_assoc _ _ _⟩
            · rw [dp_oOf]
              exact q
          · rw [e2, if_neg Bool.false_ne_true] at k'
            exact k'
        · cases f with
          | zero =>
            unfold blockR at k'
            rw [if_neg hwn] at k'
            exact k'
          | succ f =>
            have hm24 : ¬ m < 24 := fun c => by
              have a1 : decide (((8 - (f + 1) : Nat) : Int) < 8) = true := decide_eq_true (by omega)
              have a2 : decide ((m : Int) < 24) = true := decide_eq_true (by omega)
              rw [a1, a2] at e1
              exact nomatch e1
            unfold blockR at k'
            rw [if_neg hwn, if_neg hm24] at k'
            exact k'
end
end K5
namespace K5
open PySem PySem.Spec PyProof.Rows L2
section
variable {P : Program} {w : World} {K : PySem.W.Frag} {mg : Str → Option Value} {base : Heap} {CL CP CT fNeed fNum fDoor : Addr} {dNeed dNum dDoor : FuncData} {fWords fStep fCond fPlain : Addr} {dWords dStep dCond dPlain : FuncData}
/-- the readers that call one another -/
structure En3 (K : PySem.W.Frag) (CP : Addr) (fH fI fW fS fB : Addr) (dH dI dW dS dB : FuncData) : Prop where
  h : Mf K CP "read_head" "Program.read_head" s_Program_read_head fH dH ["self", "words", "depth"]
  i : Mf K CP "read_if" "Program.read_if" s_Program_read_if fI dI ["self", "words", "depth"]
  w : Mf K CP "read_while" "Program.read_while" s_Program_read_while fW dW ["self", "words", "depth"]
  s : Mf K CP "read_statement" "Program.read_statement" s_Program_read_statement fS dS ["self", "words", "depth"]
  b : Mf K CP "read_block" "Program.read_block" s_Program_read_block fB dB ["self", "depth", "asks_first"]
theorem ok_block {fH fI fW fS fB : Addr} {dH dI dW dS dB : FuncData} (N : En P w K mg base CL CP CT fNeed fNum fDoor dNeed dNum dDoor) (M : En2 P w K mg base CL CP CT fWords fStep fCond fPlain dWords dStep dCond dPlain) (R : En3 K CP fH fI fW fS fB dH dI dW dS dB) :
    ∀ j : Nat, j ≤ 3 → FnOk P w K mg base (L2.CX P w) (13 + 3 * j) fB dB ["self", "depth", "asks_first"] (spBlock CL CP CT j)
  | 0, _ => by
    have G0 : FnOk P w K mg base (L2.CX P w) 10 fB dB ["self", "depth", "asks_first"] (spBlockO CL CP CT none) := R.b.F.okX sc_Program_read_block (fun vs H Q E h => h.elim) (fun cdv A0 outer s H vs Q E hr h => h.elim)
    exact ok_read_block (kb := 10) (j := 0) (by decide) N M R.b.F R.s (ok_read_statement (o := none) (by decide) (fun j e => nomatch e) N M R.s.F R.i R.w R.h R.b G0)
  | j + 1, h => by
    have G0 : FnOk P w K mg base (L2.CX P w) (13 + 3 * j) fB dB ["self", "depth", "asks_first"] (spBlockO CL CP CT (some j)) := ok_block N M R j (by omega)
    exact ok_read_block (kb := 13 + 3 * j) (j := j + 1) (by omega) N M R.b.F R.s (ok_read_statement (o := some j) (by omega) (fun i e => by cases e; omega) N M R.s.F R.i R.w R.h R.b G0)
/-- what reading a door leaves -/
def DQ (CL CP : Addr) (A : Ad) (T : Tx) (H0 : Hp) (sl : Nat) (Q : VK) (n m : Nat) : Prop :=
  ∀ (H' : Hp) (xs' : List V) (kvs' : List (Key × V)) (i : Nat), Wd CL CP A T H0 H' n m xs' kvs' → xs'.length + sl ≤ 2 * m + 100 → kvs'.length ≤ m + 100 → m ≤ 24 → Q (.int i) H'
def spReadDoor (CL CP CT : Addr) : Sp := fun vs H Q E => ∃ (A : Ad) (T : Tx) (H0 : Hp) (n m : Nat) (xs : List V) (kvs : List (Key × V)) (sl : Nat), vs = [.ref A.g] ∧ Wd CL CP A T H0 H n m xs kvs ∧ TxOk T ∧
  xs.length + 1 + sl ≤ 2 * m + 100 ∧ kvs.length ≤ m + 100 ∧ m ≤ 24 ∧ (blk T 2 false n m).K (DQ CL CP A T H0 sl Q) fun e => ErrK CT (.int e) H0 E
theorem ok_read_door {f fB : Addr} {fd dB : FuncData} (N : En P w K mg base CL CP CT fNeed fNum fDoor dNeed dNum dDoor) (F : Fun K "read_door" "Program.read_door" s_Program_read_door f fd) (Mb : Mf K CP "read_block" "Program.read_block" s_Program_read_block fB dB ["self", "depth", "asks_first"]) (Gb : FnOk P w K mg base (L2.CX P w) 19 fB dB ["self", "depth", "asks_first"] (spBlock CL CP CT 2)) :
    FnOk P w K mg base (L2.CX P w) 20 f fd ["self"] (spReadDoor CL CP CT) := by
  refine F.okX sc_Program_read_door (fun vs H Q E h => ?_) (fun cdv A0 outer s H vs Q E hr h => ?_)
  · obtain ⟨A, T, H0, n, m, xs, kvs, sl, rfl, _⟩ := h
    rfl
  · obtain ⟨A, T, H0, n, m, xs, kvs, sl, rfl, pw, tx, hl, hkv, hm, k⟩ := h
    have S := sc_Program_read_door
    refine ⟨_, (pss_cons (ps_set (i := 1) S.nd rfl (.inl rfl) (pe_callB call_len_seq (by rfl) N.B.m_len PySem.boot_len (pa_cons (pe_fld (pv 0) rfl) pa_nil)))
      (pss_cons (ps_expr (pe_meth (pv 0) N.C.cl Mb.m Gb (hr.mono (by decide)) Mb.b .nil (pxp rfl rfl rfl rfl) (pa_cons pe_int (pa_cons pe_bl pa_nil))))
      (pss_cons (ps_expr (pe_bm PySem.F.plainAttrs_list PySem.F.slot_list_append PySem.F.type_list_append mt_append (pe_fld (pv 0) rfl) (pa_cons (pe_tup (pa_cons pe_str (pa_cons (pe_tup (pa_cons pe_str (pa_cons pe_int pa_nil))) pa_nil))) pa_nil)))
      (pss_one (ps_ret (pv 1)))))), ?_⟩
    dsimp only [tNext, tSeq, tAsg, tDrop, tRet]
    refine (val_lenL (val_fld (val_var rfl) pw.pg N.C.cl N.C.steps pf_steps) (SqL.of pw.st)) _ ?_
    dsimp only [gName]
    refine meth_run (val_var rfl) pw.pg (pf_no (by decide +kernel)) ?_
    refine ⟨A, T, H0, n, m, xs, kvs, false, sl + 1, rfl, pw, tx, by omega, hkv, hm, ?_⟩
    refine Res.K.mono k (fun n1 m1 q H1 xs1 kvs1 p1 hmore hl1 hk1 hm1 => ?_) fun e h => h
    refine bm_run (val_fld (val_var rfl) p1.pg N.C.cl N.C.steps pf_steps) (.inl ⟨rfl, _, SqL.of p1.st⟩) ?_
    refine ⟨by show 2 ≤ sizeLine; decide, fun o no => ?_⟩
    have p2 := p1.mono (same_upd (o := .tup [.str "worth", .int 0]) no)
    generalize (upd H1 o (.tup [.str "worth", .int 0])) = H2 at p2
    refine ⟨by show 2 ≤ sizeLine; decide, fun o3 no3 => ?_⟩
    have p3 := p2.mono (same_upd (o := .tup [.str "answer", .ref o]) no3)
    have ho3 : (upd H2 o3 (.tup [.str "answer", .ref o])) o3 = some (.tup [.str "answer", .ref o]) := upd_same
    generalize (upd H2 o3 (.tup [.str "answer", .ref o])) = H3 at p3 ho3
    refine ⟨A.st, xs1, .ref o3, rfl, rfl, p3.st, small1000 (by omega), ?_⟩
    have p4 := p3.push ho3 (Nat.le_of_ble_eq_true rfl)
    refine ⟨_, rfl, ?_⟩
    refine q _ _ kvs1 xs.length p4 ?_ hk1 hm1
    rw [List.length_append]
    show xs1.length + 1 + sl ≤ _
    omega
abbrev s_Program___init__ : Stmt := inClass (topS 16) 0
theorem sc_Program___init__ : FnScope ["self", "lines", "worths", "cells", "ports"] ["self", "lines", "worths", "cells", "ports"] (defScope s_Program___init__) := ⟨rfl, rfl, rfl, by decide +kernel, rfl, by decide +kernel, by decide +kernel⟩
def spProgram (CP : Addr) : Sp := fun vs H Q _ => ∃ (l g dg ct pt : Addr) (wn : Int), vs = [.ref g, .ref l, .int wn, .ref ct, .ref pt] ∧ H g = some (.ins CP dg []) ∧
  ∀ (H' : Hp) (st ak : Addr), SameBut g H H' → H st = none → H ak = none → H' g = some (.ins CP dg [("lines", .ref l), ("worths", .int wn), ("cells", .ref ct), ("ports", .ref pt), ("steps", .ref st), ("asks", .ref ak), ("many", .int 0)]) → H' st = some (.lst []) → H' ak = some (.dK []) → Q .non H'
theorem put_app {f : Str} {v : V} {ns : List Str} : ∀ {fs : List (Str × V)}, fs.map (·.1) = ns → (∀ x ∈ ns, ¬ x = f) → putF f v fs = fs ++ [(f, v)]
  | [], _, _ => rfl
  | (g, x) :: r, e, h => by
    subst e
    rw [put_tl (h g (List.mem_cons_self ..)), put_app (fs := r) rfl fun y hy => h y (List.mem_cons_of_mem _ hy)]
    rfl
theorem fld_new {D : Ends} {σ : L2.St} {H : Hp} {f : Str} {v : V} {to tv : TE} {g C dg : Addr} {fs : List (Str × V)} (ns : List Str) (hv : Val tv σ H v) (ho : Val to σ H (.ref g)) (hg : H g = some (.ins C dg fs)) (cl : Cls K C) (na : NoAttr K C f) (hns : fs.map (·.1) = ns) (hf : ∀ x ∈ ns, ¬ x = f) (hl : ns.length ≤ 100)
    (k : ∀ H', SameBut g H H' → H' g = some (.ins C dg (fs ++ [(f, v)])) → D.nx σ H') : sFld K to tv f D σ H := by
  have e := put_app (v := v) hns hf
  have l : fs.length ≤ 100 := by
    have : fs.length = ns.length := by rw [← hns, List.length_map]
    omega
  refine hv _ (ho _ ⟨g, C, dg, fs, rfl, hg, cl, na, by omega, ?_⟩)
  rw [e]
  exact k _ (SameBut.upd g H _) upd_same
theorem ok_Program_init {f : Addr} {fd : FuncData} (C : ClP K CP) (F : Fun K "__init__" "Program.__init__" s_Program___init__ f fd) : FnOk P w K mg base CX0 1 f fd ["self", "lines", "worths", "cells", "ports"] (spProgram CP) := by
  refine F.ok sc_Program___init__ (fun vs H Q E h => ?_) (fun cdv A0 outer s H vs Q E hr h => ?_)
  · obtain ⟨l, g, dg, ct, pt, wn, rfl, _⟩ := h
    rfl
  · obtain ⟨l, g, dg, ct, pt, wn, rfl, hg, k⟩ := h
    have S := sc_Program___init__
    refine ⟨_, (pss_cons (ps_fld (pv 0) (pv 1) rfl)
      (pss_cons (ps_fld (pv 0) (pv 2) rfl)
      (pss_cons (ps_fld (pv 0) (pv 3) rfl)
      (pss_cons (ps_fld (pv 0) (pv 4) rfl)
      (pss_cons (ps_fld (pv 0) (pe_lst pa_nil) rfl)
      (pss_cons (ps_fld (pv 0) pe_dnewK rfl)
      (pss_one (ps_fld (pv 0) pe_int rfl)))))))), ?_⟩
    dsimp only [tSeq]
    refine fld_new [] (val_var rfl) (val_var rfl) hg C.cl C.lines rfl (by decide +kernel) (by decide) fun H1 s1 g1 => ?_
    refine fld_new ["lines"] (val_var rfl) (val_var rfl) g1 C.cl C.worths rfl (by decide +kernel) (by decide) fun H2 s2 g2 => ?_
    refine fld_new ["lines", "worths"] (val_var rfl) (val_var rfl) g2 C.cl C.cells rfl (by decide +kernel) (by decide) fun H3 s3 g3 => ?_
    refine fld_new ["lines", "worths", "cells"] (val_var rfl) (val_var rfl) g3 C.cl C.ports rfl (by decide +kernel) (by decide) fun H4 s4 g4 => ?_
    refine ⟨by show 0 ≤ sizeLine; decide, fun st nst => ?_⟩
    have s5 := same_upd (o := .lst []) nst
    have st5 : (upd H4 st (.lst [])) st = some (.lst []) := upd_same
    have g5 := s5 _ _ g4
    have nsg : st ≠ g := fun e => by rw [e, g4] at nst; exact nomatch nst
    have s04 := ((s1.trans s2).trans s3).trans s4
    have s05 := s04.trans (SameBut.of_same s5)
    have n0 : H st = none := by
      cases e : H st with
      | none => rfl
      | some o => exact absurd ((s04 _ _ nsg e).symm.trans nst) (fun z => nomatch z)
    generalize (upd H4 st (.lst [])) = H5 at s5 st5 g5 s05
    refine fld_new ["lines", "worths", "cells", "ports"] val_c (val_var rfl) g5 C.cl C.steps rfl (by decide +kernel) (by decide) fun H6 s6 g6 => ?_
    have st6 := s6 _ _ nsg st5
    refine fun ak nak => ?_
    have s7 := same_upd (o := .dK []) nak
    have ak7 : (upd H6 ak (.dK [])) ak = some (.dK []) := upd_same
    have g7 := s7 _ _ g6
    have nag : ak ≠ g := fun e => by rw [e, g6] at nak; exact nomatch nak
    have st7 := s7 _ _ st6
    have s06 := s05.trans s6
    have s07 := s06.trans (SameBut.of_same s7)
    have na0 : H ak = none := by
      cases e : H ak with
      | none => rfl
      | some o => exact absurd ((s06 _ _ nag e).symm.trans nak) (fun z => nomatch z)
    generalize (upd H6 ak (.dK [])) = H7 at s7 ak7 g7 st7 s07
    refine fld_new ["lines", "worths", "cells", "ports", "steps"] val_c (val_var rfl) g7 C.cl C.asks rfl (by decide +kernel) (by decide) fun H8 s8 g8 => ?_
    refine fld_new ["lines", "worths", "cells", "ports", "steps", "asks"] val_c (val_var rfl) g8 C.cl C.many rfl (by decide +kernel) (by decide) fun H9 s9 g9 => ?_
    exact k H9 st ak ((s07.trans s8).trans s9) n0 na0 g9 (s9 _ _ nsg (s8 _ _ nsg st7)) (s9 _ _ nag (s8 _ _ nag ak7))
end
end K5
namespace K5
open PySem PySem.Spec PyProof.Rows L2
/-! ### tuple(d.items()) -/
theorem paired_imp {α β : Type} {F G : α → β → Prop} (h : ∀ x y, F x y → G x y) : ∀ {xs : List α} {ys : List β}, Paired F xs ys → Paired G xs ys
  | _, _, .nil => .nil
  | _, _, .cons r t => .cons (h _ _ r) (paired_imp h t)
section
variable {prog : PySem.Program} {w : World} {A : Around} {E : Value → Shared → Prop} {s : Shared} {r d : Addr} {ep : Nat}
theorem made_tuple_items {kvs : List (Key × Value)} {Z : Value → Shared → Prop} (calm : A.handled = none) (view : s.heap.IsItemsView r d) (at' : s.heap.DictAt (mixKind prog w) d kvs ep) (few : kvs.length ≤ sizeLine)
    (then' : ∀ (h1 : Heap) (tk : Nat) (ts : List Addr), (∀ c u, s.heap.get? c = some u → h1.get? c = some u) → ts.length = kvs.length → PySem.W.KdxG (mixKind prog w) kvs s.heap.objs.size h1 ts →
      Z (.ref h1.objs.size) { s with heap := h1.push { cls := .type "tuple", data := .seq (ts.map Value.ref).toArray }, toks := tk }) :
    codeAny (model prog w) A (.call (.builtin "tuple.__new__") ⟨[.type "tuple", .ref r], []⟩) (wants Z E) s := by
  refine codeAny_of_tree ?_
  show wpAny _ A.in1 (do
    checkBuiltinCall "tuple.__new__" ⟨[.type "tuple", .ref r], []⟩
    again (.builtin "tuple.__new__" ⟨[.type "tuple", .ref r], []⟩)) _ _ s
  have pid := F.plain_tuple_new
  refine wpAny_bind (wpAny_of_eq (F.newCall_tuple_1 _) (wpAny_pure ⟨plainId_quiet pid _, codeAny_builtin F.entry_tuple_new ?_⟩))
  rw [Around.under_plainId pid _]
  have fj := sub_tuple_self
  have fk := init_tuple_lookup
  have fv := madeHere_tuple
  have f4 : s.TypeIs (.ref r) "dict_items" := by
    obtain ⟨ov, h1, h2, _⟩ := view
    exact ⟨ov, h1, h2⟩
  have f5 : A.in1.handled = none := calm
  wp_walk using wpAny_typeOf f4, PySem.W.kdx_collect (A := A.in1) (knd := mixKind prog w) f5 view at' few
  intro h1 tk ts keep hl hG
  show wpAny _ _ (Builtin.Tuple.tupleExact (ts.map Value.ref).toArray >>= fun x => ret x) _ _ _
  rw [Builtin.Tuple.tupleExact]
  refine wpAny_bind (wpAny_newObj_type ?_ (by show (ts.map Value.ref).toArray.size ≤ sizeLine; rw [List.size_toArray, List.length_map, hl]; exact few))
  exact wpAny_pure (then' h1 tk ts keep hl hG)
theorem called_tuple_items {kvs : List (Key × Value)} {Z : Value → Shared → Prop} (calm : A.handled = none) (view : s.heap.IsItemsView r d) (at' : s.heap.DictAt (mixKind prog w) d kvs ep) (few : kvs.length ≤ sizeLine)
    (then' : ∀ (h1 : Heap) (tk : Nat) (ts : List Addr), (∀ c u, s.heap.get? c = some u → h1.get? c = some u) → ts.length = kvs.length → PySem.W.KdxG (mixKind prog w) kvs s.heap.objs.size h1 ts →
      Z (.ref h1.objs.size) { s with heap := h1.push { cls := .type "tuple", data := .seq (ts.map Value.ref).toArray }, toks := tk }) :
    wpAny (model prog w) A (call (.type "tuple") [.ref r]) Z E s := by
  refine callType_codes (Q₁ := fun y s1 => s1.TypeIs y "tuple" ∧ Z y s1) F.called_tuple (F.typeCall_tuple_1 _) F.entry_object_init
    (made_tuple_items (A := A.in1) calm view at' few fun h1 tk ts k1 k2 k3 => ⟨⟨_, Heap.get?_push_size _ rfl, rfl⟩, then' h1 tk ts k1 k2 k3⟩) fun y s1 z => ?_
  exact ⟨z.1, F.args_object_init_2 y _, object_init_meets F.called_tuple.init.lookup F.called_tuple.made (by decide) prog w A.in1 _ s1 ⟨z.1, rfl, z.2⟩⟩
end
/-- tuple(d.items()) -/
def tTupItems (te : TE) : TE := fun σ H Q => te σ H fun x H1 => ∃ (d : Addr) (kvs : List (Key × V)), x = .ref d ∧ H1 d = some (.dK kvs) ∧
  ∀ (H' : Hp) (p : Addr) (ts : List Addr), Same H1 H' → H1 p = none → H' p = some (.tup (ts.map V.ref)) → Paired (fun (t : Addr) (q : Key × V) => H' t = some (.tup [kV q.1, q.2])) ts kvs → Q (.ref p) H'
section
variable {X : Cx} {e : Expr} {te : TE} {p ap0 cp0 pos : Pos}
theorem pairs_laid {pins : List (Addr × Obj)} {σ : L2.St} {H : Hp} {s : Shared} {h1 : Heap} {tk : Nat} {kvs : List (Key × V)} {vs : List (Key × Value)} {ts : List Addr} (I : Inv X pins σ H s) (kv : KV kvs vs)
    (keep : ∀ c u, s.heap.get? c = some u → h1.get? c = some u) (hl : ts.length = vs.length) (hG : PySem.W.KdxG (mixKind X.prog X.w) vs s.heap.objs.size h1 ts) :
    ∃ H' : Hp, Same H H' ∧ Paired (fun (t : Addr) (q : Key × V) => H' t = some (.tup [kV q.1, q.2])) ts kvs ∧ Inv X pins σ H' { s with heap := h1, toks := tk } := by
  have lenEq : kvs.length = vs.length := Paired.length kv
  have nd : ts.Nodup := List.Pairwise.imp (fun {a b} (z : a < b) => Nat.ne_of_lt z) hG.rise
  have fresh : ∀ t ∈ ts, H t = none := fun t z => I.hok.fresh (Nat.le_of_lt (hG.above t z))
  have atP := LiI.putT_at ts kvs H (by omega) nd
  have off : ∀ c, c ∉ ts → LiI.putT H ts kvs c = H c := fun c z => LiI.putT_off ts kvs H z
  have low : ∀ c u, s.heap.get? c = some u → c ∉ ts := fun c u e z => absurd (Heap.lt_size e) (Nat.not_lt.mpr (Nat.le_of_lt (hG.above c z)))
  have kp : ∀ c u, H c = some u → (LiI.putT H ts kvs) c = some u := fun c u e => by
    rw [off c fun z => by rw [fresh c z] at e; cases e]
    exact e
  refine ⟨LiI.putT H ts kvs, kp, atP, ?_⟩
  refine I.call' (ch := []) rfl ⟨fun c o q _ _ _ => keep c o q, fun c o q _ _ _ => ⟨o.slots, keep c o q⟩, fun c o q n _ => ?_, fun c o q _ => ⟨o, keep c o q⟩, fun c xs q => kp c _ q, fun c o u q => kp c _ q, fun c ps q => ⟨#[], by rw [kp c _ q]; simp⟩⟩ (fun c u q => ?_) I.bare fun c z => by simp at z
  · rw [off c (low c o q)]
    exact n
  · by_cases hc : c ∈ ts
    · obtain ⟨j, pk, e1, e2, e3⟩ := LiI.paired_ix atP hc
      rw [e3] at q
      cases q
      obtain ⟨key, k, x, fj, fk, fv⟩ := hG.pairs j c e1
      obtain ⟨qv, g1, g2, gv⟩ := LiI.paired_get kv e2
      rw [fj] at g1
      cases g1
      have rKey : RelV (kV pk.1) key := by
        rw [g2]
        exact relV_key (show keyIs k key = true from fk)
      exact ⟨by show 2 ≤ sizeLine; decide, [key, x], .cons rKey (.cons gv .nil), ⟨_, fv, rfl, _, rfl⟩⟩
    · rw [off c hc] at q
      exact (I.hok c u q).stay (fun d v _ y => keep d v y) (fun d y => kp d _ y) fun d xs y => kp d _ y
theorem pe_tupItems (hc : X.calm = true) (he : PE X e te) (hg : Gl X "tuple") (hm : X.mg "tuple" = none) (base1 : attributeBase e "items" X.env (eval e X.env) = eval e X.env := by rfl) (line1 : (ap0.endLine == cp0.line) = true := by rfl)
    (star1 : starEach [.Call (.Attribute e "items" ap0) [] [] cp0] X.env = (false, eval (.Call (.Attribute e "items" ap0) [] [] cp0) X.env) :: starEach [] X.env := by rfl) :
    PE X (.Call (.Name "tuple" p) [.Call (.Attribute e "items" ap0) [] [] cp0] [] pos) (tTupItems te) := by
  refine ⟨fun pins s σ H Q I hh0 => ?_⟩
  refine wpAny_Call_Name_kw (ld_blt I hg hm boot_tuple ?_)
  refine PyProof.Rows.callWith_type1 ?_ star1 rfl
  rw [star1]
  show wpAny _ _ (spliced ((false, eval (.Call (.Attribute e "items" ap0) [] [] cp0) X.env) :: backTo pos (starEach [] X.env))) _ _ s
  refine Calls.spliced_cons ?_
  refine wpAny_Call_method (T := "dict") (id := "dict.items") base1 rfl line1 F.plainAttrs_dict F.slot_dict_items F.type_dict_items (thn (he.run pins s σ H _ I hh0) fun u s1 ⟨x, H1, IA, rx, d, kvs, ex, hd, q⟩ => ?_)
  subst ex
  obtain rfl : u = Value.ref d := rx
  obtain ⟨hz, lo0, vs, kv, dOf1⟩ := IA.hok d _ hd
  obtain ⟨ep, dAt1⟩ := dOf1.dictAt
  have lenEq : kvs.length = vs.length := Paired.length kv
  have IB : Inv X pins σ H1 { s1 with heap := s1.heap.push { cls := .type "dict_items", data := .fields #[.ref d] } } := IA.kept (t' := s1.toks) fun c ob q => Heap.get?_push_of_some _ q
  refine ⟨dOf1.typeIs, dOf1.mapOf.noDict, ?_⟩
  show wpAny _ _ (callWith cp0 (.builtin "dict.items") [.ref d] [] []) _ X.xe s1
  refine method_meetsIn F.slot_dict_items F.entry_dict_items rfl (PySem.evalArgs_none ⟨rfl, dOf1.typeIs, F.args_dict_items_1 _, _, meets_dict_items (mixKind X.prog X.w) d lo0, ⟨vs, dOf1⟩, ?_⟩)
  refine Calls.spliced_nil ?_
  refine called_tuple_items (kvs := vs) (ep := ep) (IA.ok.hd hc) ⟨_, Heap.get?_push_size _ rfl, rfl, rfl⟩ (dAt1.push _) (by omega) fun h1 tk ts keep hl hG => ?_
  obtain ⟨H', k1, k2, J⟩ := pairs_laid (tk := tk) IB kv keep hl hG
  have J2 : Inv X pins σ (upd H' h1.objs.size (.tup (ts.map V.ref))) { s1 with heap := h1.push { cls := .type "tuple", data := .seq (ts.map Value.ref).toArray }, toks := tk } :=
    J.laid (t' := tk) (fun c o e => Heap.get?_push_of_some _ e) (Nat.le_refl _) (show ObjOk X.prog X.w _ _ _ (.tup (ts.map V.ref)) from ⟨by rw [List.length_map]; omega, ts.map Value.ref, LiI.vals_refs ts, IsTup.new _ _⟩)
  have nf : H' h1.objs.size = none := J.hok.fresh (Nat.le_refl _)
  have s3 := same_upd (o := .tup (ts.map V.ref)) nf
  refine ⟨.ref h1.objs.size, _, J2, rfl, q _ _ ts (fun c u e => s3 _ _ (k1 c u e)) ?_ upd_same ?_⟩
  · cases e : H1 h1.objs.size with
    | none => rfl
    | some o => exact absurd ((k1 _ _ e).symm.trans nf) (fun z => nomatch z)
  · exact paired_imp (fun t q e => s3 _ _ e) k2
end
end K5
namespace K5
open PySem PySem.Spec PyProof.Rows L2
/-! ### the heads of a text -/
def RK {β : Type} (r : Except Nat (Nat × β)) (q : Nat → β → Prop) (e : Nat → Prop) : Prop := match r with
  | .ok (a, b) => q a b
  | .error n => e n
theorem RK.mono {β : Type} {r : Except Nat (Nat × β)} {q q' : Nat → β → Prop} {e e' : Nat → Prop} (h : RK r q e) (hq : ∀ a b, q a b → q' a b) (he : ∀ n, e n → e' n) : RK r q' e' := by
  match r, h with
  | .ok (a, b), h => exact hq a b h
  | .error n, h => exact he n h
def portsR (rows : List Str) : Nat → Nat → List Str → Except Nat (Nat × List Str)
  | 0, n, _ => .error n
  | f + 1, n, ps =>
    if decide ((wordsAt rows n 0).take 1 = (["port"] : List Str)) = true then
      if (decide ((wordsAt rows n 0).length = 2) && decide (ps.length < 2)) = true then
        if (isName ((wordsAt rows n 0).getD 1 "") && !decide ((wordsAt rows n 0).getD 1 "" ∈ ps)) = true then portsR rows f (n + 1) (ps ++ [(wordsAt rows n 0).getD 1 ""])
        else .error n
      else .error n
    else .ok (n, ps)
/-- what the readers of heads ask -/
structure En4 (P : Program) (w : World) (K : PySem.W.Frag) (mg : Str → Option Value) (base : Heap) (CL CT : Addr) (fBegins fWords fStep fNeed fName fDoor fNum : Addr) (dBegins dWords dStep dNeed dName dDoor dNum : FuncData) : Prop where
  B : Bt mg
  L : ClL K CL
  Mb : Mf K CL "begins" "Lines.begins" s_Lines_begins fBegins dBegins ["self", "word"]
  Gb : FnOk P w K mg base CX0 2 fBegins dBegins ["self", "word"] (spBegins CL)
  Mw : Mf K CL "words" "Lines.words" s_Lines_words fWords dWords ["self", "depth"]
  Gw : FnOk P w K mg base CX0 1 fWords dWords ["self", "depth"] (spWords CL)
  Ms : Mf K CL "step" "Lines.step" s_Lines_step fStep dStep ["self"]
  Gs : FnOk P w K mg base CX0 1 fStep dStep ["self"] (spStep CL)
  Mn : Mf K CL "need" "Lines.need" s_Lines_need fNeed dNeed ["self", "right"]
  Gn : FnOk P w K mg base (L2.CX P w) 4 fNeed dNeed ["self", "right"] (spNeed K CL CT)
  Da : Df K mg "is_name" s_is_name fName dName ["value"]
  Ga : FnOk P w K mg base CX0 1 fName dName ["value"] spIsName
  Dd : Df K mg "is_door" s_is_door fDoor dDoor ["value"]
  Gd : FnOk P w K mg base CX0 2 fDoor dDoor ["value"] spIsDoor
  Du : Df K mg "number" s_number fNum dNum ["word", "many"]
  Gu : FnOk P w K mg base CX0 1 fNum dNum ["word", "many"] spNumber
  cP : ∃ t, mg "MOST_PORTS" = some (.int 2 t)
  cC : ∃ t, mg "MOST_CELLS" = some (.int 3 t)
  cD : ∃ t, mg "MOST_DOORS" = some (.int 3 t)
  cB : ∃ b, mg "BARRED_CELLS" = some (.ref b) ∧ ∀ H : Hp, SqT K H b ((["it", "got", "lost", "busy"] : List Str).map V.str)
abbrev s_read_cells : Stmt := topS 23
theorem sc_read_cells : FnScope ["lines", "worths", "cells", "words"] ["lines", "worths"] (defScope s_read_cells) := ⟨rfl, rfl, rfl, by decide +kernel, rfl, by decide +kernel, by decide +kernel⟩
abbrev s_read_ports : Stmt := topS 24
theorem sc_read_ports : FnScope ["lines", "ports", "words"] ["lines"] (defScope s_read_ports) := ⟨rfl, rfl, rfl, by decide +kernel, rfl, by decide +kernel, by decide +kernel⟩
abbrev s_read_doors : Stmt := topS 25
theorem sc_read_doors : FnScope ["lines", "program", "starts", "words"] ["lines", "program"] (defScope s_read_doors) := ⟨rfl, rfl, rfl, by decide +kernel, rfl, by decide +kernel, by decide +kernel⟩
def spPorts (CL CT : Addr) : Sp := fun vs H Q E => ∃ (H0 : Hp) (l dl r : Addr) (rows : List Str) (n : Nat), vs = [.ref l] ∧ Same H0 H ∧ H0 l = none ∧ LinesAt CL H l dl r rows n ∧ Sz rows ∧
  RK (portsR rows 3 n []) (fun n' ps => ∀ (H' : Hp) (p : Addr), Same H0 H' → LinesAt CL H' l dl r rows n' → H0 p = none → H' p = some (.tup (ps.map V.str)) → ps.length ≤ 2 → Q (.ref p) H') fun e => ErrK CT (.int e) H0 E
/-- before each turn -/
structure PW1 (CL CT : Addr) (H0 : Hp) (l dl r : Addr) (rows : List Str) (Q : Nat → List Str → Prop) (E : XK) (f : Nat) (σ : L2.St) (H : Hp) (n : Nat) (ps : List Str) (pl : Addr) : Prop where
  f3 : f + ps.length = 3
  le : ps.length ≤ 2
  st : ∃ y, σ = [some (.ref l), some (.ref pl), y]
  s0 : Same H0 H
  p0 : H0 pl = none
  rp : r ≠ pl
  li : LinesAt CL H l dl r rows n
  hp : H pl = some (.lst (ps.map V.str))
  k : RK (portsR rows f n ps) Q fun e => ErrK CT (.int e) H0 E
theorem inV_notS {K : PySem.W.Frag} {ta tb : TE} {σ : L2.St} {H : Hp} {p : Addr} {z : Str} {l : List Str} (ha : Val ta σ H (.str z)) (hb : Val tb σ H (.ref p)) (hS : SqL K H p (l.map V.str) ∨ SqT K H p (l.map V.str)) : Val (tOp (rIn K true) ta tb) σ H (.bl (!decide (z ∈ l))) :=
  val_op ha hb fun Q q => ⟨p, _, rfl, hS, rfl, flat_strs l, by
    show Q (.bl (!inV (.str z) (l.map V.str))) H
    rw [inV_strs]
    exact q⟩
section
variable {P : Program} {w : World} {K : PySem.W.Frag} {mg : Str → Option Value} {base : Heap} {CL CT : Addr} {fBegins fWords fStep fNeed fName fDoor fNum : Addr} {dBegins dWords dStep dNeed dName dDoor dNum : FuncData}
theorem ok_read_ports {f : Addr} {fd : FuncData} (N : En4 P w K mg base CL CT fBegins fWords fStep fNeed fName fDoor fNum dBegins dWords dStep dNeed dName dDoor dNum) (D : Df K mg "read_ports" s_read_ports f fd ["lines"]) :
    FnOk P w K mg base (L2.CX P w) 5 f fd ["lines"] (spPorts CL CT) := by
  obtain ⟨tP, gP⟩ := N.cP
  refine D.F.okX sc_read_ports (fun vs H Q E h => ?_) (fun cdv A0 outer s H vs Q E hr h => ?_)
  · obtain ⟨H0, l, dl, r, rows, n, rfl, _⟩ := h
    rfl
  · obtain ⟨H0, l, dl, r, rows, n, rfl, s0, l0, hl, sz, k⟩ := h
    have S := sc_read_ports
    refine ⟨_, (pss_cons (ps_set (i := 1) S.nd rfl (.inl rfl) (pe_lst pa_nil))
      (pss_cons (ps_while (passes_of rfl) (pt_val (pe_meth (pv 0) N.L.cl N.Mb.m N.Gb (hr.mono (by decide)) N.Mb.b .nil pass0 (pa_cons pe_str pa_nil)))
        (pss_cons (ps_set (i := 2) S.nd rfl (.inl rfl) (pe_meth (pv 0) N.L.cl N.Mw.m N.Gw (hr.mono (by decide)) N.Mw.b .nil pass0 (pa_cons pe_int pa_nil)))
        (pss_cons (ps_expr (pe_meth (pv 0) N.L.cl N.Mn.m N.Gn (hr.mono (by decide)) N.Mn.b .nil (pxp rfl rfl rfl rfl) (pa_cons (pe_and (pe_cmpR op_eq (pe_callB call_len_seq (by rfl) N.B.m_len PySem.boot_len (pa_cons (pv 2) pa_nil)) pe_int (nomark _)) (pe_one (pe_cmpR op_lt (pe_callB call_len_seq (by rfl) N.B.m_len PySem.boot_len (pa_cons (pv 1) pa_nil)) (pe_glob (v := .int 2) (by rfl) gP ⟨_, rfl⟩) (nomark _)))) pa_nil)))
        (pss_cons (ps_expr (pe_meth (pv 0) N.L.cl N.Mn.m N.Gn (hr.mono (by decide)) N.Mn.b .nil (pxp rfl rfl rfl rfl) (pa_cons (pe_and (pe_call N.Ga (hr.mono (by decide)) (by rfl) N.Da.g N.Da.F.kp N.Da.b .nil pass0 (pa_cons (pe_ix ix_list (pv 2) pe_int (fun _ _ => rfl)) pa_nil)) (pe_one (pe_cmpR op_notIn_seq (pe_ix ix_list (pv 2) pe_int (fun _ _ => rfl)) (pv 1) (by rfl)))) pa_nil)))
        (pss_cons (ps_expr (pe_bm PySem.F.plainAttrs_list PySem.F.slot_list_append PySem.F.type_list_append mt_append (pv 1) (pa_cons (pe_ix ix_list (pv 2) pe_int (fun _ _ => rfl)) pa_nil)))
        (pss_one (ps_expr (pe_meth0 (pv 0) N.L.cl N.Ms.m N.Gs (hr.mono (by decide)) N.Ms.b .nil pass0))))))))
      (pss_one (ps_ret (pe_tupleOf (by rfl) N.B.m_tuple (pv 1)))))), ?_⟩
    dsimp only [tNext, tSeq, tAsg, tRet]
    refine ⟨by show 0 ≤ sizeLine; decide, fun pl npl => ?_⟩
    dsimp only [gName]
    have s1 := same_upd (o := .lst []) npl
    refine ⟨fun f σ H => ∃ n ps pl, PW1 CL CT H0 l dl r rows (fun n' ps => ∀ (H' : Hp) (p : Addr), Same H0 H' → LinesAt CL H' l dl r rows n' → H0 p = none → H' p = some (.tup (ps.map V.str)) → ps.length ≤ 2 → Q (.ref p) H') E f σ H n ps pl, ⟨3, n, [], pl, rfl, Nat.zero_le _, ⟨_, rfl⟩, s0.trans s1, s0.free npl, ne_of_none hl.r npl, hl.mono s1, upd_same, k⟩, fun f σ H h => ?_⟩
    obtain ⟨n, ps, pl, f3, le, ⟨y, rfl⟩, s0, p0, rp, li, hp, k⟩ := h
    refine meth_run (val_var rfl) li.o (lf_no (by decide +kernel) (by decide +kernel)) ?_
    refine ⟨l, dl, r, rows, n, "port", rfl, li, sz, by decide +kernel, fun H1 s1 => ⟨_, rfl, ?_⟩⟩
    have li := li.mono s1
    have hp := s1 _ _ hp
    have s0 := s0.trans s1
    clear s1
    cases f with
    | zero => omega
    | succ f =>
      unfold portsR at k
      cases c : decide ((wordsAt rows n 0).take 1 = (["port"] : List Str)) with
      | false =>
        rw [c, if_neg Bool.false_ne_true] at k
        refine iteF ?_
        refine ⟨_, rfl, .inl ⟨pl, _, rfl, SqL.of hp, fun q nq => ?_⟩⟩
        have s2 := same_upd (o := .tup (ps.map V.str)) nq
        exact k _ q (s0.trans s2) (li.mono s2) (s0.free nq) upd_same le
      | true =>
        rw [c, if_pos rfl] at k
        refine iteT ⟨fun σ' H' => ∃ n ps pl, PW1 CL CT H0 l dl r rows (fun n' ps => ∀ (H' : Hp) (p : Addr), Same H0 H' → LinesAt CL H' l dl r rows n' → H0 p = none → H' p = some (.tup (ps.map V.str)) → ps.length ≤ 2 → Q (.ref p) H') E f σ' H' n ps pl, fun σ' H' h => ⟨f, Nat.lt_succ_self f, h⟩, ?_⟩
        have hwn : wordsAt rows n 0 ≠ [] := fun e => by
          rw [e] at c
          exact absurd (of_decide_eq_true c) (fun z => nomatch z)
        have hn := wordsAt_lt hwn
        dsimp only [tDrop]
        refine meth_run (val_var rfl) li.o (lf_no (by decide +kernel) (by decide +kernel)) ?_
        refine ⟨l, dl, r, rows, n, 0, rfl, li, sz, by decide, fun H2 wp s2 nw hw => ?_⟩
        have li := li.mono s2
        have hp := s2 _ _ hp
        have s0 := s0.trans s2
        have wz := words_ok (n := n) (dp := 0) sz
        generalize wordsAt rows n 0 = ws at k hw wz
        dsimp only [gName]
        refine meth_run (val_var rfl) li.o (lf_no (by decide +kernel) (by decide +kernel)) ?_
        have v1 : Val (tOp rEq (tCB (rLenSq K) (tCons (tVar 2) tNil)) (tC (.int 2))) [some (.ref l), some (.ref pl), some (.ref wp)] H2 (.bl (decide (ws.length = 2))) := fun Q q => by
          refine (val_op (z := .bl (decide (V.int ((ws.map V.str).length : Nat) = V.int 2))) (val_lenL (val_var rfl) (SqL.of hw)) val_c fun Q q => ⟨rfl, q⟩) _ ?_
          rw [show (2 : Int) = ((2 : Nat) : Int) from rfl, dec_len, List.length_map]
          exact q
        have v2 : Val (tOp (rI0 fun i j => .bl (decide (i < j))) (tCB (rLenSq K) (tCons (tVar 1) tNil)) (tC (.int 2))) [some (.ref l), some (.ref pl), some (.ref wp)] H2 (.bl (decide (ps.length < 2))) := fun Q q => by
          refine (val_i0b (val_lenL (val_var rfl) (SqL.of hp)) val_c) _ ?_
          rw [show decide ((((ps.map V.str).length : Nat) : Int) < 2) = decide (ps.length < 2) from decide_eq_decide.mpr ⟨fun e => by rw [List.length_map] at e; omega, fun e => by rw [List.length_map]; omega⟩]
          exact q
        refine (val_andV v1 fun _ => v2) _ ?_
        refine ⟨l, dl, r, rows, n, _, _, rfl, li, rfl, fun e => ?_, fun e => ErrK.mono ?_ s0⟩
        · rw [if_pos e] at k
          rw [Bool.and_eq_true] at e
          obtain ⟨a, z, rfl⟩ : ∃ a z, ws = [a, z] := by
            match ws, of_decide_eq_true e.1 with
            | [a, z], _ => exact ⟨a, z, rfl⟩
          have e2 := of_decide_eq_true e.2
          have gz : ([a, z] : List Str).getD 1 "" = z := rfl
          rw [gz] at k
          have hz := (wz z (by simp)).2
          refine meth_run (val_var rfl) li.o (lf_no (by decide +kernel) (by decide +kernel)) ?_
          have vz : Val (tOp (rIxL K) (tVar 2) (tC (.int 1))) [some (.ref l), some (.ref pl), some (.ref wp)] H2 (.str z) := val_ixL (val_var rfl) val_c (SqL.of hw) (atI_nat (j := 1) rfl)
          refine (val_andV (val_call (va_cons vz va_nil) fun Q q => ⟨z, rfl, by omega, q⟩) fun _ => inV_notS vz (val_var rfl) (.inl (SqL.of hp))) _ ?_
          refine ⟨l, dl, r, rows, n, _, _, rfl, li, rfl, fun e => ?_, fun e => ErrK.mono ?_ s0⟩
          · rw [if_pos e] at k
            refine bm_run (x := .ref pl) (val_var rfl) (.inl ⟨rfl, _, SqL.of hp⟩) ?_
            refine vz _ ?_
            refine ⟨pl, _, _, rfl, rfl, hp, by rw [List.length_map]; exact small1000 (by omega), ?_⟩
            have li3 : LinesAt CL (upd H2 pl (.lst (ps.map V.str ++ [.str z]))) l dl r rows n := ⟨at_but li.o (by rw [hp]; exact fun e => nomatch e), by rw [upd_ne rp]; exact li.r, li.le⟩
            have s3 : Same H0 (upd H2 pl (.lst (ps.map V.str ++ [.str z]))) := fun c o e => by
              rw [upd_ne (ne_of_none e p0)]
              exact s0 c o e
            have hp3 : (upd H2 pl (.lst (ps.map V.str ++ [.str z]))) pl = some (.lst ((ps ++ [z]).map V.str)) := by
              rw [upd_same, List.map_append]
              rfl
            generalize (upd H2 pl (.lst (ps.map V.str ++ [.str z]))) = H3 at li3 s3 hp3
            refine meth0_run (val_var rfl) li3.o (lf_no (by decide +kernel) (by decide +kernel)) ?_
            refine ⟨l, dl, r, rows, n, rfl, li3, hn, fun H4 sb li4 => ?_⟩
            refine ⟨n + 1, ps ++ [z], pl, ?_, ?_, ⟨_, rfl⟩, fun c o e => sb c o (ne_of_none e l0) (s3 c o e), p0, rp, li4, sb _ _ (ne_of hp3 li3.o (fun e => nomatch e)) hp3, k⟩
            · rw [List.length_append]
              show f + (ps.length + 1) = 3
              omega
            · rw [List.length_append]
              show ps.length + 1 ≤ 2
              omega
          · rw [e, if_neg Bool.false_ne_true] at k
            exact k
        · rw [e, if_neg Bool.false_ne_true] at k
          exact k
end
end K5
namespace K5
open PySem PySem.Spec PyProof.Rows L2
/-! ### dicts by texts -/
def rLenD : List V → Hp → VK → Prop := fun xs H Q => ∃ (d : Addr) (kvs : List (Key × V)), xs = [.ref d] ∧ H d = some (.dK kvs) ∧ Q (.int kvs.length) H
theorem call_lenD {X : Cx} : CallR X (.builtin "len") rLenD := by
  intro pins s σ H xs us Q I r h
  obtain ⟨d, kvs, rfl, hd, q⟩ := h
  obtain ⟨u, rfl, rx⟩ := r.one
  cases rx
  exact d_len I (.inl hd) fun t s' I' => ⟨.int kvs.length, H, I', ⟨t, rfl⟩, q⟩
theorem val_lenD {ta : TE} {σ : L2.St} {H : Hp} {d : Addr} {kvs : List (Key × V)} (h : Val ta σ H (.ref d)) (hd : H d = some (.dK kvs)) : Val (tCB rLenD (tCons ta tNil)) σ H (.int kvs.length) := fun Q q => h _ ⟨d, kvs, rfl, hd, q⟩
def dOf {β : Type} (g : β → V) (cs : List (Str × β)) : List (Key × V) := cs.map fun c => (.inr c.1, g c.2)
theorem dOf_none {β : Type} {g : β → V} {z : Str} : ∀ {cs : List (Str × β)}, z ∉ cs.map (·.1) → valV (dOf g cs) (.inr z) = none
  | [], _ => rfl
  | (y, i) :: r, h => by
    have h1 : ¬ (Sum.inr y : Key) = .inr z := fun e => by
      injection e with e
      exact h (by simp [e])
    exact (valV_neg (p := ((Sum.inr y : Key), g i)) (r := dOf g r) h1).trans (dOf_none (cs := r) fun e => h (List.mem_cons_of_mem _ e))
theorem dOf_some {β : Type} {g : β → V} {z : Str} : ∀ {cs : List (Str × β)}, z ∈ cs.map (·.1) → (valV (dOf g cs) (.inr z)).isSome = true
  | (y, i) :: r, h => by
    by_cases e : y = z
    · rw [show valV (dOf g ((y, i) :: r)) (.inr z) = some (g i) from valV_pos (p := ((Sum.inr y : Key), g i)) (r := dOf g r) (by rw [e])]
      rfl
    · have h1 : ¬ (Sum.inr y : Key) = .inr z := fun q => by
        injection q with q
        exact e q
      rw [show valV (dOf g ((y, i) :: r)) (.inr z) = valV (dOf g r) (.inr z) from valV_neg (p := ((Sum.inr y : Key), g i)) (r := dOf g r) h1]
      refine dOf_some ?_
      rcases List.mem_cons.mp h with q | q
      · exact absurd q.symm e
      · exact q
theorem dOf_has {β : Type} {g : β → V} {z : Str} {cs : List (Str × β)} : (valV (dOf g cs) (.inr z)).isSome = decide (z ∈ cs.map (·.1)) := by
  by_cases h : z ∈ cs.map (·.1)
  · rw [dOf_some h, decide_eq_true h]
  · rw [dOf_none h, decide_eq_false h]
    rfl
theorem dOf_put {β : Type} {g : β → V} {z : Str} {i : β} {cs : List (Str × β)} (h : z ∉ cs.map (·.1)) : putK (dOf g cs) (.inr z) (g i) = dOf g (cs ++ [(z, i)]) := by
  unfold putK
  rw [valV_any, dOf_none h]
  show dOf g cs ++ [(.inr z, g i)] = _
  unfold dOf
  rw [List.map_append]
  rfl
def cellsR (rows : List Str) (wn : Int) : Nat → Nat → List (Str × Int) → Except Nat (Nat × List (Str × Int))
  | 0, n, _ => .error n
  | f + 1, n, cs =>
    if decide ((wordsAt rows n 0).take 1 = (["cell"] : List Str)) = true then
      if (decide ((wordsAt rows n 0).length = 3) && decide (cs.length < 3)) = true then
        if (isName ((wordsAt rows n 0).getD 1 "") && (!decide ((wordsAt rows n 0).getD 1 "" ∈ (["it", "got", "lost", "busy"] : List Str)) && !decide ((wordsAt rows n 0).getD 1 "" ∈ cs.map (·.1)))) = true then
          if decide (0 ≤ numOf ((wordsAt rows n 0).getD 2 "") wn) = true then cellsR rows wn f (n + 1) (cs ++ [((wordsAt rows n 0).getD 1 "", numOf ((wordsAt rows n 0).getD 2 "") wn)])
          else .error n
        else .error n
      else .error n
    else .ok (n, cs)
def spCells (CL CT : Addr) : Sp := fun vs H Q E => ∃ (H0 : Hp) (l dl r : Addr) (rows : List Str) (n : Nat) (wn : Int), vs = [.ref l, .int wn] ∧ Same H0 H ∧ H0 l = none ∧ LinesAt CL H l dl r rows n ∧ Sz rows ∧
  RK (cellsR rows wn 4 n []) (fun n' cs => ∀ (H' : Hp) (p : Addr) (ts : List Addr), Same H0 H' → LinesAt CL H' l dl r rows n' → H0 p = none → H' p = some (.tup (ts.map V.ref)) → Paired (fun (t : Addr) (q : Str × Int) => H' t = some (.tup [.str q.1, .int q.2])) ts cs → cs.length ≤ 3 → Q (.ref p) H') fun e => ErrK CT (.int e) H0 E
structure CW (CL CT : Addr) (H0 : Hp) (l dl r : Addr) (rows : List Str) (wn : Int) (Q : Nat → List (Str × Int) → Prop) (E : XK) (f : Nat) (σ : L2.St) (H : Hp) (n : Nat) (cs : List (Str × Int)) (pl : Addr) : Prop where
  f4 : f + cs.length = 4
  le : cs.length ≤ 3
  st : ∃ y, σ = [some (.ref l), some (.int wn), some (.ref pl), y]
  s0 : Same H0 H
  p0 : H0 pl = none
  li : LinesAt CL H l dl r rows n
  hp : H pl = some (.dK (dOf V.int cs))
  k : RK (cellsR rows wn f n cs) Q fun e => ErrK CT (.int e) H0 E
theorem paired_dOf {H : Hp} : ∀ {ts : List Addr} {cs : List (Str × Int)}, Paired (fun (t : Addr) (q : Key × V) => H t = some (.tup [kV q.1, q.2])) ts (dOf V.int cs) → Paired (fun (t : Addr) (q : Str × Int) => H t = some (.tup [.str q.1, .int q.2])) ts cs
  | _, [], .nil => .nil
  | _, c :: r, .cons h t => .cons h (paired_dOf t)
section
variable {P : Program} {w : World} {K : PySem.W.Frag} {mg : Str → Option Value} {base : Heap} {CL CT : Addr} {fBegins fWords fStep fNeed fName fDoor fNum : Addr} {dBegins dWords dStep dNeed dName dDoor dNum : FuncData}
theorem ok_read_cells {f : Addr} {fd : FuncData} (N : En4 P w K mg base CL CT fBegins fWords fStep fNeed fName fDoor fNum dBegins dWords dStep dNeed dName dDoor dNum) (D : Df K mg "read_cells" s_read_cells f fd ["lines", "worths"]) :
    FnOk P w K mg base (L2.CX P w) 5 f fd ["lines", "worths"] (spCells CL CT) := by
  obtain ⟨tC', gC⟩ := N.cC
  obtain ⟨bb, gB, hB⟩ := N.cB
  refine D.F.okX sc_read_cells (fun vs H Q E h => ?_) (fun cdv A0 outer s H vs Q E hr h => ?_)
  · obtain ⟨H0, l, dl, r, rows, n, wn, rfl, _⟩ := h
    rfl
  · obtain ⟨H0, l, dl, r, rows, n, wn, rfl, s0, l0, hl, sz, k⟩ := h
    have S := sc_read_cells
    refine ⟨_, (pss_cons (ps_set (i := 2) S.nd rfl (.inl rfl) pe_dnewK)
      (pss_cons (ps_while (passes_of rfl) (pt_val (pe_meth (pv 0) N.L.cl N.Mb.m N.Gb (hr.mono (by decide)) N.Mb.b .nil pass0 (pa_cons pe_str pa_nil)))
        (pss_cons (ps_set (i := 3) S.nd rfl (.inl rfl) (pe_meth (pv 0) N.L.cl N.Mw.m N.Gw (hr.mono (by decide)) N.Mw.b .nil pass0 (pa_cons pe_int pa_nil)))
        (pss_cons (ps_expr (pe_meth (pv 0) N.L.cl N.Mn.m N.Gn (hr.mono (by decide)) N.Mn.b .nil (pxp rfl rfl rfl rfl) (pa_cons (pe_and (pe_cmpR op_eq (pe_callB call_len_seq (by rfl) N.B.m_len PySem.boot_len (pa_cons (pv 3) pa_nil)) pe_int (nomark _)) (pe_one (pe_cmpR op_lt (pe_callB call_lenD (by rfl) N.B.m_len PySem.boot_len (pa_cons (pv 2) pa_nil)) (pe_glob (v := .int 3) (by rfl) gC ⟨_, rfl⟩) (nomark _)))) pa_nil)))
        (pss_cons (ps_expr (pe_meth (pv 0) N.L.cl N.Mn.m N.Gn (hr.mono (by decide)) N.Mn.b .nil (pxp rfl rfl rfl rfl) (pa_cons (pe_and (pe_call N.Ga (hr.mono (by decide)) (by rfl) N.Da.g N.Da.F.kp N.Da.b .nil pass0 (pa_cons (pe_ix ix_list (pv 3) pe_int (fun _ _ => rfl)) pa_nil)) (pe_and (pe_cmpR op_notIn_seq (pe_ix ix_list (pv 3) pe_int (fun _ _ => rfl)) (pe_glob (v := .ref bb) (by rfl) gB rfl) (by rfl)) (pe_one (pe_cmp (pc_dnotin (hu_of hr) (pe_ix ix_list (pv 3) pe_int (fun _ _ => rfl)) (pv 2)) rfl)))) pa_nil)))
        (pss_cons (ps_dput (hu_of hr) (pv 2) (pe_ix ix_list (pv 3) pe_int (fun _ _ => rfl)) (pe_call N.Gu (hr.mono (by decide)) (by rfl) N.Du.g N.Du.F.kp N.Du.b .nil pass0 (pa_cons (pe_ix ix_list (pv 3) pe_int (fun _ _ => rfl)) (pa_cons (pv 1) pa_nil))) rfl)
        (pss_cons (ps_expr (pe_meth (pv 0) N.L.cl N.Mn.m N.Gn (hr.mono (by decide)) N.Mn.b .nil (pxp rfl rfl rfl rfl) (pa_cons (pe_cmpR op_ge (pe_dget (hu_of hr) (pv 2) (pe_ix ix_list (pv 3) pe_int (fun _ _ => rfl)) (fun _ _ => rfl)) pe_int (nomark _)) pa_nil)))
        (pss_one (ps_expr (pe_meth0 (pv 0) N.L.cl N.Ms.m N.Gs (hr.mono (by decide)) N.Ms.b .nil pass0)))))))))
      (pss_one (ps_ret (pe_tupItems rfl (pv 2) (by rfl) N.B.m_tuple))))), ?_⟩
    dsimp only [tNext, tSeq, tAsg, tRet]
    refine fun pl npl => ?_
    dsimp only [gName]
    have s1 := same_upd (o := .dK []) npl
    refine ⟨fun f σ H => ∃ n cs pl, CW CL CT H0 l dl r rows wn (fun n' cs => ∀ (H' : Hp) (p : Addr) (ts : List Addr), Same H0 H' → LinesAt CL H' l dl r rows n' → H0 p = none → H' p = some (.tup (ts.map V.ref)) → Paired (fun (t : Addr) (q : Str × Int) => H' t = some (.tup [.str q.1, .int q.2])) ts cs → cs.length ≤ 3 → Q (.ref p) H') E f σ H n cs pl, ⟨4, n, [], pl, rfl, Nat.zero_le _, ⟨_, rfl⟩, s0.trans s1, s0.free npl, hl.mono s1, upd_same, k⟩, fun f σ H h => ?_⟩
    obtain ⟨n, cs, pl, f4, le, ⟨y, rfl⟩, s0, p0, li, hp, k⟩ := h
    refine meth_run (val_var rfl) li.o (lf_no (by decide +kernel) (by decide +kernel)) ?_
    refine ⟨l, dl, r, rows, n, "cell", rfl, li, sz, by decide +kernel, fun H1 s1 => ⟨_, rfl, ?_⟩⟩
    have li := li.mono s1
    have hp := s1 _ _ hp
    have s0 := s0.trans s1
    clear s1
    cases f with
    | zero => omega
    | succ f =>
      unfold cellsR at k
      cases c : decide ((wordsAt rows n 0).take 1 = (["cell"] : List Str)) with
      | false =>
        rw [c, if_neg Bool.false_ne_true] at k
        refine iteF ?_
        refine ⟨_, rfl, pl, _, rfl, hp, fun H2 q ts s2 nq hq hts => ?_⟩
        refine k _ q ts (s0.trans s2) (li.mono s2) (s0.free nq) hq ?_ le
        exact paired_dOf hts
      | true =>
        rw [c, if_pos rfl] at k
        refine iteT ⟨fun σ' H' => ∃ n cs pl, CW CL CT H0 l dl r rows wn (fun n' cs => ∀ (H' : Hp) (p : Addr) (ts : List Addr), Same H0 H' → LinesAt CL H' l dl r rows n' → H0 p = none → H' p = some (.tup (ts.map V.ref)) → Paired (fun (t : Addr) (q : Str × Int) => H' t = some (.tup [.str q.1, .int q.2])) ts cs → cs.length ≤ 3 → Q (.ref p) H') E f σ' H' n cs pl, fun σ' H' h => ⟨f, Nat.lt_succ_self f, h⟩, ?_⟩
        have hwn : wordsAt rows n 0 ≠ [] := fun e => by
          rw [e] at c
          exact absurd (of_decide_eq_true c) (fun z => nomatch z)
        have hn := wordsAt_lt hwn
        dsimp only [tDrop]
        refine meth_run (val_var rfl) li.o (lf_no (by decide +kernel) (by decide +kernel)) ?_
        refine ⟨l, dl, r, rows, n, 0, rfl, li, sz, by decide, fun H2 wp s2 nw hw => ?_⟩
        have li := li.mono s2
        have hp := s2 _ _ hp
        have s0 := s0.trans s2
        have wz := words_ok (n := n) (dp := 0) sz
        generalize wordsAt rows n 0 = ws at k hw wz
        dsimp only [gName]
        refine meth_run (val_var rfl) li.o (lf_no (by decide +kernel) (by decide +kernel)) ?_
        have v1 : Val (tOp rEq (tCB (rLenSq K) (tCons (tVar 3) tNil)) (tC (.int 3))) [some (.ref l), some (.int wn), some (.ref pl), some (.ref wp)] H2 (.bl (decide (ws.length = 3))) := fun Q q => by
          refine (val_op (z := .bl (decide (V.int ((ws.map V.str).length : Nat) = V.int 3))) (val_lenL (val_var rfl) (SqL.of hw)) val_c fun Q q => ⟨rfl, q⟩) _ ?_
          rw [show (3 : Int) = ((3 : Nat) : Int) from rfl, dec_len, List.length_map]
          exact q
        have v2 : Val (tOp (rI0 fun i j => .bl (decide (i < j))) (tCB rLenD (tCons (tVar 2) tNil)) (tC (.int 3))) [some (.ref l), some (.int wn), some (.ref pl), some (.ref wp)] H2 (.bl (decide (cs.length < 3))) := fun Q q => by
          refine (val_i0b (val_lenD (val_var rfl) hp) val_c) _ ?_
          have eL : (dOf V.int cs).length = cs.length := List.length_map ..
          rw [eL, show decide (((cs.length : Nat) : Int) < 3) = decide (cs.length < 3) from decide_eq_decide.mpr ⟨fun e => by omega, fun e => by omega⟩]
          exact q
        refine (val_andV v1 fun _ => v2) _ ?_
        refine ⟨l, dl, r, rows, n, _, _, rfl, li, rfl, fun e => ?_, fun e => ErrK.mono ?_ s0⟩
        · rw [if_pos e] at k
          rw [Bool.and_eq_true] at e
          obtain ⟨a, z, z2, rfl⟩ : ∃ a z z2, ws = [a, z, z2] := by
            match ws, of_decide_eq_true e.1 with
            | [a, z, z2], _ => exact ⟨a, z, z2, rfl⟩
          have e2 := of_decide_eq_true e.2
          have gz : ([a, z, z2] : List Str).getD 1 "" = z := rfl
          have gz2 : ([a, z, z2] : List Str).getD 2 "" = z2 := rfl
          rw [gz, gz2] at k
          have hz := (wz z (by simp)).2
          have hz2 := (wz z2 (by simp)).2
          refine meth_run (val_var rfl) li.o (lf_no (by decide +kernel) (by decide +kernel)) ?_
          have vz : ∀ {H' : Hp}, Same H2 H' ∨ SameBut pl H2 H' → Val (tOp (rIxL K) (tVar 3) (tC (.int 1))) [some (.ref l), some (.int wn), some (.ref pl), some (.ref wp)] H' (.str z) := fun s => val_ixL (val_var rfl) val_c (SqL.of (by
            rcases s with s | s
            · exact s _ _ hw
            · exact s _ _ (ne_of hw hp (fun e => nomatch e)) hw)) (atI_nat (j := 1) rfl)
          have v3 : Val (tDNotIn (tOp (rIxL K) (tVar 3) (tC (.int 1))) (tVar 2)) [some (.ref l), some (.int wn), some (.ref pl), some (.ref wp)] H2 (.bl (!decide (z ∈ cs.map (·.1)))) := fun Q q => by
            refine vz (.inl (Same.refl _)) _ ((val_var rfl) _ ⟨pl, _, rfl, DGet.k (k := .inr z) hp, ?_⟩)
            rw [dOf_has]
            exact q
          refine (val_andV (val_call (va_cons (vz (.inl (Same.refl _))) va_nil) fun Q q => ⟨z, rfl, by omega, q⟩) fun _ => val_andV (inV_notS (vz (.inl (Same.refl _))) val_c (.inr (hB _))) fun _ => v3) _ ?_
          refine ⟨l, dl, r, rows, n, _, _, rfl, li, rfl, fun e => ?_, fun e => ErrK.mono ?_ s0⟩
          · rw [if_pos e] at k
            rw [Bool.and_eq_true, Bool.and_eq_true] at e
            have hnew : z ∉ cs.map (·.1) := fun q => by
              have := e.2.2
              rw [decide_eq_true q] at this
              exact absurd this Bool.false_ne_true
            have vz2 : Val (tOp (rIxL K) (tVar 3) (tC (.int 2))) [some (.ref l), some (.int wn), some (.ref pl), some (.ref wp)] H2 (.str z2) := val_ixL (val_var rfl) val_c (SqL.of hw) (atI_nat (j := 2) rfl)
            refine (val_call (va_cons vz2 (va_cons (val_var rfl) va_nil)) fun Q q => ⟨z2, wn, rfl, by omega, q⟩) _ ?_
            refine (val_var rfl) _ (vz (.inl (Same.refl _)) _ ?_)
            refine ⟨pl, _, rfl, DPut.k (k := .inr z) hp (by rw [show (dOf V.int cs).length = cs.length from List.length_map ..]; exact Nat.lt_of_lt_of_le (show cs.length < 4 by omega) (by decide)), ?_⟩
            rw [show putK (dOf V.int cs) (.inr z) (V.int (numOf z2 wn)) = dOf V.int (cs ++ [(z, numOf z2 wn)]) from dOf_put hnew]
            have sb3 := SameBut.upd pl H2 (.dK (dOf V.int (cs ++ [(z, numOf z2 wn)])))
            have li3 : LinesAt CL (upd H2 pl (.dK (dOf V.int (cs ++ [(z, numOf z2 wn)])))) l dl r rows n := ⟨sb3 _ _ (ne_of li.o hp (fun e => nomatch e)) li.o, sb3 _ _ (ne_of li.r hp (fun e => nomatch e)) li.r, li.le⟩
            have s3 : Same H0 (upd H2 pl (.dK (dOf V.int (cs ++ [(z, numOf z2 wn)])))) := fun c o e => sb3 c o (ne_of_none e p0) (s0 c o e)
            have hp3 : (upd H2 pl (.dK (dOf V.int (cs ++ [(z, numOf z2 wn)])))) pl = some (.dK (dOf V.int (cs ++ [(z, numOf z2 wn)]))) := upd_same
            generalize (upd H2 pl (.dK (dOf V.int (cs ++ [(z, numOf z2 wn)])))) = H3 at li3 s3 hp3 sb3
            refine meth_run (val_var rfl) li3.o (lf_no (by decide +kernel) (by decide +kernel)) ?_
            have v4 : Val (tDGet (tVar 2) (tOp (rIxL K) (tVar 3) (tC (.int 1)))) [some (.ref l), some (.int wn), some (.ref pl), some (.ref wp)] H3 (.int (numOf z2 wn)) := fun Q q => by
              refine (val_var rfl) _ (vz (.inr sb3) _ ⟨pl, _, rfl, ?_, q⟩)
              have g := DGet.k (k := .inr z) hp3
              rw [← dOf_put hnew, valV_put, if_pos rfl] at g
              exact g
            refine (val_i0b v4 val_c) _ ?_
            refine ⟨l, dl, r, rows, n, _, _, rfl, li3, rfl, fun e5 => ?_, fun e5 => ErrK.mono ?_ s3⟩
            · rw [if_pos e5] at k
              refine meth0_run (val_var rfl) li3.o (lf_no (by decide +kernel) (by decide +kernel)) ?_
              refine ⟨l, dl, r, rows, n, rfl, li3, hn, fun H4 sb li4 => ?_⟩
              refine ⟨n + 1, cs ++ [(z, numOf z2 wn)], pl, ?_, ?_, ⟨_, rfl⟩, fun c o e => sb c o (ne_of_none e l0) (s3 c o e), p0, li4, sb _ _ (ne_of hp3 li3.o (fun e => nomatch e)) hp3, k⟩
              · rw [List.length_append]
                show f + (cs.length + 1) = 4
                omega
              · rw [List.length_append]
                show cs.length + 1 ≤ 3
                omega
            · rw [e5, if_neg Bool.false_ne_true] at k
              exact k
          · rw [e, if_neg Bool.false_ne_true] at k
            exact k
        · rw [e, if_neg Bool.false_ne_true] at k
          exact k
end
end K5
namespace K5
open PySem PySem.Spec PyProof.Rows L2
/-! ### the doors -/
def doorsR (T : Tx) : Nat → Nat → Nat → List Str → Except Nat (Nat × List Str)
  | 0, n, _, _ => .error n
  | f + 1, n, m, ds =>
    if (decide ((wordsAt T.rows n 0).take 1 = (["door"] : List Str)) || decide (ds = [])) = true then
      if (decide ((wordsAt T.rows n 0).take 1 = (["door"] : List Str)) && (decide ((wordsAt T.rows n 0).length = 2) && decide (ds.length < 3))) = true then
        if (isDoor ((wordsAt T.rows n 0).getD 1 "") && !decide ((wordsAt T.rows n 0).getD 1 "" ∈ ds)) = true then
          match blk T 2 false (n + 1) m with
          | .ok (n1, m1) => doorsR T f n1 m1 (ds ++ [(wordsAt T.rows n 0).getD 1 ""])
          | .error e => .error e
        else .error n
      else .error n
    else .ok (n, ds)
def DsQ (CL CP : Addr) (A : Ad) (T : Tx) (H0 : Hp) (Q : VK) (n : Nat) (ds : List Str) : Prop :=
  ∀ (H' : Hp) (m : Nat) (xs : List V) (kvs : List (Key × V)) (p : Addr) (cs : List (Str × Int)), Wd CL CP A T H0 H' n m xs kvs → xs.length ≤ 200 → H0 p = none → H' p = some (.dK (dOf V.int cs)) → cs.map (·.1) = ds → ds.length ≤ 3 → p ≠ A.ak → Q (.ref p) H'
def spDoors (CL CP CT : Addr) : Sp := fun vs H Q E => ∃ (A : Ad) (T : Tx) (H0 : Hp) (n : Nat), vs = [.ref A.l, .ref A.g] ∧ Wd CL CP A T H0 H n 0 [] [] ∧ TxOk T ∧
  RK (doorsR T 4 n 0 []) (DsQ CL CP A T H0 Q) fun e => ErrK CT (.int e) H0 E
structure DW (CL CP CT : Addr) (A : Ad) (T : Tx) (H0 : Hp) (Q : VK) (E : XK) (f : Nat) (σ : L2.St) (H : Hp) (n m : Nat) (xs : List V) (kvs : List (Key × V)) (pl : Addr) (cs : List (Str × Int)) : Prop where
  f4 : f + cs.length = 4
  le : cs.length ≤ 3
  st : ∃ y, σ = [some (.ref A.l), some (.ref A.g), some (.ref pl), y]
  pw : Wd CL CP A T H0 H n m xs kvs
  p0 : H0 pl = none
  pa : pl ≠ A.ak
  hp : H pl = some (.dK (dOf V.int cs))
  lx : xs.length + (4 - cs.length) ≤ 2 * m + 100
  lk : kvs.length ≤ m + 100
  hm : m ≤ 24
  k : RK (doorsR T f n m (cs.map (·.1))) (DsQ CL CP A T H0 Q) fun e => ErrK CT (.int e) H0 E
section
variable {CL CP : Addr} {A : Ad} {T : Tx} {H0 H : Hp} {n m : Nat} {xs : List V} {kvs : List (Key × V)}
/-- what stands elsewhere is kept by all that follows -/
theorem Wd.pinO (p : Wd CL CP A T H0 H n m xs kvs) {a : Addr} {u : HO} (h : H a = some u) (n1 : a ≠ A.l) (n2 : a ≠ A.g) (n3 : a ≠ A.st) (n4 : a ≠ A.ak) : Wd CL CP A T (upd H0 a u) H n m xs kvs ∧ Same H0 (upd H0 a u) := by
  have s1 : Same (upd H0 a u) H := fun b o e => by
    by_cases c : b = a
    · subst c
      rw [upd_same] at e
      rw [← e]
      exact h
    · rw [upd_ne c] at e
      exact p.s0 b o e
  refine ⟨{ p with s0 := s1, l0 := by rw [upd_ne n1.symm]; exact p.l0, g0 := by rw [upd_ne n2.symm]; exact p.g0, st0 := by rw [upd_ne n3.symm]; exact p.st0, ak0 := by rw [upd_ne n4.symm]; exact p.ak0 }, fun b o e => ?_⟩
  by_cases c : b = a
  · subst c
    rw [upd_same]
    exact h.symm.trans (p.s0 b o e)
  · rw [upd_ne c]
    exact e
/-- a thing of the side is changed -/
theorem Wd.side (p : Wd CL CP A T H0 H n m xs kvs) {a : Addr} {cs : List (Key × V)} {u : HO} (h : H a = some (.dK cs)) (h0 : H0 a = none) (n4 : a ≠ A.ak) : Wd CL CP A T H0 (upd H a u) n m xs kvs where
  s0 := fun b o e => by rw [upd_ne (ne_of_none e h0)]; exact p.s0 b o e
  l0 := p.l0
  g0 := p.g0
  st0 := p.st0
  ak0 := p.ak0
  lg := p.lg
  li := ⟨at_but p.li.o (by rw [h]; exact fun e => nomatch e), at_but p.li.r (by rw [h]; exact fun e => nomatch e), p.li.le⟩
  pg := at_but p.pg (by rw [h]; exact fun e => nomatch e)
  ct := p.ct.but fun _ _ => by rw [h]; exact fun e => nomatch e
  pt := at_but p.pt (by rw [h]; exact fun e => nomatch e)
  st := at_but p.st (by rw [h]; exact fun e => nomatch e)
  sx := fun y z => (p.sx y z).but fun _ => by rw [h]; exact fun e => nomatch e
  ak := by rw [upd_ne n4.symm]; exact p.ak
  rst := p.rst
end
section
variable {P : Program} {w : World} {K : PySem.W.Frag} {mg : Str → Option Value} {base : Heap} {CL CP CT : Addr} {fBegins fWords fStep fNeed fName fDoor fNum : Addr} {dBegins dWords dStep dNeed dName dDoor dNum : FuncData}
theorem ok_read_doors {f fR : Addr} {fd dR : FuncData} (N : En4 P w K mg base CL CT fBegins fWords fStep fNeed fName fDoor fNum dBegins dWords dStep dNeed dName dDoor dNum) (C : ClP K CP) (D : Df K mg "read_doors" s_read_doors f fd ["lines", "program"])
    (Mr : Mf K CP "read_door" "Program.read_door" s_Program_read_door fR dR ["self"]) (Gr : FnOk P w K mg base (L2.CX P w) 20 fR dR ["self"] (spReadDoor CL CP CT)) :
    FnOk P w K mg base (L2.CX P w) 21 f fd ["lines", "program"] (spDoors CL CP CT) := by
  obtain ⟨tD, gD⟩ := N.cD
  refine D.F.okX sc_read_doors (fun vs H Q E h => ?_) (fun cdv A0 outer s H vs Q E hr h => ?_)
  · obtain ⟨A, T, H0, n, rfl, _⟩ := h
    rfl
  · obtain ⟨A, T, H0, n, rfl, pw, tx, k⟩ := h
    have S := sc_read_doors
    refine ⟨_, (pss_cons (ps_set (i := 2) S.nd rfl (.inl rfl) pe_dnewK)
      (pss_cons (ps_while (passes_of rfl) (PW.pt (pw_or (pt_val (pe_meth (pv 0) N.L.cl N.Mb.m N.Gb (hr.mono (by decide)) N.Mb.b .nil pass0 (pa_cons pe_str pa_nil))) (pw_or1 (pt_not (pt_truth (pv 2) (by intro _; rfl))))))
        (pss_cons (ps_set (i := 3) S.nd rfl (.inl rfl) (pe_meth (pv 0) N.L.cl N.Mw.m N.Gw (hr.mono (by decide)) N.Mw.b .nil pass0 (pa_cons pe_int pa_nil)))
        (pss_cons (ps_expr (pe_meth (pv 0) N.L.cl N.Mn.m N.Gn (hr.mono (by decide)) N.Mn.b .nil (pxp rfl rfl rfl rfl) (pa_cons (pe_and (pe_cmpR (op_eqD (by have := hr.units; exact this)) (pe_slice sl_list (pv 3) po_none (po_some pe_int)) (pe_lst (pa_cons pe_str pa_nil)) (nomark _)) (pe_and (pe_cmpR op_eq (pe_callB call_len_seq (by rfl) N.B.m_len PySem.boot_len (pa_cons (pv 3) pa_nil)) pe_int (nomark _)) (pe_one (pe_cmpR op_lt (pe_callB call_lenD (by rfl) N.B.m_len PySem.boot_len (pa_cons (pv 2) pa_nil)) (pe_glob (v := .int 3) (by rfl) gD ⟨_, rfl⟩) (nomark _))))) pa_nil)))
        (pss_cons (ps_expr (pe_meth (pv 0) N.L.cl N.Mn.m N.Gn (hr.mono (by decide)) N.Mn.b .nil (pxp rfl rfl rfl rfl) (pa_cons (pe_and (pe_call N.Gd (hr.mono (by decide)) (by rfl) N.Dd.g N.Dd.F.kp N.Dd.b .nil pass0 (pa_cons (pe_ix ix_list (pv 3) pe_int (fun _ _ => rfl)) pa_nil)) (pe_one (pe_cmp (pc_dnotin (hu_of hr) (pe_ix ix_list (pv 3) pe_int (fun _ _ => rfl)) (pv 2)) rfl))) pa_nil)))
        (pss_cons (ps_expr (pe_meth0 (pv 0) N.L.cl N.Ms.m N.Gs (hr.mono (by decide)) N.Ms.b .nil pass0))
        (pss_one (ps_dput (hu_of hr) (pv 2) (pe_ix ix_list (pv 3) pe_int (fun _ _ => rfl)) (pe_meth0 (pv 1) C.cl Mr.m Gr (hr.mono (by decide)) Mr.b .nil (pxp rfl rfl rfl rfl)) rfl)))))))
      (pss_one (ps_ret (pv 2))))), ?_⟩
    dsimp only [tNext, tSeq, tAsg, tRet]
    refine fun pl npl => ?_
    dsimp only [gName]
    have s1 := same_upd (o := .dK []) npl
    refine ⟨fun f σ H => ∃ n m xs kvs pl cs, DW CL CP CT A T H0 Q E f σ H n m xs kvs pl cs, ⟨4, n, 0, [], [], pl, [], rfl, Nat.zero_le _, ⟨_, rfl⟩, pw.mono s1, pw.s0.free npl, (ne_of_none pw.ak npl).symm, upd_same, by decide, by decide, by decide, k⟩, fun f σ H h => ?_⟩
    obtain ⟨n, m, xs, kvs, pl, cs, f4, le, ⟨y, rfl⟩, pw, p0, pa, hp, lx, lk, hm, k⟩ := h
    refine meth_run (val_var rfl) pw.li.o (lf_no (by decide +kernel) (by decide +kernel)) ?_
    refine ⟨A.l, A.dl, A.r, T.rows, n, "door", rfl, pw.li, tx.sz, by decide +kernel, fun H1 s1 => ⟨_, rfl, ?_⟩⟩
    have pw := pw.mono s1
    have hp := s1 _ _ hp
    clear s1
    cases f with
    | zero => omega
    | succ f =>
      unfold doorsR at k
      have test : ∀ Q2 : Bool → Hp → Prop, Q2 (decide ((wordsAt T.rows n 0).take 1 = (["door"] : List Str)) || decide (cs.map (·.1) = [])) H1 → (if decide ((wordsAt T.rows n 0).take 1 = (["door"] : List Str)) = true then Q2 true H1 else tNot (fun σ H Q => tVar 2 σ H fun x H' => ∃ k, TruV K x H' k ∧ Q k H') [some (.ref A.l), some (.ref A.g), some (.ref pl), y] H1 Q2) := fun Q2 q => by
        cases c : decide ((wordsAt T.rows n 0).take 1 = (["door"] : List Str)) with
        | true =>
          rw [c] at q
          exact iteT q
        | false =>
          rw [c] at q
          refine iteF ⟨_, rfl, !(dOf V.int cs).isEmpty, .inr (.inr ⟨_, hp, rfl⟩), ?_⟩
          have e : (!(!(dOf V.int cs).isEmpty)) = (false || decide (cs.map (·.1) = [])) := by
            cases cs with
            | nil => rfl
            | cons c r => rfl
          show Q2 (!(!(dOf V.int cs).isEmpty)) H1
          rw [e]
          exact q
      refine test _ ?_
      cases c : (decide ((wordsAt T.rows n 0).take 1 = (["door"] : List Str)) || decide (cs.map (·.1) = [])) with
      | false =>
        rw [c, if_neg Bool.false_ne_true] at k
        refine iteF ?_
        refine ⟨_, rfl, ?_⟩
        exact k H1 m xs kvs pl cs pw (by omega) p0 hp rfl (by rw [List.length_map]; exact le) pa
      | true =>
        rw [c, if_pos rfl] at k
        refine iteT ⟨fun σ' H' => ∃ n m xs kvs pl cs, DW CL CP CT A T H0 Q E f σ' H' n m xs kvs pl cs, fun σ' H' h => ⟨f, Nat.lt_succ_self f, h⟩, ?_⟩
        dsimp only [tDrop]
        refine meth_run (val_var rfl) pw.li.o (lf_no (by decide +kernel) (by decide +kernel)) ?_
        refine ⟨A.l, A.dl, A.r, T.rows, n, 0, rfl, pw.li, tx.sz, by decide, fun H2 wp s2 nw hw => ?_⟩
        have wst : wp ≠ A.st := (ne_of_none pw.st nw).symm
        have wr : wp ≠ A.r := (ne_of_none pw.li.r nw).symm
        have pw := pw.mono s2
        have hp := s2 _ _ hp
        have wz := words_ok (n := n) (dp := 0) tx.sz
        have hnl : wordsAt T.rows n 0 ≠ [] → n < T.rows.length := wordsAt_lt
        generalize wordsAt T.rows n 0 = ws at k hw wz hnl
        dsimp only [gName]
        refine meth_run (val_var rfl) pw.li.o (lf_no (by decide +kernel) (by decide +kernel)) ?_
        refine ⟨_, rfl, 1, rfl, wp, _, rfl, SqL.of hw, fun q nq => ?_⟩
        refine ⟨by show 1 ≤ sizeLine; decide, fun o no => ?_⟩
        have s3 : Same H2 (upd H2 q (.lst (cutV (ws.map V.str) none (some 1)))) := same_upd nq
        have s4 := same_upd (H := upd H2 q (.lst (cutV (ws.map V.str) none (some 1)))) (o := .lst [V.str "door"]) no
        have ec : cutV (ws.map V.str) none (some 1) = (ws.take 1).map V.str := by
          unfold cutV
          rw [show HT.sIx (ws.map V.str).length (ws.map V.str).length (some 1) = min 1 (ws.map V.str).length from HT.sIx_nat _ _ 1, HT.sIx_none, List.drop_zero, Nat.sub_zero, List.map_take]
          exact List.take_eq_take_min.symm
        have hq : SqL K (upd (upd H2 q (.lst (cutV (ws.map V.str) none (some 1)))) o (.lst [V.str "door"])) q ((ws.take 1).map V.str) := by
          rw [← ec]
          exact SqL.of (s4 _ _ upd_same)
        refine ⟨.list ((ws.take 1).map PyData.str), .list ([("door" : Str)].map PyData.str), .lst hq (dpAll_strs _), .lst (SqL.of upd_same) (dpAll_strs ["door"]), shaped_strs fun y hy => (wz y (List.mem_of_mem_take hy)).1, by decide +kernel, ?_⟩
        have e1 : PyData.eqv (.list ((ws.take 1).map PyData.str)) (.list ([("door" : Str)].map PyData.str)) = decide (ws.take 1 = [("door" : Str)]) := by
          rw [PyData.eqv]
          exact eqv_strs _ _
        rw [e1]
        have s34 := s3.trans s4
        have pw := pw.mono s34
        have hp := s34 _ _ hp
        have hw := s34 _ _ hw
        generalize (upd (upd H2 q (.lst (cutV (ws.map V.str) none (some 1)))) o (.lst [V.str "door"])) = H3 at pw hp hw
        have v1 : Val (tOp rEq (tCB (rLenSq K) (tCons (tVar 3) tNil)) (tC (.int 2))) [some (.ref A.l), some (.ref A.g), some (.ref pl), some (.ref wp)] H3 (.bl (decide (ws.length = 2))) := fun Q q => by
          refine (val_op (z := .bl (decide (V.int ((ws.map V.str).length : Nat) = V.int 2))) (val_lenL (val_var rfl) (SqL.of hw)) val_c fun Q q => ⟨rfl, q⟩) _ ?_
          rw [show (2 : Int) = ((2 : Nat) : Int) from rfl, dec_len, List.length_map]
          exact q
        have v2 : Val (tOp (rI0 fun i j => .bl (decide (i < j))) (tCB rLenD (tCons (tVar 2) tNil)) (tC (.int 3))) [some (.ref A.l), some (.ref A.g), some (.ref pl), some (.ref wp)] H3 (.bl (decide ((cs.map (·.1)).length < 3))) := fun Q q => by
          refine (val_i0b (val_lenD (val_var rfl) hp) val_c) _ ?_
          have eL : (dOf V.int cs).length = (cs.map (·.1)).length := by rw [List.length_map]; exact List.length_map ..
          rw [eL, show decide ((((cs.map (·.1)).length : Nat) : Int) < 3) = decide ((cs.map (·.1)).length < 3) from decide_eq_decide.mpr ⟨fun e => by omega, fun e => by omega⟩]
          exact q
        have v0 : ∀ (b : Bool) (Q : VK), Q (.bl (b && (decide (ws.length = 2) && decide ((cs.map (·.1)).length < 3)))) H3 → ∃ c, V.bl b = .bl c ∧ if c = true then tAndV (tOp rEq (tCB (rLenSq K) (tCons (tVar 3) tNil)) (tC (.int 2))) (tOp (rI0 fun i j => .bl (decide (i < j))) (tCB rLenD (tCons (tVar 2) tNil)) (tC (.int 3))) [some (.ref A.l), some (.ref A.g), some (.ref pl), some (.ref wp)] H3 Q else Q (.bl false) H3 := fun b Q q => ⟨b, rfl, by
          cases b with
          | true => exact iteT ((val_andV v1 fun _ => v2) _ q)
          | false => exact iteF q⟩
        refine v0 _ _ ?_
        refine ⟨A.l, A.dl, A.r, T.rows, n, _, _, rfl, pw.li, rfl, fun e => ?_, fun e => ErrK.mono ?_ pw.s0⟩
        · rw [if_pos e] at k
          rw [Bool.and_eq_true, Bool.and_eq_true] at e
          obtain ⟨a, z, rfl⟩ : ∃ a z, ws = [a, z] := by
            match ws, of_decide_eq_true e.2.1 with
            | [a, z], _ => exact ⟨a, z, rfl⟩
          have hn := hnl (fun e => nomatch e)
          have e2 := of_decide_eq_true e.2.2
          rw [List.length_map] at e2
          have gz : ([a, z] : List Str).getD 1 "" = z := rfl
          rw [gz] at k
          have hz := (wz z (by simp)).2
          refine meth_run (val_var rfl) pw.li.o (lf_no (by decide +kernel) (by decide +kernel)) ?_
          have vz : ∀ {H' : Hp}, H' wp = some (.lst (([a, z] : List Str).map V.str)) → Val (tOp (rIxL K) (tVar 3) (tC (.int 1))) [some (.ref A.l), some (.ref A.g), some (.ref pl), some (.ref wp)] H' (.str z) := fun h => val_ixL (val_var rfl) val_c (SqL.of h) (atI_nat (j := 1) rfl)
          have v3 : Val (tDNotIn (tOp (rIxL K) (tVar 3) (tC (.int 1))) (tVar 2)) [some (.ref A.l), some (.ref A.g), some (.ref pl), some (.ref wp)] H3 (.bl (!decide (z ∈ cs.map (·.1)))) := fun Q q => by
            refine vz hw _ ((val_var rfl) _ ⟨pl, _, rfl, DGet.k (k := .inr z) hp, ?_⟩)
            rw [dOf_has]
            exact q
          refine (val_andV (val_call (va_cons (vz hw) va_nil) fun Q q => ⟨z, rfl, by omega, q⟩) fun _ => v3) _ ?_
          refine ⟨A.l, A.dl, A.r, T.rows, n, _, _, rfl, pw.li, rfl, fun e => ?_, fun e => ErrK.mono ?_ pw.s0⟩
          · rw [if_pos e] at k
            rw [Bool.and_eq_true] at e
            have hnew : z ∉ cs.map (·.1) := fun q => by
              have := e.2
              rw [decide_eq_true q] at this
              exact absurd this Bool.false_ne_true
            refine meth0_run (val_var rfl) pw.li.o (lf_no (by decide +kernel) (by decide +kernel)) ?_
            refine ⟨A.l, A.dl, A.r, T.rows, n, rfl, pw.li, hn, fun H4 sb li4 => ?_⟩
            have hp4 := sb _ _ (ne_of hp pw.li.o (fun e => nomatch e)) hp
            have hw4 := sb _ _ (ne_of hw pw.li.o (fun e => nomatch e)) hw
            have p4 := pw.step sb li4
            obtain ⟨p5, s05⟩ := p4.pinO hp4 (ne_of hp4 p4.li.o (fun e => nomatch e)) (ne_of hp4 p4.pg (fun e => nomatch e)) (ne_of hp4 p4.st (fun e => nomatch e)) pa
            obtain ⟨p6, s06⟩ := p5.pinO hw4 (ne_of hw4 p4.li.o (fun e => nomatch e)) (ne_of hw4 p4.pg (fun e => nomatch e)) wst (ne_of hw4 p4.ak (fun e => nomatch e))
            have s7 := s05.trans s06
            have k1 : (blk T 2 false (n + 1) m).K (fun n1 m1 => RK (doorsR T f n1 m1 (cs.map (·.1) ++ [z])) (DsQ CL CP A T H0 Q) fun e => ErrK CT (.int e) H0 E) fun e => ErrK CT (.int e) H0 E := by
              revert k
              match blk T 2 false (n + 1) m with
              | .ok (n1, m1) => exact fun k => k
              | .error e => exact fun k => k
            refine meth0_run (val_var rfl) p4.pg (pf_no (by decide +kernel)) ?_
            refine ⟨A, T, _, n + 1, m, xs, kvs, 3 - cs.length, rfl, p6, tx, by omega, lk, hm, ?_⟩
            refine Res.K.mono k1 (fun n1 m1 q H8 xs8 kvs8 i8 p8 hl8 hk8 hm8 => ?_) fun e h => h.mono s7
            have hp8 : H8 pl = some (.dK (dOf V.int cs)) := p8.s0 _ _ (s06 _ _ upd_same)
            have hw8 : H8 wp = some (.lst (([a, z] : List Str).map V.str)) := p8.s0 _ _ upd_same
            have p8 := p8.weak s7
            refine (val_var rfl) _ (vz hw8 _ ?_)
            refine ⟨pl, _, rfl, DPut.k (k := .inr z) hp8 (by rw [show (dOf V.int cs).length = cs.length from List.length_map ..]; exact Nat.lt_of_lt_of_le (show cs.length < 4 by omega) (by decide)), ?_⟩
            rw [show putK (dOf V.int cs) (.inr z) (V.int i8) = dOf V.int (cs ++ [(z, (i8 : Int))]) from dOf_put hnew]
            refine ⟨n1, m1, xs8, kvs8, pl, cs ++ [(z, (i8 : Int))], ?_, ?_, ⟨_, rfl⟩, p8.side hp8 p0 pa, p0, pa, upd_same, ?_, hk8, hm8, ?_⟩
            · rw [List.length_append]
              show f + (cs.length + 1) = 4
              omega
            · rw [List.length_append]
              show cs.length + 1 ≤ 3
              omega
            · rw [List.length_append]
              show xs8.length + (4 - (cs.length + 1)) ≤ _
              omega
            · rw [List.map_append]
              exact q
          · rw [e, if_neg Bool.false_ne_true] at k
            exact k
        · rw [e, if_neg Bool.false_ne_true] at k
          exact k
end
end K5
namespace K5
open PySem PySem.Spec PyProof.Rows L2
/-! ### tuple(a for a, b in a tuple of pairs) -/
section
variable {prog : PySem.Program} {w : World} {A : Around} {E : Value → Shared → Prop} {s : Shared}
theorem go_tupiter {es : List Expr} {kk : Nat} {pos : Pos} {it yl tt : Addr} {i : Nat} {Q : Unit → Shared → Prop} (at1 : s.heap.IsTupleIter it yl i) (next : Q () s) :
    wpAny (model prog w) A (letOwnedTupleGo (.Tuple es kk pos) (.ref it) (.ref tt)) Q E s := by
  obtain ⟨ob, h1, h2, h3⟩ := at1
  unfold letOwnedTupleGo
  refine wpAny_bind (wpAny_load h1 ?_)
  rw [h2, h3]
  show wpAny _ A (if ((["enumerate", "zip", "dict_itemiterator", "dict_reverseitemiterator", "odict_iterator", "itertools.zip_longest", "itertools.pairwise"].contains "tuple_iterator") && ((#[.ref yl, .int i 0] : Array Value)[0]? == some (rawInt tt))) = true then _ else _) Q E s
  rw [if_neg (by
    rw [show (["enumerate", "zip", "dict_itemiterator", "dict_reverseitemiterator", "odict_iterator", "itertools.zip_longest", "itertools.pairwise"].contains "tuple_iterator") = false from by decide, Bool.false_and]
    exact Bool.false_ne_true)]
  exact wpAny_pure next
end
theorem walk_pairs {prog : PySem.Program} {w : World} {A : Around} (calm : A.handled = none) (it yl : Addr) (ne : yl ≠ it) (items : Array Value) (tt : Nat → Addr) (vals : Nat → Array Value)
    (at1 : ∀ j, j < items.size → items[j]? = some (.ref (tt j))) (ne2 : ∀ j, j < items.size → tt j ≠ it) :
    WalksU prog w A it (it :: yl :: (List.range items.size).map tt) [it] items.size (fun j v => v = vals j)
      (fun j h => h.IsTupleIter it yl j ∧ h.IsTuple yl items ∧ ∀ k, k < items.size → h.IsTuple (tt k) (vals k))
      (fun j a h => (j < items.size ∧ a = tt j) ∧ h.IsTupleIter it yl (j + 1) ∧ h.IsTuple yl items ∧ ∀ k, k < items.size → h.IsTuple (tt k) (vals k)) where
  sub := fun c hc => by simp at hc; simp [hc]
  frame := fun _ _ _ z keep => ⟨z.1.at fun o e => keep it (by simp) o e, z.2.1.at fun o e => keep yl (by simp) o e,
    fun k lt => (z.2.2 k lt).at fun o e => keep (tt k) (List.mem_cons_of_mem _ (List.mem_cons_of_mem _ (List.mem_map.mpr ⟨k, List.mem_range.mpr lt, rfl⟩))) o e⟩
  item := fun i s Q E lt z next => by
    refine wpAny_pyNext_tuple_item z.1 z.2.1 (x := .ref (tt i)) (at1 i lt) fun h1 i1 sb => ?_
    have all : ∀ k, k < items.size → h1.IsTuple (tt k) (vals k) := fun k l2 => (z.2.2 k l2).extBut sb.extBut (ne2 k l2)
    exact next (tt i) (vals i) h1 s.toks rfl (all i lt) ⟨⟨lt, rfl⟩, i1, z.2.1.extBut sb.extBut ne, all⟩ fun c o nc e => sb.extBut c o (fun q => nc (by simp [q])) e
  go := fun _ _ _ _ _ s Q _ z next => go_tupiter z.2.1 (next s.heap z.2 fun _ _ _ e => e)
  apart := fun j a _ z q => by
    rcases List.mem_cons.mp q with e | e
    · exact ne2 j z.1.1 (z.1.2 ▸ e)
    · cases e
  done := fun s Q E z next => wpAny_pyNext_tuple_end calm z.1 z.2.1 (by simp) fun h1 ex => next h1 s.toks fun c o nc e => ex c o (fun q => nc (by simp [q])) e
  self := fun _ _ _ _ z next => wpAny_pyIter_tupleiter z.1 next
end K5
namespace K5
open PySem PySem.Spec PyProof.Rows L2
def seqOf (h : Heap) (a : Addr) : Array Value := match h.get? a with
  | some ⟨_, _, .seq vs _, _⟩ => vs
  | _ => #[]
theorem seqOf_at {h : Heap} {a : Addr} {vs : Array Value} (x : IsTup h a vs) : seqOf h a = vs := by
  obtain ⟨o, h1, h2, n, hC⟩ := x
  unfold seqOf
  rw [h1]
  cases o
  cases hC
  rfl
section
variable {X : Cx} {pins : List (Addr × Obj)} {σ : L2.St} {H : Hp} {s : Shared}
/-- the generator g over the first things of the pairs cs -/
def ReadyP (X : Cx) (pins : List (Addr × Obj)) (σ : L2.St) (H1 : Hp) (P : Addr) (cs : List (Str × Int)) (g : Addr) (s5 : Shared) : Prop :=
  ∃ (fps wrs : List Addr) (G : Array GenState → Array GenState → Prop) (F : Nat → Value → Prop) (St : Nat → Shared → Prop),
    WalksS X.prog X.w X.A.in1.in1.in1 g fps wrs G cs.length F St ∧ St 0 s5 ∧ (∀ c ∈ fps, c < s5.heap.objs.size) ∧ g ∈ fps ∧ (∀ i sS, St i sS → sS.TypeIs (.ref g) "generator") ∧
    (∀ j v, F j v → ∃ (q : Str × Int) (t : Tok), cs[j]? = some q ∧ v = .str q.1 t) ∧
    ∀ s', Moved wrs G s5 s' → ∃ H2, GxR.Tabbed P H1 H2 ∧ Inv X pins σ H2 s'
def Pairs (H : Hp) (ts : List Addr) (cs : List (Str × Int)) : Prop := Paired (fun (t : Addr) (q : Str × Int) => H t = some (.tup [.str q.1, .int q.2])) ts cs
theorem Pairs.get {H : Hp} {ts : List Addr} {cs : List (Str × Int)} (h : Pairs H ts cs) {j : Nat} (lt : j < cs.length) : ∃ t q, ts[j]? = some t ∧ cs[j]? = some q ∧ H t = some (.tup [.str q.1, .int q.2]) := by
  have e : ts.length = cs.length := Paired.length h
  have e1 : ts[j]? = some (ts[j]'(by omega)) := List.getElem?_eq_getElem _
  obtain ⟨q, h1, h2⟩ := LiI.paired_get h e1
  exact ⟨_, q, e1, h1, h2⟩
theorem vals_ref : ∀ {ts : List Addr} {us : List Value}, Vals (ts.map V.ref) us → us = ts.map Value.ref
  | [], _, .nil => rfl
  | t :: r, _, .cons a b => by
    rw [vals_ref b, show _ = Value.ref t from a]
    rfl
theorem gen_pairs {c P : Addr} {iter : Expr} {xa xb : Str} {px pa pb pt gpos : Pos} {kt : Nat} {scope : Scope} {te : TE} {k : Nat} {Z : Value → Shared → Prop} {R : List (Str × Int) → Hp → Prop}
    (hr : Room k X.A) (TB : GxR.TabB X.base X.mg c P) (code1 : X.env.code = .ref c) (S : GxR.GenS X.env scope xa) (loc2 : scope.names.lookup xb = some .local) (ab : xa ≠ xb) (nd : (xa == ("__debug__" : Str)) = false) (it : PE X iter te)
    (fold : ∀ v, genFold iter X.env v = pure v) (I : Inv X pins σ H s) (h : te σ H fun v H1 => ∃ (yl : Addr) (ts : List Addr) (cs : List (Str × Int)), v = .ref yl ∧ H1 yl = some (.tup (ts.map V.ref)) ∧ Pairs H1 ts cs ∧ GxR.TabG H1 P ∧ R cs H1)
    (hZ : ∀ cs H1 g s5, R cs H1 → ReadyP X pins σ H1 P cs g s5 → Z (.ref g) s5) :
    wpAny (model X.prog X.w) X.A (eval (.GeneratorExp (.Name xa px) [⟨.Tuple [.Name xa pa, .Name xb pb] kt pt, iter, [], 0⟩] scope gpos) X.env) Z X.xe s := by
  refine wpAny_GeneratorExp_walksQT hr.hd S.co (closure_ok S.free) S.cell S.dot S.loc loc2 ab S.kind (by have := hr.dp; omega) ?_ fold
  refine thn (it.run pins s σ H _ I h) fun xv sA ⟨v, H1, IA, r1, q1⟩ => ?_
  obtain ⟨yl, ts, cs, rfl, hy, prs, ⟨tb0, hP, ht⟩, q1⟩ := q1
  obtain rfl : xv = Value.ref yl := r1
  obtain ⟨its, rv, pl, hz⟩ := IA.tuple (SqT.of hy)
  obtain rfl := vals_ref rv
  have lts : ts.length = cs.length := Paired.length prs
  have n1 : (ts.map Value.ref).toArray.size = cs.length := by rw [List.size_toArray, List.length_map, lts]
  have tat : ∀ j, j < cs.length → ∃ (q : Str × Int) (t u : Tok), ts[j]? = some (ts.getD j 0) ∧ cs[j]? = some q ∧ IsTup sA.heap (ts.getD j 0) #[.str q.1 t, .int q.2 u] := fun j lt => by
    obtain ⟨a, q, e1, e2, e3⟩ := prs.get lt
    obtain ⟨us, r2, p2, _⟩ := IA.tuple (SqT.of e3)
    have ed : ts.getD j 0 = a := by rw [List.getD_eq_getElem?_getD, e1]; rfl
    cases r2 with
    | cons ra rb =>
      cases rb with
      | cons rb rc =>
        cases rc
        obtain ⟨t, rfl⟩ := ra
        obtain ⟨u, rfl⟩ := rb
        exact ⟨q, t, u, by rw [ed]; exact e1, e2, by rw [ed]; exact p2⟩
  have ylt : yl < sA.heap.objs.size := IsTup.lt pl
  refine wpAny_pyIter_tuple pl ?_
  generalize ho : ({ cls := .type "tuple_iterator", data := .fields #[.ref yl, .int 0 0] } : Obj) = o
  have itr : (sA.heap.push o).IsTupleIter sA.heap.objs.size yl 0 := by
    subst ho
    exact ⟨_, Heap.get?_push_size _ rfl, rfl, rfl⟩
  have tabS : sA.heap.get? P = some { cls := .none, data := .fields tb0 } := IA.hok P _ hP
  have Plt : P < sA.heap.objs.size := Heap.lt_size tabS
  have tabS2 : (sA.heap.push o).get? P = some { cls := .none, data := .fields tb0 } := Heap.get?_push_of_some _ tabS
  have cdh : PySem.W.CodeHd (sA.heap.push o) c P := TB.code.keeps fun b u e => Heap.get?_push_of_some _ (IA.bk b u e)
  have limA : (sA.heap.push o).NoLimit := IA.nolimit.push o
  refine ⟨limA, ?_⟩
  have goOn : ∀ (code : Value) (hC : Heap) (tk : Nat) (tb1 : Array Value), Heap.ExtBut P (sA.heap.push o) hC → (sA.heap.push o).objs.size ≤ hC.objs.size → hC.get? P = some { cls := .none, data := .fields tb1 } → (∃ more, tb1 = tb0 ++ more) → TriplesOk tb1.toList →
      wpAny (model X.prog X.w) X.A (builtinsFor X.env.globals X.env.builtins) (fun bi sQ =>
        ∃ I fps wrs n₀ Pt St₀ Mid pz F, Value.ref sA.heap.objs.size = .ref I ∧ (∀ A' : Around, A'.handled = none → WalksU X.prog X.w A' I fps wrs n₀ Pt St₀ Mid) ∧ (∀ i vals, Pt i vals → ∃ va vb, vals = #[va, vb]) ∧ St₀ 0 sQ.heap ∧ (∀ b ∈ fps, b < sQ.heap.objs.size) ∧ sQ.heap.NoLimit ∧ cStatics ∉ wrs ∧
          (∀ hRef : Heap, (∀ b o, sQ.heap.get? b = some o → hRef.get? b = some o) →
            QuietGenT X.prog X.w (genEnv scope (cloFrom X.env.cells scope.names []) sQ.heap.objs.size code bi X.env) xa xb [] (.Name xa px) (List.range sQ.heap.objs.size) wrs Pt pz F hRef) ∧
          (∀ a hR tk gN, gN.bare = true → sQ.heap.objs.size < a → hR.objs.size = a + 1 → (∀ b o, sQ.heap.get? b = some o → hR.get? b = some o) →
            WalksS X.prog X.w X.A.in4 a (a :: sQ.heap.objs.size :: List.range sQ.heap.objs.size) (sQ.heap.objs.size :: wrs) (GenOnlyQ sQ.gens.size) (passing pz n₀ 0).length
              (fun j y => ∃ i, (passing pz n₀ 0)[j]? = some i ∧ F i y) (GenAt X.prog X.w X.A.in4 a sQ.gens.size sQ.heap.objs.size (List.range sQ.heap.objs.size) wrs pz n₀ F) →
            GenAt X.prog X.w X.A.in4 a sQ.gens.size sQ.heap.objs.size (List.range sQ.heap.objs.size) wrs pz n₀ F 0 { sQ with gens := sQ.gens.push gN, toks := tk, heap := hR } →
            Z (.ref a) { sQ with gens := sQ.gens.push gN, toks := tk, heap := hR })) X.xe { sA with heap := hC, toks := tk } := by
    intro code hC tk tb1 hx hsz tabC moreP triC
    obtain ⟨mm, mo, e1, e2, e3, q4, q5, e6, e7, e8⟩ := TB.bm
    have nP : cStatics ≠ P := fun e => by
      obtain ⟨_, nsx, _⟩ := IA.nolimit
      obtain ⟨o', es, ep, ho, hd, _⟩ := nsx
      rw [e, tabS] at ho
      cases ho
      cases hd
    have stl : cStatics < sA.heap.objs.size := let ⟨_, nsx, _⟩ := IA.nolimit; nsx.lt
    have szA : (sA.heap.push o).objs.size = sA.heap.objs.size + 1 := Heap.size_push ..
    have kC : ∀ b u, b ≠ P → sA.heap.get? b = some u → hC.get? b = some u := fun b u inb e => hx b u inb (Heap.get?_push_of_some _ e)
    refine wpAny_builtinsFor (m := X.mg) (by rw [IA.ok.glob]; exact ((IA.mod.glob.keeps IA.bk).push o).extBut hx TB.gP) e1 e2 (kC _ _ q4 (IA.bk _ _ q5)) e6 e7 e8 ?_
    have tupP : ∀ {a : Addr} {vs : Array Value}, IsTup sA.heap a vs → a ≠ P := fun y z => by
      obtain ⟨_, e, hc1, _, hd1⟩ := y
      rw [z, tabS] at e
      cases e
      cases hd1
    have tup3 : ∀ {a : Addr} {vs : Array Value}, IsTup sA.heap a vs → hC.IsTuple a vs := fun y => by
      have np := tupP y
      obtain ⟨u, e, rr⟩ := y
      exact ⟨u, kC _ _ np e, rr⟩
    have itr3 : hC.IsTupleIter sA.heap.objs.size yl 0 := itr.at fun u e => hx _ u (Nat.ne_of_gt Plt) e
    have tl : ∀ j, j < cs.length → ts.getD j 0 < sA.heap.objs.size := fun j lt => by
      obtain ⟨q, t, u, _, _, z⟩ := tat j lt
      exact IsTup.lt z
    have Wk : ∀ A' : Around, A'.handled = none → WalksU X.prog X.w A' sA.heap.objs.size (sA.heap.objs.size :: yl :: (List.range (ts.map Value.ref).toArray.size).map fun j => ts.getD j 0) [sA.heap.objs.size] (ts.map Value.ref).toArray.size
        (fun j v => v = if j < cs.length then seqOf sA.heap (ts.getD j 0) else #[.none, .none])
        (fun j h => h.IsTupleIter sA.heap.objs.size yl j ∧ h.IsTuple yl (ts.map Value.ref).toArray ∧ ∀ k, k < (ts.map Value.ref).toArray.size → h.IsTuple (ts.getD k 0) (if k < cs.length then seqOf sA.heap (ts.getD k 0) else #[.none, .none]))
        (fun j a h => (j < (ts.map Value.ref).toArray.size ∧ a = ts.getD j 0) ∧ h.IsTupleIter sA.heap.objs.size yl (j + 1) ∧ h.IsTuple yl (ts.map Value.ref).toArray ∧ ∀ k, k < (ts.map Value.ref).toArray.size → h.IsTuple (ts.getD k 0) (if k < cs.length then seqOf sA.heap (ts.getD k 0) else #[.none, .none])) := fun A' hA => by
      refine walk_pairs hA _ _ (Nat.ne_of_lt ylt) _ (fun j => ts.getD j 0) (fun j => if j < cs.length then seqOf sA.heap (ts.getD j 0) else #[.none, .none]) (fun j lt => ?_) fun j lt => ?_
      · obtain ⟨q, t, u, e9, _⟩ := tat j (by omega)
        rw [List.getElem?_toArray, List.getElem?_map, e9]
        rfl
      · exact Nat.ne_of_lt (tl j (by omega))
    refine ⟨sA.heap.objs.size, _, [sA.heap.objs.size], _, _, _, _, (fun _ => true), (fun i y => i < cs.length → ∃ (q : Str × Int) (t : Tok), cs[i]? = some q ∧ y = .str q.1 t), rfl, Wk, fun i vals hv => ?_, ?_, ?_, limA.extBut hx nP, ?_, ?_, ?_⟩
    · rw [hv]
      by_cases lt : i < cs.length
      · obtain ⟨q, t, u, _, _, z⟩ := tat i lt
        rw [if_pos lt, seqOf_at z]
        exact ⟨_, _, rfl⟩
      · rw [if_neg lt]
        exact ⟨_, _, rfl⟩
    · refine ⟨itr3, tup3 pl, fun k lt => ?_⟩
      have lt2 : k < cs.length := by omega
      obtain ⟨q, t, u, _, _, z⟩ := tat k lt2
      rw [if_pos lt2, seqOf_at z]
      exact tup3 z
    · intro b inb
      show b < hC.objs.size
      have z3 : sA.heap.objs.size < hC.objs.size := by omega
      rcases List.mem_cons.mp inb with z | z
      · rw [z]
        exact z3
      · rcases List.mem_cons.mp z with z | z
        · rw [z]
          exact Nat.lt_trans ylt z3
        · obtain ⟨j, ltJ, e9⟩ := List.mem_map.mp z
          have z4 := tl j (by have := List.mem_range.mp ltJ; omega)
          rw [← e9]
          exact Nat.lt_trans z4 z3
    · intro z
      rcases List.mem_cons.mp z with z | z
      · exact Nat.ne_of_lt stl z
      · cases z
    · intro hRef keepR
      refine ⟨fun A' E' i va vb s₂ m₂ hA hPv hn hm hm2 hk => ?_, fun A' E' i va vb s₂ m₂ hA hPv hp hn hm hm2 hk => ?_⟩
      · simp only [List.forIn_nil]
        exact wpAny_pure ⟨rfl, GxR.keeps_refl _⟩
      · refine wpAny_Name (wpAny_loadName_local S.kind S.loc hn hm ?_) nd
        refine ⟨fun lt => ?_, GxR.keeps_refl _⟩
        obtain ⟨q, t, u, _, e9, z⟩ := tat i lt
        rw [if_pos lt, seqOf_at z] at hPv
        refine ⟨q, t, e9, ?_⟩
        injection hPv with e10
        injection e10 with e10
    · intro g hD tkD gN bareG ltG szD kpD WD atG
      simp only [GxR.passing_true, List.length_range] at WD
      rw [n1] at WD atG
      refine hZ cs H1 g _ q1 ⟨_, _, _, _, _, WD.in4_3, atG, ?_, List.mem_cons_self, fun i sS zS => ?_, ?_, fun s' hm => ?_⟩
      · intro b inb
        show b < hD.objs.size
        have y5 : hD.objs.size = g + 1 := szD
        have y8 : hC.objs.size < g := ltG
        rw [y5]
        rcases List.mem_cons.mp inb with z | z
        · rw [z]
          exact Nat.lt_succ_self g
        · rcases List.mem_cons.mp z with z | z
          · rw [z]
            exact Nat.lt_succ_of_lt y8
          · have y7 : b < hC.objs.size := List.mem_range.mp z
            exact Nat.lt_succ_of_lt (Nat.lt_trans y7 y8)
      · obtain ⟨z, _⟩ := zS
        exact z.typeIs
      · intro j v hv
        obtain ⟨i, atI1, e9⟩ := hv
        obtain ⟨ltJ, atE⟩ := List.getElem?_eq_some_iff.mp atI1
        rw [List.getElem_range] at atE
        subst atE
        exact e9 (by rw [List.length_range] at ltJ; exact ltJ)
      · obtain ⟨more, eM⟩ := moreP
        have nowr : ∀ b u, sA.heap.get? b = some u → b ∉ hC.objs.size :: [sA.heap.objs.size] := fun b u e inb => by
          have hl := Heap.lt_size e
          have z3 : sA.heap.objs.size < hC.objs.size := by omega
          rcases List.mem_cons.mp inb with z | z
          · rw [z] at hl
            exact Nat.lt_irrefl _ (Nat.lt_trans hl z3)
          · rcases List.mem_cons.mp z with z | z
            · rw [z] at hl
              exact Nat.lt_irrefl _ hl
            · cases z
        have J := GxR.inv_tab (more := more) (h' := s'.heap) (g' := s'.gens) (d' := s'.drawn) (t' := s'.toks) IA hP (fun b u nb e => hm.heap b u (nowr b u e) (kpD b u (kC b u nb e)))
          (by rw [← eM]; exact hm.heap P _ (nowr P _ tabS) (kpD P _ tabC)) (AllBare.movedS (IA.bare.push bareG) hm)
        rw [GxR.sh_eta sA s' hm.os] at J
        exact ⟨upd H1 P (.tbl (tb0 ++ more)), ⟨⟨tb0 ++ more, upd_same, by rw [← eM]; exact triC⟩, fun b nb => upd_ne nb⟩, J⟩
  cases hf : codeAmong gpos tb0.toList with
  | none =>
    refine wpAny_genexprCodeX code1 (cdh.code tabS2 ht) (cdh.tab tabS2) hf fun c' h' tk hx hge hlt cob _ ctab _ => ?_
    obtain ⟨o1, vs, f1, tf, fl, tg, inq, tx, tt, op, _, _, _, _, _, _, _, _, _, trp, _⟩ := cob
    exact goOn _ h' tk _ hx (Nat.le_trans hge (Nat.le_of_lt hlt)) ctab.2 ⟨_, rfl⟩ trp
  | some cv =>
    refine wpAny_genexprCode_hit code1 (cdh.code tabS2 ht) hf ?_
    exact goOn cv (sA.heap.push o) sA.toks tb0 (Heap.ExtBut.refl _ _) (Nat.le_refl _) tabS2 ⟨#[], by simp⟩ ht
/-- tuple(a for a, b in te) -/
def tTupPairs (P : Addr) (te : TE) : TE := fun σ H Q => te σ H fun v H1 => ∃ (yl : Addr) (ts : List Addr) (cs : List (Str × Int)), v = .ref yl ∧ H1 yl = some (.tup (ts.map V.ref)) ∧ Pairs H1 ts cs ∧ GxR.TabG H1 P ∧
  cs.length ≤ 1000 ∧ ∀ (H2 H3 : Hp) (p : Addr), GxR.Tabbed P H1 H2 → Same H2 H3 → H2 p = none → FT H3 p (cs.map fun q => V.str q.1) → Q (.ref p) H3
end
end K5
namespace K5
open PySem PySem.Spec PyProof.Rows L2
section
variable {X : Cx}
/-- tuple(d) of a dict -/
def tTupKeys (te : TE) : TE := fun σ H Q => te σ H fun x H1 => ∃ (d : Addr) (kvs : List (Key × V)), x = .ref d ∧ H1 d = some (.dK kvs) ∧ ∀ p, H1 p = none → Q (.ref p) (upd H1 p (.tup (kvs.map fun q => kV q.1)))
section
variable {prog : PySem.Program} {w : World} {A : Around} {E : Value → Shared → Prop} {s : Shared} {d : Addr} {ep : Nat}
theorem made_tuple_keys {kvs : List (Key × Value)} {Z : Value → Shared → Prop} (calm : A.handled = none) (lo : (d == sysModules) = false) (at' : s.heap.DictAt (mixKind prog w) d kvs ep) (few : kvs.length ≤ sizeLine)
    (then' : ∀ (h1 : Heap) (tk : Nat) (acc : Array Value), (∀ c u, s.heap.get? c = some u → h1.get? c = some u) → ItemsOf (fun i v => ∃ k x, kvs[i]? = some (k, x) ∧ (mixKind prog w).is k v = true) acc kvs.length →
      Z (.ref h1.objs.size) { s with heap := h1.push { cls := .type "tuple", data := .seq acc }, toks := tk }) :
    codeAny (model prog w) A (.call (.builtin "tuple.__new__") ⟨[.type "tuple", .ref d], []⟩) (wants Z E) s := by
  refine codeAny_of_tree ?_
  show wpAny _ A.in1 (do
    checkBuiltinCall "tuple.__new__" ⟨[.type "tuple", .ref d], []⟩
    again (.builtin "tuple.__new__" ⟨[.type "tuple", .ref d], []⟩)) _ _ s
  have pid := F.plain_tuple_new
  refine wpAny_bind (wpAny_of_eq (F.newCall_tuple_1 _) (wpAny_pure ⟨plainId_quiet pid _, codeAny_builtin F.entry_tuple_new ?_⟩))
  rw [Around.under_plainId pid _]
  have f1 := sub_tuple_self
  have f2 := init_tuple_lookup
  have f3 := madeHere_tuple
  have f4 : s.TypeIs (.ref d) "dict" := at'.dictOf.typeIs
  have f5 : A.in1.handled = none := calm
  wp_walk using wpAny_typeOf f4, PySem.W.kdu_collect (A := A.in1) (PySem.W.kdl_dict (knd := mixKind prog w) (kvs := kvs) (ep := ep) lo) f5 at' few
  intro h1 tk acc keep hio
  show wpAny _ _ (Builtin.Tuple.tupleExact acc.toList.toArray >>= fun x => ret x) _ _ _
  rw [Builtin.Tuple.tupleExact]
  refine wpAny_bind (wpAny_newObj_type ?_ (by show acc.toList.toArray.size ≤ sizeLine; rw [Array.toArray_toList, hio.1]; exact few))
  refine wpAny_pure ?_
  rw [Array.toArray_toList]
  exact then' h1 tk acc keep hio
theorem called_tuple_keys {kvs : List (Key × Value)} {Z : Value → Shared → Prop} (calm : A.handled = none) (lo : (d == sysModules) = false) (at' : s.heap.DictAt (mixKind prog w) d kvs ep) (few : kvs.length ≤ sizeLine)
    (then' : ∀ (h1 : Heap) (tk : Nat) (acc : Array Value), (∀ c u, s.heap.get? c = some u → h1.get? c = some u) → ItemsOf (fun i v => ∃ k x, kvs[i]? = some (k, x) ∧ (mixKind prog w).is k v = true) acc kvs.length →
      Z (.ref h1.objs.size) { s with heap := h1.push { cls := .type "tuple", data := .seq acc }, toks := tk }) :
    wpAny (model prog w) A (call (.type "tuple") [.ref d]) Z E s := by
  refine callType_codes (Q₁ := fun y s1 => s1.TypeIs y "tuple" ∧ Z y s1) F.called_tuple (F.typeCall_tuple_1 _) F.entry_object_init
    (made_tuple_keys (A := A.in1) calm lo at' few fun h1 tk acc k1 k2 => ⟨⟨_, Heap.get?_push_size _ rfl, rfl⟩, then' h1 tk acc k1 k2⟩) fun y s1 z => ?_
  exact ⟨z.1, F.args_object_init_2 y _, object_init_meets F.called_tuple.init.lookup F.called_tuple.made (by decide) prog w A.in1 _ s1 ⟨z.1, rfl, z.2⟩⟩
end
theorem pe_tupKeys {e : Expr} {te : TE} {p pos : Pos} (hc : X.calm = true) (hg : Gl X "tuple") (hm : X.mg "tuple" = none) (he : PE X e te) (na : starEach [e] X.env = (false, eval e X.env) :: starEach [] X.env := by rfl) :
    PE X (.Call (.Name "tuple" p) [e] [] pos) (tTupKeys te) := by
  refine ⟨fun pins s σ H Q I hh0 => ?_⟩
  refine Call_ (ld_blt I hg hm boot_tuple (PyProof.Rows.callWith_type1 (one_arg he I hh0 (fun v s2 x H2 I2 r z => ?_) na) na))
  obtain ⟨d, kvs, rfl, hk, q⟩ := z
  obtain rfl : v = Value.ref d := r
  obtain ⟨zz, lo, vs, rKey, hd⟩ := (show ObjOk X.prog X.w H2 s2.heap d (.dK kvs) from I2.hok d _ hk)
  obtain ⟨ep, hat⟩ := hd.dictAt
  have lenEq : kvs.length = vs.length := Paired.length rKey
  refine called_tuple_keys (kvs := vs) (ep := ep) (I2.ok.hd hc) lo hat (by rw [← lenEq]; exact zz) fun h1 tk acc keep hio => ?_
  have I3 : Inv X pins σ H2 { s2 with heap := h1, toks := tk } := I2.kept (t' := tk) keep
  have rv : Vals (kvs.map fun q => kV q.1) acc.toList := by
    refine vals_of_at (by rw [List.length_map]; exact lenEq.trans hio.1.symm) fun j x w2 e1 e2 => ?_
    obtain ⟨k, y, e3, e4⟩ := hio.2 j w2 (by rw [← Array.getElem?_toList]; exact e2)
    have e5 : (kvs.map (·.1))[j]? = some k := by
      rw [KV.keys rKey, List.getElem?_map, e3]
      rfl
    rw [show (kvs.map fun q => kV q.1) = (kvs.map (·.1)).map kV by rw [List.map_map]; rfl, List.getElem?_map, e5] at e1
    cases e1
    exact keyIs_rel e4
  refine ⟨.ref h1.objs.size, _, I3.laid (t' := tk) (o := .tup (kvs.map fun q => kV q.1)) (fun c o e => Heap.get?_push_of_some _ e) (Nat.le_refl _) ⟨by rw [List.length_map]; exact zz, acc.toList, rv, ?_⟩, rfl, q _ (I3.hok.fresh (Nat.le_refl _))⟩
  rw [Array.toArray_toList]
  exact IsTup.new _ _
theorem pe_tupPairs {c P : Addr} {iter : Expr} {xa xb : Str} {px pa pb pt gpos p pos : Pos} {kt : Nat} {scope : Scope} {te : TE} {k : Nat}
    (hr : Room k X.A) (TB : GxR.TabB X.base X.mg c P) (code1 : X.env.code = .ref c) (S : GxR.GenS X.env scope xa) (loc2 : scope.names.lookup xb = some .local) (ab : xa ≠ xb) (nd : (xa == ("__debug__" : Str)) = false) (it : PE X iter te)
    (fold : ∀ v, genFold iter X.env v = pure v) (hg : Gl X "tuple") (hm : X.mg "tuple" = none)
    (star1 : starEach [.GeneratorExp (.Name xa px) [⟨.Tuple [.Name xa pa, .Name xb pb] kt pt, iter, [], 0⟩] scope gpos] X.env = (false, eval (.GeneratorExp (.Name xa px) [⟨.Tuple [.Name xa pa, .Name xb pb] kt pt, iter, [], 0⟩] scope gpos) X.env) :: starEach [] X.env := by rfl) :
    PE X (.Call (.Name "tuple" p) [.GeneratorExp (.Name xa px) [⟨.Tuple [.Name xa pa, .Name xb pb] kt pt, iter, [], 0⟩] scope gpos] [] pos) (tTupPairs P te) := by
  refine ⟨fun pins s σ H Q I hh0 => ?_⟩
  refine wpAny_Call_Name_kw (ld_blt I hg hm boot_tuple ?_)
  refine PyProof.Rows.callWith_type1 ?_ star1 rfl
  rw [star1]
  show wpAny _ _ (spliced ((false, eval (.GeneratorExp (.Name xa px) [⟨.Tuple [.Name xa pa, .Name xb pb] kt pt, iter, [], 0⟩] scope gpos) X.env) :: backTo pos (starEach [] X.env))) _ _ s
  refine Calls.spliced_cons (gen_pairs (R := fun cs H1 => cs.length ≤ 1000 ∧ ∀ (H2 H3 : Hp) (p : Addr), GxR.Tabbed P H1 H2 → Same H2 H3 → H2 p = none → FT H3 p (cs.map fun (q : Str × Int) => V.str q.1) → Q (.ref p) H3) hr TB code1 S loc2 ab nd it fold I hh0 fun cs H1 g s5 hR hG => ?_)
  refine Calls.spliced_nil ?_
  obtain ⟨fp, wr, G, F, St, W, hst, hfp, hgf, hT, hF, hinv⟩ := hG
  obtain ⟨few, q⟩ := hR
  have few2 : cs.length ≤ sizeLine := Nat.le_trans few (by decide)
  refine call_tuple_gen (n := cs.length) W hT hst hfp hgf (fun s' acc hm2 hio => ?_) (hsz := few2)
  obtain ⟨H2, tb, J⟩ := hinv s' hm2
  have rv : Vals (cs.map fun q => V.str q.1) acc.toList := by
    refine vals_of_at (by rw [List.length_map, Array.length_toList]; exact hio.1.symm) fun j x u e1 e2 => ?_
    obtain ⟨q0, t, e3, e4⟩ := hF j u (hio.2 j u (by rw [← Array.getElem?_toList]; exact e2))
    rw [List.getElem?_map, e3] at e1
    cases e1
    exact ⟨t, e4⟩
  have nf : H2 s'.heap.objs.size = none := J.hok.fresh (Nat.le_refl _)
  have new : Inv X pins σ (upd H2 s'.heap.objs.size (.frz { cls := .type "tuple", data := .seq acc } (.tup (cs.map fun q => V.str q.1)))) { s' with heap := s'.heap.push { cls := .type "tuple", data := .seq acc } } := by
    refine J.laid (t' := s'.toks) (fun c o e => Heap.get?_push_of_some _ e) (Nat.le_refl _) ⟨Heap.get?_push_size _ rfl, ?_⟩
    refine ⟨by rw [List.length_map]; exact few2, acc.toList, rv, ?_⟩
    rw [Array.toArray_toList]
    exact IsTup.new _ _
  exact ⟨.ref s'.heap.objs.size, _, new, rfl, q _ _ _ tb (same_upd nf) nf ⟨_, upd_same, rfl⟩⟩
end
end K5
namespace K5
open PySem PySem.Spec PyProof.Rows L2
abbrev s_Part___init__ : Stmt := inClass (topS 22) 0
theorem sc_Part___init__ : FnScope ["self", "worths", "text", "lines", "program", "name", "_"] ["self", "worths", "text"] (defScope s_Part___init__) := ⟨rfl, rfl, rfl, by decide +kernel, rfl, by decide +kernel, by decide +kernel⟩
/-- a def whose code object is at c -/
structure FunT (K : PySem.W.Frag) (x qual : Str) (st : Stmt) (f : Addr) (fd : FuncData) (c : Addr) : Prop where
  ex : ∃ (oc : Value) (od : Option Addr) (kV doc pm : Value) (an : Option Addr) (ct : Value) (osl : Array (Option Value)),
    fd = PySem.W.fnOf x qual (defArgs st) (defBody st) (defScope st) .none kV doc pm an (.ref c) ct ∧ K.lookup f = some ⟨oc, od, .func fd, osl⟩ ∧ PySem.W.codeIn K (.ref c) qual = true
  kp : PySem.W.keepIn K (.ref f) = true
theorem FunT.okC {P : Program} {w : World} {K : PySem.W.Frag} {mg : Str → Option Value} {base : Heap} {x qual : Str} {st : Stmt} {f c : Addr} {fd : FuncData} {N ps : List Str} {k : Nat} {sp : Sp} (F : FunT K x qual st f fd c) (S : FnScope N ps (defScope st)) (len : ∀ vs H Q E, sp vs H Q E → vs.length = ps.length)
    (hbody : ∀ (A : Around) (outer : List Env) (s : Shared) (H : Hp) (vs : List V) (Q : VK) (E : XK), Room k (A.deeper (envOfC qual (defScope st) s.heap.objs.size f (.ref c))) → sp vs H Q E →
      ∃ t, PSs (cxOf (L2.CX P w) P w K mg base N qual (defScope st) f (.ref c) A outer s H E) (defBody st) t ∧ t { nx := fun _ H' => Q .non H', rt := Q } (start N vs) H) : FnOk P w K mg base (L2.CX P w) (k + 1) f fd ps sp := by
  obtain ⟨oc, od, kV, doc, pm, an, ct, osl, e, l1, l2⟩ := F.ex
  subst e
  exact fn_of l1 l2 S len hbody
/-! ### a part -/
def partR (wn : Int) (rows : List Str) : Except Nat (List (Str × Int) × List Str × List Str) :=
  match cellsR rows wn 4 0 [] with
  | .error n => .error n
  | .ok (n1, cs) => match portsR rows 3 n1 [] with
    | .error n => .error n
    | .ok (n2, ps) => match doorsR ⟨rows, wn, cs.map (·.1), ps⟩ 4 n2 0 [] with
      | .error n => .error n
      | .ok (n3, ds) => if n3 = rows.length then .ok (cs, ps, ds) else .error n3
def KeepP (a P : Addr) (H H' : Hp) : Prop := ∀ b o, b ≠ P → b ≠ a → H b = some o → H' b = some o
def ErrP (a P C : Addr) (v : V) (H : Hp) (E : XK) : Prop := ∀ (d : Addr) (H' : Hp), KeepP a P H H' → GxR.TabG H' P → H' d = some (.xd [(("value" : Str), v)]) → E (.ref C) (some d) H'
def partF (x y : V) (ct pt sd dt stp ak : Addr) : List (Str × V) := [("worths", x), ("text", y), ("cells", .ref ct), ("ports", .ref pt), ("starts", .ref sd), ("doors", .ref dt), ("steps", .ref stp), ("asks", .ref ak)]
def OkP (a P C da : Addr) (x y : V) (cs : List (Str × Int)) (ps ds : List Str) (H : Hp) (Q : VK) : Prop := ∀ (H' : Hp) (ct pt sd dt stp ak : Addr) (ts : List Addr), KeepP a P H H' → GxR.TabG H' P → H' a = some (.ins C da (partF x y ct pt sd dt stp ak)) →
  H' ct = some (.tup (ts.map V.ref)) → Pairs H' ts cs → H' pt = some (.tup (ps.map V.str)) → H' dt = some (.tup (ds.map V.str)) → Q .non H'
def spPart (P C CT CW : Addr) : Sp := fun vs H Q E => ∃ (a da : Addr) (x y : V) (Tx Ty : String), vs = [.ref a, x, y] ∧ H a = some (.ins C da []) ∧ Kd H x Tx ∧ Kd H y Ty ∧ GxR.TabG H P ∧ a ≠ P ∧
  (worthsOk x = false → ErrP a P CW x H E) ∧ ∀ wn : Int, x = .int wn → worthsOk x = true → (isS y = false → ErrP a P CT (.int (-1)) H E) ∧ ∀ z : Str, y = .str z → z.length ≤ 10000 ∧ PyData.strOk z = true ∧
    match partR wn (rowsOf z) with
    | .ok (cs, ps, ds) => OkP a P C da x y cs ps ds H Q
    | .error n => ErrP a P CT (.int n) H E
def hide (H : Hp) (L : List Addr) : Hp := fun b => if b ∈ L then none else H b
theorem hide_in {H : Hp} {L : List Addr} {b : Addr} (h : b ∈ L) : hide H L b = none := if_pos h
theorem hide_out {H : Hp} {L : List Addr} {b : Addr} (h : b ∉ L) : hide H L b = H b := if_neg h
theorem hide_same {H : Hp} {L : List Addr} : Same (hide H L) H := fun b o e => by
  by_cases h : b ∈ L
  · rw [hide_in h] at e
    cases e
  · rw [hide_out h] at e
    exact e
theorem errOf {a P C : Addr} {v : V} {H Hk : Hp} {E : XK} {L : List Addr} (h : ErrP a P C v H E) (keep : KeepP a P H Hk) (tab : GxR.TabG Hk P) (hL : ∀ b ∈ L, b = a ∨ H b = none) (hP : P ∉ L) : ErrK C v (hide Hk L) E := fun d H' s _ hd => by
  refine h d H' (fun b o n1 n2 e => s b o ?_) ?_ hd
  · have nl : b ∉ L := fun z => by
      rcases hL b z with q | q
      · exact n2 q
      · rw [q] at e
        cases e
    rw [hide_out nl]
    exact keep b o n1 n2 e
  · obtain ⟨ps, h1, h2⟩ := tab
    exact ⟨ps, s _ _ (by rw [hide_out hP]; exact h1), h2⟩
theorem errOf0 {a P C : Addr} {v : V} {H Hk : Hp} {E : XK} (h : ErrP a P C v H E) (keep : KeepP a P H Hk) (tab : GxR.TabG Hk P) : ErrK C v Hk E := fun d H' s _ hd => by
  refine h d H' (fun b o n1 n2 e => s b o (keep b o n1 n2 e)) ?_ hd
  obtain ⟨ps, h1, h2⟩ := tab
  exact ⟨ps, s _ _ h1, h2⟩
theorem tup_ne {zs : List V} {C d : Addr} {f : List (Str × V)} : HO.tup zs ≠ .ins C d f := fun e => nomatch e
theorem pairs_to {H H' : Hp} {ts : List Addr} {cs : List (Str × Int)} (h : Pairs H ts cs) (k : ∀ b zs, H b = some (.tup zs) → H' b = some (.tup zs)) : Pairs H' ts cs := paired_imp (fun t q e => k t _ e) h
theorem fld_via {K : PySem.W.Frag} {D : Ends} {σ : L2.St} {H : Hp} {f : Str} {to te : TE} (h : te σ H fun v H' => sFld K to (tC v) f D σ H') : sFld K to te f D σ H := h
structure ClT (K : PySem.W.Frag) (C : Addr) : Prop where
  cl : Cls K C
  na : ∀ x ∈ (["worths", "text", "cells", "ports", "starts", "doors", "steps", "asks"] : List Str), NoAttr K C x
section
variable {P : Program} {w : World} {K : PySem.W.Frag} {mg : Str → Option Value} {base : Heap} {CL CP CT CW Pt c TB : Addr} {fBegins fWords fStep fNeed fName fDoor fNum : Addr} {dBegins dWords dStep dNeed dName dDoor dNum : FuncData}
theorem ok_Part_init {f fW fL fE fC fQ fG fD fN : Addr} {fd dW dL dE dC dQ dG dD dN : FuncData} (N : En4 P w K mg base CL CT fBegins fWords fStep fNeed fName fDoor fNum dBegins dWords dStep dNeed dName dDoor dNum) (C : ClP K CP) (CC : ClT K Pt) (F : FunT K "__init__" "Part.__init__" s_Part___init__ f fd c) (TB1 : GxR.TabB base mg c TB)
    (TW : Er K mg "BadWorths" CW fE) (GE : FnOk P w K mg base CX0 1 fE dE ["self", "value"] (spErr K)) (bE : Binds K dE ["self", "value"] [])
    (Dw : Df K mg "is_worths" s_is_worths fW dW ["value"]) (Gw : FnOk P w K mg base CX0 2 fW dW ["value"] spIsWorths)
    (ML : Mk K CL fL) (gL : mg "Lines" = some (.ref CL)) (bL : Binds K dL ["self", "text"] []) (GL : FnOk P w K mg base (L2.CX P w) 4 fL dL ["self", "text"] (spLinesInit CL CT))
    (Dc : Df K mg "read_cells" s_read_cells fC dC ["lines", "worths"]) (Gc : FnOk P w K mg base (L2.CX P w) 5 fC dC ["lines", "worths"] (spCells CL CT))
    (Dq : Df K mg "read_ports" s_read_ports fQ dQ ["lines"]) (Gq : FnOk P w K mg base (L2.CX P w) 5 fQ dQ ["lines"] (spPorts CL CT))
    (MG : Mk K CP fG) (gG : mg "Program" = some (.ref CP)) (bG : Binds K dG ["self", "lines", "worths", "cells", "ports"] []) (GG : FnOk P w K mg base CX0 1 fG dG ["self", "lines", "worths", "cells", "ports"] (spProgram CP))
    (Dd : Df K mg "read_doors" s_read_doors fD dD ["lines", "program"]) (Gd : FnOk P w K mg base (L2.CX P w) 21 fD dD ["lines", "program"] (spDoors CL CP CT))
    (Me : Mf K CL "need_end" "Lines.need_end" s_Lines_need_end fN dN ["self"]) (Ge : FnOk P w K mg base (L2.CX P w) 5 fN dN ["self"] (spNeedEnd CL CT)) :
    FnOk P w K mg base (L2.CX P w) 22 f fd ["self", "worths", "text"] (spPart TB Pt CT CW) := by
  refine F.okC sc_Part___init__ (fun vs H Q E h => ?_) (fun A0 outer s H vs Q E hr h => ?_)
  · obtain ⟨a, da, x, y, Tx, Ty, rfl, _⟩ := h
    rfl
  · obtain ⟨a, da, x, y, Tx, Ty, rfl, ha, hx, hy, tab, naP, kW, k⟩ := h
    have S := sc_Part___init__
    refine ⟨_, (pss_cons (ps_if (pt_not (pt_val (pe_call Gw (hr.mono (by decide)) (by rfl) Dw.g Dw.F.kp Dw.b .nil pass0 (pa_cons (pv 1) pa_nil))))
        (pss_one (ps_raise rfl (takes_of rfl rfl rfl rfl) (pmk_oex TW.O TW.iC TW.tI GE (hr.mono (by decide)) bE .nil pass0 (by rfl) TW.g (pa_cons (pv 1) pa_nil))))
        pss_nil)
      (pss_cons (ps_set (i := 3) S.nd rfl (.inl rfl) (pe_make ML GL (hr.mono (by decide)) (by rfl) gL bL .nil (pxp rfl rfl rfl rfl) (pa_cons (pv 2) pa_nil)))
      (pss_cons (ps_fld (pv 0) (pv 1) rfl)
      (pss_cons (ps_fld (pv 0) (pv 2) rfl)
      (pss_cons (ps_fld (pv 0) (pe_call Gc (hr.mono (by decide)) (by rfl) Dc.g Dc.F.kp Dc.b .nil (pxp rfl rfl rfl rfl) (pa_cons (pv 3) (pa_cons (pv 1) pa_nil))) rfl)
      (pss_cons (ps_fld (pv 0) (pe_call Gq (hr.mono (by decide)) (by rfl) Dq.g Dq.F.kp Dq.b .nil (pxp rfl rfl rfl rfl) (pa_cons (pv 3) pa_nil)) rfl)
      (pss_cons (ps_set (i := 4) S.nd rfl (.inl rfl) (pe_make MG GG (hr.mono (by decide)) (by rfl) gG bG .nil pass0 (pa_cons (pv 3) (pa_cons (pv 1) (pa_cons (pe_tupPairs hr TB1 rfl ⟨rfl, rfl, by decide +kernel, by decide +kernel, by decide +kernel, fun y hy e => absurd e ((show ∀ y ∈ ([(".0", .local), ("name", .local), ("_", .local)] : List (Str × NameKind)), y.2 ≠ .free by decide +kernel) y hy)⟩ (by decide +kernel) (by decide +kernel) (by decide +kernel) (pe_fld (pv 0) rfl) (fun _ => rfl) (by rfl) N.B.m_tuple) (pa_cons (pe_fld (pv 0) rfl) pa_nil))))))
      (pss_cons (ps_fld (pv 0) (pe_call Gd (hr.mono (by decide)) (by rfl) Dd.g Dd.F.kp Dd.b .nil (pxp rfl rfl rfl rfl) (pa_cons (pv 3) (pa_cons (pv 4) pa_nil))) rfl)
      (pss_cons (ps_expr (pe_meth0 (pv 3) N.L.cl Me.m Ge (hr.mono (by decide)) Me.b .nil (pxp rfl rfl rfl rfl)))
      (pss_cons (ps_fld (pv 0) (pe_tupKeys rfl (by rfl) N.B.m_tuple (pe_fld (pv 0) rfl)) rfl)
      (pss_cons (ps_fld (pv 0) (pe_tupleOf (by rfl) N.B.m_tuple (pe_fld (pv 4) rfl)) rfl)
      (pss_one (ps_fld (pv 0) (pe_fld (pv 4) rfl) rfl))))))))))))), ?_⟩
    have na : ∀ n : Str, n ∈ (["worths", "text", "cells", "ports", "starts", "doors", "steps", "asks"] : List Str) → NoAttr K Pt n := CC.na
    refine (val_call (va_cons (val_var rfl) va_nil) fun Q q => ⟨x, Tx, rfl, hx, q⟩) _ ⟨_, rfl, ?_⟩
    cases hw : worthsOk x with
    | false =>
      refine iteT ?_
      exact raise_run TW.O TW.nv (val_var rfl) (errOf0 (kW hw) (fun b o _ _ e => e) tab)
    | true =>
      refine iteF ?_
      obtain ⟨wn, rfl⟩ : ∃ wn, x = .int wn := by
        cases hx with
        | int i => exact ⟨i, rfl⟩
        | _ => exact absurd (show false = true from hw) Bool.false_ne_true
      obtain ⟨kS, kz⟩ := k wn rfl hw
      dsimp only [tNext, tSeq, tAsg, tDrop]
      refine (val_var rfl) _ ?_
      refine fun l dl nl ndl ne => ?_
      have n0 : (upd H dl (.own l)) l = none := by
        rw [upd_ne ne.symm]
        exact nl
      have sL : Same H (upd (upd H dl (.own l)) l (.ins CL dl [])) := (same_upd ndl).trans (same_upd n0)
      have hlL : (upd (upd H dl (.own l)) l (.ins CL dl [])) l = some (.ins CL dl []) := upd_same
      generalize (upd (upd H dl (.own l)) l (.ins CL dl [])) = HL at sL hlL
      have tabL : GxR.TabG HL TB := by
        obtain ⟨q, h1, h2⟩ := tab
        exact ⟨q, sL _ _ h1, h2⟩
      refine ⟨l, dl, y, Ty, rfl, hlL, hy.mono sL, fun z ez => ?_, fun e => errOf0 (kS e) (fun b o _ _ e => sL b o e) tabL⟩
      obtain ⟨hz, hok, kk⟩ := kz z ez
      refine ⟨hz, fun H1 r sb1 _ li1 => ⟨rfl, ?_⟩⟩
      have s01 : Same H H1 := fun b o e => sb1 b o (ne_of_none e nl) (sL b o e)
      have sz : Sz (rowsOf z) := sz_rows hz hok
      have nla : l ≠ a := (ne_of_none ha nl).symm
      have nlT : l ≠ TB := fun e => by
        obtain ⟨q, h1, _⟩ := tab
        rw [← e, nl] at h1
        cases h1
      dsimp only [gName]
      -- worths, text
      refine fld_new [] (val_var rfl) (val_var rfl) (s01 _ _ ha) CC.cl (na _ (by decide +kernel)) rfl (by decide +kernel) (by decide) fun H2 sb2 a2 => ?_
      refine fld_new ["worths"] (val_var rfl) (val_var rfl) a2 CC.cl (na _ (by decide +kernel)) rfl (by decide +kernel) (by decide) fun H3 sb3 a3 => ?_
      have sb13 := sb2.trans sb3
      have nra : r ≠ a := ne_of li1.r (s01 _ _ ha) (fun e => nomatch e)
      have li3 : LinesAt CL H3 l dl r (rowsOf z) 0 := ⟨sb13 _ _ nla li1.o, sb13 _ _ nra li1.r, li1.le⟩
      have k3 : KeepP a TB H H3 := fun b o _ n2 e => sb13 b o n2 (s01 b o e)
      have tab3 : GxR.TabG H3 TB := by
        obtain ⟨q, h1, h2⟩ := tab
        exact ⟨q, sb13 _ _ naP.symm (s01 _ _ h1), h2⟩
      -- cells
      unfold partR at kk
      dsimp only [tSeq]
      refine fld_via ?_
      dsimp only [tCall, tCons, tNil]
      refine (val_var rfl) _ ?_
      refine (val_var rfl) _ ?_
      refine ⟨hide H3 [l], l, dl, r, rowsOf z, 0, wn, rfl, hide_same, hide_in (by simp), li3, sz, ?_⟩
      cases ec : cellsR (rowsOf z) wn 4 0 [] with
      | error n =>
        rw [ec] at kk
        exact errOf kk k3 tab3 (fun b hb => .inr (by rw [List.mem_singleton.mp hb]; exact nl)) (fun hb => nlT (List.mem_singleton.mp hb).symm)
      | ok p =>
        obtain ⟨n1, cs⟩ := p
        rw [ec] at kk
        dsimp only at kk
        intro H4 ct ts s4 li4 _ hct hts lcs
        have f4 : ∀ b o, b ≠ l → H3 b = some o → H4 b = some o := fun b o n e => s4 b o (by rw [hide_out (fun q => n (List.mem_singleton.mp q))]; exact e)
        refine fld_new ["worths", "text"] val_c (val_var rfl) (f4 _ _ nla.symm a3) CC.cl (na _ (by decide +kernel)) rfl (by decide +kernel) (by decide) fun H5 sb5 a5 => ?_
        have k5 : KeepP a TB H H5 := fun b o n1 n2 e => sb5 b o n2 (f4 b o (ne_of_none e nl) (k3 b o n1 n2 e))
        have tab5 : GxR.TabG H5 TB := by
          obtain ⟨q, h1, h2⟩ := tab3
          exact ⟨q, sb5 _ _ naP.symm (f4 _ _ nlT.symm h1), h2⟩
        have f4b : ∀ b o, H4 b = some o → (∀ d f, o ≠ .ins Pt d f) → H5 b = some o := fun b o e n => sb5 b o (ne_of e (f4 _ _ nla.symm a3) fun q => n _ _ q) e
        have hct5 := f4b _ _ hct (fun d f e => nomatch e)
        have hts5 : Pairs H5 ts cs := pairs_to hts fun b zs e => f4b _ _ e (fun d f => tup_ne)
        have li5 : LinesAt CL H5 l dl r (rowsOf z) n1 := ⟨sb5 _ _ nla li4.o, sb5 _ _ nra li4.r, li4.le⟩
        clear hct hts li4 f4b
        -- ports
        dsimp only [tSeq]
        refine fld_via ?_
        dsimp only [tCall, tCons, tNil]
        refine (val_var rfl) _ ?_
        refine ⟨hide H5 [l], l, dl, r, rowsOf z, n1, rfl, hide_same, hide_in (by simp), li5, sz, ?_⟩
        cases ep : portsR (rowsOf z) 3 n1 [] with
        | error n =>
          rw [ep] at kk
          exact errOf kk k5 tab5 (fun b hb => .inr (by rw [List.mem_singleton.mp hb]; exact nl)) (fun hb => nlT (List.mem_singleton.mp hb).symm)
        | ok p =>
          obtain ⟨n2, ps⟩ := p
          rw [ep] at kk
          dsimp only at kk
          intro H6 pt s6 li6 _ hpt lps
          have f6 : ∀ b o, b ≠ l → H5 b = some o → H6 b = some o := fun b o n e => s6 b o (by rw [hide_out (fun q => n (List.mem_singleton.mp q))]; exact e)
          refine fld_new ["worths", "text", "cells"] val_c (val_var rfl) (f6 _ _ nla.symm a5) CC.cl (na _ (by decide +kernel)) rfl (by decide +kernel) (by decide) fun H7 sb7 a7 => ?_
          have k7 : KeepP a TB H H7 := fun b o n1 n2 e => sb7 b o n2 (f6 b o (ne_of_none e nl) (k5 b o n1 n2 e))
          have f6b : ∀ b o, H6 b = some o → (∀ d f, o ≠ .ins Pt d f) → H7 b = some o := fun b o e n => sb7 b o (ne_of e (f6 _ _ nla.symm a5) fun q => n _ _ q) e
          have f6c : ∀ b o, H5 b = some o → (∀ d f, o ≠ .ins Pt d f) → (∀ d f, o ≠ .ins CL d f) → H7 b = some o := fun b o e n n2 => f6b b o (f6 b o (ne_of e li5.o fun q => n2 _ _ q) e) n
          have tab7 : GxR.TabG H7 TB := by
            obtain ⟨q, h1, h2⟩ := tab5
            exact ⟨q, f6c _ _ h1 (fun d f e => nomatch e) (fun d f e => nomatch e), h2⟩
          have hct7 := f6c _ _ hct5 (fun d f e => nomatch e) (fun d f e => nomatch e)
          have hts7 : Pairs H7 ts cs := pairs_to hts5 fun b zs e => f6c _ _ e (fun d f => tup_ne) (fun d f => tup_ne)
          have hpt7 := f6b _ _ hpt (fun d f e => nomatch e)
          have li7 : LinesAt CL H7 l dl r (rowsOf z) n2 := ⟨sb7 _ _ nla li6.o, sb7 _ _ nra li6.r, li6.le⟩
          clear hct5 hts5 hpt li6 f6b f6c
          -- the program
          dsimp only [tSeq]
          dsimp only [tAsg, tMake, tCall, tCons, tNil]
          refine (val_var rfl) _ ?_
          refine (val_var rfl) _ ?_
          have a7' : H7 a = some (.ins Pt da [("worths", .int wn), ("text", y), ("cells", .ref ct), ("ports", .ref pt)]) := a7
          refine (val_fld (val_var rfl) a7' CC.cl (na "cells" (by decide +kernel)) ((lk_tl (by decide +kernel)).trans ((lk_tl (by decide +kernel)).trans lk_hd))) _ ?_
          refine ⟨ct, ts, cs, rfl, hct7, hts7, tab7, Nat.le_trans lcs (by decide), fun H8 H9 nt tb8 s89 _ ft9 => ?_⟩
          have f79 : ∀ b o, H7 b = some o → (∀ q, o ≠ .tbl q) → H9 b = some o := fun b o e n => by
            have nb : b ≠ TB := fun q => by
              obtain ⟨qq, h1, _⟩ := tab7
              rw [q, h1] at e
              exact n _ (Option.some.inj e).symm
            refine s89 _ _ ?_
            rw [tb8.2 b nb]
            exact e
          have k9 : KeepP a TB H H9 := fun b o n1 n2 e => s89 _ _ (by rw [tb8.2 b n1]; exact k7 b o n1 n2 e)
          have tab9 : GxR.TabG H9 TB := by
            obtain ⟨⟨q, h1, h2⟩, _⟩ := tb8
            exact ⟨q, s89 _ _ h1, h2⟩
          have a9 := f79 _ _ a7' (fun q e => nomatch e)
          have hct9 := f79 _ _ hct7 (fun q e => nomatch e)
          have hpt9 := f79 _ _ hpt7 (fun q e => nomatch e)
          have hts9 : Pairs H9 ts cs := pairs_to hts7 fun b zs e => f79 _ _ e (fun q e => nomatch e)
          have li9 : LinesAt CL H9 l dl r (rowsOf z) n2 := ⟨f79 _ _ li7.o (fun q e => nomatch e), f79 _ _ li7.r (fun q e => nomatch e), li7.le⟩
          clear hct7 hpt7 hts7 li7 f79 a7 a7'
          refine (val_fld (val_var rfl) a9 CC.cl (na "ports" (by decide +kernel)) ((lk_tl (by decide +kernel)).trans ((lk_tl (by decide +kernel)).trans ((lk_tl (by decide +kernel)).trans lk_hd)))) _ ?_
          refine fun g dg ng ndg neg => ?_
          have g0 : (upd H9 dg (.own g)) g = none := by
            rw [upd_ne neg.symm]
            exact ng
          have sG : Same H9 (upd (upd H9 dg (.own g)) g (.ins CP dg [])) := (same_upd ndg).trans (same_upd g0)
          have hgG : (upd (upd H9 dg (.own g)) g (.ins CP dg [])) g = some (.ins CP dg []) := upd_same
          generalize (upd (upd H9 dg (.own g)) g (.ins CP dg [])) = HG at sG hgG
          refine ⟨l, g, dg, nt, pt, wn, rfl, hgG, fun H10 st ak sb10 nst nak hg10 hst10 hak10 => ⟨rfl, ?_⟩⟩
          dsimp only [gName]
          have f10 : ∀ b o, H9 b = some o → H10 b = some o := fun b o e => sb10 b o (ne_of_none e ng) (sG b o e)
          have ng9 : ∀ b o, H9 b = some o → b ≠ l → b ∉ [l, g, st, ak] := fun b o e nl hb => by
            simp only [List.mem_cons, List.not_mem_nil, or_false] at hb
            rcases hb with q | q | q | q
            · exact nl q
            · exact ne_of_none e ng q
            · exact ne_of_none (sG _ _ e) nst q
            · exact ne_of_none (sG _ _ e) nak q
          have ft10 := ft9.mono f10
          have li10 : LinesAt CL H10 l dl r (rowsOf z) n2 := li9.mono f10
          have e1 : (cs.map fun (q : Str × Int) => V.str q.1) = (cs.map (·.1)).map V.str := by
            rw [List.map_map]
            rfl
          rw [e1] at ft10
          have pw : Wd CL CP ⟨l, dl, r, g, dg, nt, pt, st, ak⟩ ⟨rowsOf z, wn, cs.map (·.1), ps⟩ (hide H10 [l, g, st, ak]) H10 n2 0 [] [] := {
            s0 := hide_same
            l0 := hide_in (by simp)
            g0 := hide_in (by simp)
            st0 := hide_in (by simp)
            ak0 := hide_in (by simp)
            lg := ne_of_none li9.o ng
            li := li10
            pg := hg10
            ct := ft10
            pt := f10 _ _ hpt9
            st := hst10
            sx := fun x hx => nomatch hx
            ak := hak10
            rst := ne_of_none (sG _ _ li9.r) nst }
          have k10 : KeepP a TB H H10 := fun b o n1 n2 e => f10 _ _ (k9 b o n1 n2 e)
          have tab10 : GxR.TabG H10 TB := by
            obtain ⟨q, h1, h2⟩ := tab9
            exact ⟨q, f10 _ _ h1, h2⟩
          have tb9 := tab9
          -- the doors
          dsimp only [tSeq]
          refine fld_via ?_
          dsimp only [tCall, tCons, tNil]
          refine (val_var rfl) _ ?_
          refine (val_var rfl) _ ?_
          refine ⟨⟨l, dl, r, g, dg, nt, pt, st, ak⟩, ⟨rowsOf z, wn, cs.map (·.1), ps⟩, hide H10 [l, g, st, ak], n2, rfl, pw, ⟨sz, by rw [List.length_map]; exact lcs, lps⟩, ?_⟩
          have hL : ∀ b ∈ [l, g, st, ak], b = a ∨ H b = none := fun b hb => by
            cases e : H b with
            | none => exact .inr rfl
            | some o =>
              by_cases c1 : b = a
              · exact .inl c1
              · by_cases c2 : b = TB
                · obtain ⟨q, h1, _⟩ := tb9
                  rw [← c2] at h1
                  exact absurd hb (ng9 b _ h1 (fun z => by rw [z, nl] at e; cases e))
                · exact absurd hb (ng9 b _ (k9 b o c2 c1 e) (fun z => by rw [z, nl] at e; cases e))
          have hP : TB ∉ [l, g, st, ak] := by
            obtain ⟨q, h1, _⟩ := tb9
            exact ng9 _ _ h1 nlT.symm
          cases ed : doorsR ⟨rowsOf z, wn, cs.map (·.1), ps⟩ 4 n2 0 [] with
          | error n =>
            rw [ed] at kk
            exact errOf kk k10 tab10 hL hP
          | ok p =>
            obtain ⟨n3, ds⟩ := p
            rw [ed] at kk
            dsimp only at kk
            intro H11 m xs kvs sd cs2 p11 lxs _ hsd hds lds _
            have f11 : ∀ b o, b ≠ l → H9 b = some o → H11 b = some o := fun b o nl2 e => p11.s0 _ _ (by rw [hide_out (ng9 b o e nl2)]; exact f10 _ _ e)
            have a11 := f11 _ _ nla.symm a9
            have gna : g ≠ a := (ne_of_none a9 ng).symm
            have hds2 : (dOf V.int cs2).map (fun q => kV q.1) = ds.map V.str := by
              rw [← hds]
              unfold dOf
              rw [List.map_map, List.map_map]
              rfl
            refine fld_new ["worths", "text", "cells", "ports"] val_c (val_var rfl) a11 CC.cl (na _ (by decide +kernel)) rfl (by decide +kernel) (by decide) fun H12 sb12 a12 => ?_
            have li12 : LinesAt CL H12 l dl r (rowsOf z) n3 := ⟨sb12 _ _ nla p11.li.o, sb12 _ _ nra p11.li.r, p11.li.le⟩
            have k11 : KeepP a TB H H11 := fun b o n1 n2 e => f11 _ _ (fun q => by rw [q, nl] at e; cases e) (k9 b o n1 n2 e)
            have tab11 : GxR.TabG H11 TB := by
              obtain ⟨q, h1, h2⟩ := tb9
              exact ⟨q, f11 _ _ nlT.symm h1, h2⟩
            dsimp only [tSeq, tDrop]
            refine meth0_run (val_var rfl) li12.o (lf_no (by decide +kernel) (by decide +kernel)) ?_
            refine ⟨l, dl, r, rowsOf z, n3, rfl, li12, fun e => ?_, fun e => ?_⟩
            · rw [if_pos e] at kk
              refine fld_via ?_
              have a12' : H12 a = some (.ins Pt da [("worths", .int wn), ("text", y), ("cells", .ref ct), ("ports", .ref pt), ("starts", .ref sd)]) := a12
              refine (val_fld (val_var rfl) a12' CC.cl (na "starts" (by decide +kernel)) ((lk_tl (by decide +kernel)).trans ((lk_tl (by decide +kernel)).trans ((lk_tl (by decide +kernel)).trans ((lk_tl (by decide +kernel)).trans lk_hd))))) _ ?_
              refine ⟨sd, _, rfl, sb12 _ _ (ne_of hsd a11 (fun e => nomatch e)) hsd, fun dt ndt => ?_⟩
              rw [hds2]
              have s13 := same_upd (o := .tup (ds.map V.str)) ndt
              have dt13 : (upd H12 dt (.tup (ds.map V.str))) dt = some (.tup (ds.map V.str)) := upd_same
              generalize (upd H12 dt (.tup (ds.map V.str))) = H13 at s13 dt13
              have nda : dt ≠ a := (ne_of_none a12' ndt).symm
              refine fld_new ["worths", "text", "cells", "ports", "starts"] val_c (val_var rfl) (s13 _ _ a12') CC.cl (na _ (by decide +kernel)) rfl (by decide +kernel) (by decide) fun H14 sb14 a14 => ?_
              have f14 : ∀ b o, b ≠ a → H11 b = some o → H14 b = some o := fun b o n e => sb14 b o n (s13 _ _ (sb12 b o n e))
              dsimp only [tSeq]
              refine fld_via ?_
              refine (val_fld (val_var rfl) (f14 _ _ gna p11.pg) C.cl C.steps pf_steps) _ ?_
              refine .inl ⟨st, xs, rfl, SqL.of (f14 _ _ (ne_of p11.st a11 (fun e => nomatch e)) p11.st), fun q nq => ?_⟩
              have s15 := same_upd (o := .tup xs) nq
              generalize (upd H14 q (.tup xs)) = H15 at s15
              refine fld_new ["worths", "text", "cells", "ports", "starts", "doors"] val_c (val_var rfl) (s15 _ _ a14) CC.cl (na _ (by decide +kernel)) rfl (by decide +kernel) (by decide) fun H16 sb16 a16 => ?_
              have f16 : ∀ b o, b ≠ a → H11 b = some o → H16 b = some o := fun b o n e => sb16 b o n (s15 _ _ (f14 b o n e))
              refine fld_new ["worths", "text", "cells", "ports", "starts", "doors", "steps"] (val_fld (val_var rfl) (f16 _ _ gna p11.pg) C.cl C.asks pf_asks) (val_var rfl) a16 CC.cl (na _ (by decide +kernel)) rfl (by decide +kernel) (by decide) fun H17 sb17 a17 => ?_
              have f17 : ∀ b o, b ≠ a → H11 b = some o → H17 b = some o := fun b o n e => sb17 b o n (f16 b o n e)
              have t17 : ∀ b zs, H9 b = some (.tup zs) → H17 b = some (.tup zs) := fun b zs e => f17 b _ (ne_of e a9 tup_ne) (f11 _ _ (ne_of e li9.o tup_ne) e)
              refine kk H17 ct pt sd dt q ak ts (fun b o n1 n2 e => f17 b o n2 (k11 b o n1 n2 e)) ?_ a17 (t17 _ _ hct9) (pairs_to hts9 t17) (t17 _ _ hpt9) ?_
              · obtain ⟨q2, h1, h2⟩ := tab11
                exact ⟨q2, f17 _ _ naP.symm h1, h2⟩
              · exact sb17 _ _ nda (sb16 _ _ nda (s15 _ _ (sb14 _ _ nda dt13)))
            · rw [if_neg e] at kk
              refine errOf0 kk (fun b o n1 n2 e => sb12 b o n2 (k11 b o n1 n2 e)) ?_
              obtain ⟨q2, h1, h2⟩ := tab11
              exact ⟨q2, sb12 _ _ naP.symm h1, h2⟩
end
end K5
namespace K5
open PySem PySem.Spec PyProof.Rows L2
/-! ### an error that is kept behind its suite -/
/-- an error of the class cls, its dict at d, at a -/
def ExK (cls : Value) (d : Option Addr) (a : Addr) : HO := .ext fun h => ∃ (oe : Obj) (vs : Array Value), h.get? a = some oe ∧ Zc cls d oe ∧ oe.data = .fields vs
theorem exK_ok {P : Program} {w : World} {H : Hp} {h : Heap} {a : Addr} {cls : Value} {d : Option Addr} {oe : Obj} {vs : Array Value} (e : h.get? a = some oe) (z : Zc cls d oe) (f : oe.data = .fields vs) : ObjOk P w H h a (ExK cls d a) :=
  ⟨⟨oe, vs, e, z, f⟩, ⟨oe, e⟩, fun h1 h2 ⟨o1, v1, q1, q2, q3⟩ k => ⟨o1, v1, k _ q1, q2, q3⟩⟩
section
variable {X : Cx} {pins : List (Addr × Obj)} {σ σ' : L2.St} {H H' : Hp} {s sI : Shared}
/-- what came since J may be laid on the ledger -/
theorem track {a : Addr} {o : HO} (I : Inv X pins σ H s) (J : Inv X pins σ' H' sI) (new : sI.heap.get? a = none) (hx : X.ex = []) (hn : H a = none) (nL : a ≠ X.env.locals) (ok : ObjOk X.prog X.w (upd H a o) s.heap a o) : Inv X pins σ (upd H a o) s := by
  have old : ∀ b u, X.s_0.heap.get? b = some u → b ≠ a := fun b u e z => by
    obtain ⟨u2, e2⟩ := J.base.there b u e (by rw [hx]; exact List.not_mem_nil)
    rw [z, new] at e2
    cases e2
  have kp : ∀ b u, H b = some u → upd H a o b = some u := fun b u e => by
    rw [upd_ne (ne_of_none e hn)]
    exact e
  refine ⟨I.ok, I.os, I.bare, ⟨I.base.keep, I.base.slot, fun b u e n x => ?_, I.base.there, fun b xs e => kp _ _ (I.base.tups b xs e), fun b u v e => kp _ _ (I.base.frzs b u v e), fun b ps e => ?_⟩, I.loc, I.cell, ?_, fun x c e => ?_, fun p hp => ?_, fun b u e => ?_, I.len⟩
  · rw [upd_ne (old b u e)]
    exact I.base.free b u e n x
  · obtain ⟨more, e2⟩ := I.base.tbls b ps e
    exact ⟨more, kp _ _ e2⟩
  · rw [upd_ne nL.symm]
    exact I.free
  · have nc : c ≠ a := fun z => by
      obtain ⟨v, hv⟩ := J.cell x c e
      rw [z] at hv
      obtain ⟨ob, h1, _⟩ := hv
      rw [new] at h1
      cases h1
    rw [upd_ne nc]
    exact I.freeC x c e
  · obtain ⟨e1, e2, e3⟩ := I.pin p hp
    have np : p.1 ≠ a := fun z => by
      obtain ⟨q1, _⟩ := J.pin p hp
      rw [z, new] at q1
      cases q1
    rw [upd_ne np]
    exact ⟨e1, e2, e3⟩
  · by_cases c : b = a
    · subst c
      rw [upd_same] at e
      cases e
      exact ok
    · rw [upd_ne c] at e
      exact (I.hok b u e).stay (fun c v _ q => q) (fun c q => kp _ _ q) fun c xs q => kp _ _ q
end
end K5
namespace K5
open PySem PySem.Spec PyProof.Rows L2
/-- what the clause 'except x as n' wishes, whose suite runs through; the error stays known behind it -/
def wKeep (K : PySem.W.Frag) (c : Value) (i : Nat) (ts : Addr → Value → Option Addr → TS) (Wout : WX) (D : Ends) : WX := fun cls d σ H =>
  ∃ b, PySem.W.exmOne K cls c = some b ∧
    (b = true → ∀ a, H a = none → ts a cls d { nx := fun σ' H' => D.nx (σ'.set i none) (upd H' a (ExK cls d a)), rt := fun _ _ => False, bk := fun _ _ => False, ct := fun _ _ => False } (σ.set i (some (.ref a))) H) ∧
    (b = false → Wout cls d σ H)
section
variable {X : Cx} {x n : Str} {c : Value} {i : Nat} {body suite : List Stmt} {b0 : Stmt} {np pos pos' : Pos} {tb : WX → TS} {ts : Addr → Value → Option Addr → TS} {Wout : WX}
theorem ps_try_keep (hs : X.stack = X.env :: X.outer) (hf : X.env.frame = some X.env.locals) (hex : X.ex = []) (nodup : X.N.Nodup) (at1 : X.N[i]? = some n) (loc1 : X.env.kindOf n = some .local) (names : Names X x c) (tk : Takes X Wout)
    (bodyOk : ∀ (W : WX) (pn : List (Addr × Obj)) (xe : Value → Shared → Prop), Takes (X.tr pn xe) W → PassesOwn (model X.prog X.w) X.A X.env xe → PSs (X.tr pn xe) body (tb W))
    (suiteOk : ∀ (a : Addr) (oe : Obj) (cls : Value) (d : Option Addr) (pn : List (Addr × Obj)), Zc cls d oe → (∃ vs, oe.data = .fields vs) → PSs (X.suite a ((a, oe) :: pn)) (b0 :: suite) (ts a cls d)) :
    PS X (.Try body [.ExceptHandler (some (.Name x np)) (some n) (b0 :: suite) pos'] [] [] pos) (fun D σ H => tb (wKeep X.K c i ts Wout D) D σ H) := by
  refine ⟨fun pins s σ H D I h => ?_⟩
  have okX := I.ok
  have frames : X.A.frames = some (X.env :: X.outer) := by
    rw [okX.frames, hs]
  refine wpAny_Try_except ?_
  -- what the body lets out is looked at by the clause
  let out : Value → Shared → Prop := fun e s1 => wpAny (model X.prog X.w) X.A (noteFrame e X.env) (fun _ s2 => wpAny (model X.prog X.w) X.A (setFlight e none) (fun _ s3 =>
    wpAny (model X.prog X.w) X.A (handleBy e X.env [.ExceptHandler (some (.Name x np)) (some n) (b0 :: suite) pos']) (SP X pins D) X.xe s3) X.xe s2) X.xe s1
  have catches : Takes (X.tr (X.pn ++ pins) out) (wKeep X.K c i ts Wout D) := fun u s' raised => by
    obtain ⟨a, B, sI, pins1, σ1, H1, cls, d, rfl, J0, kept, up, sky, na, os1, ag, b, isb, yes, no⟩ := raised
    have J : Inv X pins σ1 H1 sI := J0.ofTry okX
    have sky1 : Sky B (X.env :: X.outer) a (Zc cls d) X.env.locals s'.heap := by
      rw [← hs]
      exact sky
    show wpAny (model X.prog X.w) X.A (noteFrame (.ref a) X.env) _ _ _
    refine Sky.land Zc.steady frames hf sky1 fun hA flA upA => ?_
    have JA : Inv X pins σ1 H1 { s' with heap := hA } := J.landed kept flA.1 (up.trans upA) os1 ag
    obtain ⟨oA, vA, eA, zA, dA⟩ := flA.there
    -- it is no frame
    have noFrame : a ∉ frs (X.env :: X.outer) := fun q => by
      obtain ⟨_, o2, e2, nf⟩ := flA.2.2.1.mem q
      rw [eA] at e2
      cases e2
      exact nf _ dA
    have nL : a ≠ X.env.locals := fun q => noFrame (List.mem_filterMap.mpr ⟨X.env, List.mem_cons_self, by rw [hf, q]⟩)
    have nF : a ∉ X.fs := fun q => by
      obtain ⟨e, h1, h2⟩ := List.mem_filterMap.mp q
      exact noFrame (List.mem_filterMap.mpr ⟨e, List.mem_cons_of_mem _ h1, h2⟩)
    -- it is new
    have new : sI.heap.get? a = none := by
      cases e : sI.heap.get? a with
      | none => rfl
      | some o =>
        have q := kept a o e (by rw [hs]; exact noFrame)
        rw [flA.2.1] at q
        cases q
    have SA := JA.suite eA dA na nL nF
    refine wpAny_handleBy_cons (codeAny_handlers_test ?_) (fun q => nomatch q)
    have tyA : PySem.W.Looks (model X.prog X.w) hA (typeOf (.ref a)) cls := fun A Q E s k q => wpAny_typeOf_ref (k _ _ eA) (by rw [zA.1]; exact q)
    have asks := PySem.W.exm_one (M := model X.prog X.w) (JA.kIn) tyA isb
    have named : ∀ {Q : Value → Shared → Prop} {E : Value → Shared → Prop}, Q c { s' with heap := hA } → wpAny (model X.prog X.w) (X.A.mark (some (.ref a))) (eval (.Name x np) X.env) Q E { s' with heap := hA } := fun {Q E} q => by
      obtain ⟨g1, g2, g3 | ⟨g3, g4, g5⟩⟩ := names
      · exact ld_glob (X := X.suite a ((a, oA) :: (X.pn ++ pins))) SA g1 g3 q g2
      · exact ld_blt (X := X.suite a ((a, oA) :: (X.pn ++ pins))) SA g1 g3 g4 q g5 g2
    refine named (asks.here ?_)
    cases b with
    | true =>
      refine codeAny_handlers_suite_as ?_
      refine HandSPX.lands_againZ flA fun hB flB upB => ?_
      have JB : Inv X pins σ1 H1 { s' with heap := hB } := J.landed kept flB.1 ((up.trans upA).trans upB) os1 ag
      obtain ⟨oB, vB, eB, zB, dB⟩ := flB.there
      refine store_ok (X := X.suite a ((a, oB) :: (X.pn ++ pins))) (v := .ref a) (JB.suite eB dB na nL nF) nodup at1 (.inl loc1) rfl (fun s5 S5 => ?_) (.inr loc1)
      refine wpAny_mono ((suiteOk a oB cls d (X.pn ++ pins) zB ⟨_, dB⟩).run [] s5 _ H1 _ S5 (yes rfl a na)) (fun f s6 done => ?_) (fun _ _ z => False.elim z)
      cases f with
      | next =>
        obtain ⟨σ6, H6, S6, q6⟩ := done
        obtain ⟨p1, p2, _⟩ := S6.pin (a, oB) (List.mem_append_left _ List.mem_cons_self)
        have laid : Inv X pins σ6 (upd H6 a (ExK cls d a)) s6 := track (S6.unsuite okX) J new hex p2 nL (exK_ok p1 zB dB)
        exact gone_ok laid nodup at1 loc1 fun s7 J7 => ⟨_, _, J7, q6⟩
      | brk =>
        obtain ⟨_, _, _, z⟩ := done
        exact z.elim
      | cont =>
        obtain ⟨_, _, _, z⟩ := done
        exact z.elim
      | ret u =>
        obtain ⟨_, _, _, _, _, z⟩ := done
        exact z.elim
    | false =>
      show wpAny _ X.A (handleBy (.ref a) X.env []) _ _ _
      refine wpAny_handleBy_nil ?_
      obtain ⟨oC, vC, tr, _, _, eC, _, dC, at3, _⟩ := flA.2.2.2
      unfold PySem.passOn
      refine wpAny_bind (wpAny_field eC dC at3 ?_)
      rw [if_neg (show ¬ ((Value.ref tr == Value.none) = true) from by simp)]
      have on : wpAny (model X.prog X.w) X.A (setFlight (.ref a) X.env.frame) (fun _ s4 => wpAny (model X.prog X.w) X.A (throw (.ref a) : Sem Flow) (SP X pins D) X.xe s4) X.xe { s' with heap := hA } := by
        rw [hf]
        refine HandSPX.setFlight_upZ flA fun hC held upC => wpAny_throw (tk _ _ ?_)
        exact ⟨a, B, sI, pins, σ1, H1, cls, d, rfl, J, kept, (up.trans upA).trans upC, .inr (.inr (by rw [hs]; exact held)), na, os1, ag, no rfl⟩
      first
        | exact wpAny_bind (wpAny_pure (wpAny_bind on))
        | exact wpAny_bind on
  refine wpAny_mono ((bodyOk (wKeep X.K c i ts Wout D) (X.pn ++ pins) out catches PassesOwn.looking).run [] s σ H D (I.toTry _) h) (fun f s1 done => ?_) (fun e s1 z => z)
  cases f with
  | next =>
    obtain ⟨σ2, H2, J2, q⟩ := done
    exact wpAny_execs_nil ⟨σ2, H2, J2.ofTry okX, q⟩
  | brk =>
    obtain ⟨σ2, H2, J2, q⟩ := done
    exact ⟨σ2, H2, J2.ofTry okX, q⟩
  | cont =>
    obtain ⟨σ2, H2, J2, q⟩ := done
    exact ⟨σ2, H2, J2.ofTry okX, q⟩
  | ret u =>
    obtain ⟨v2, σ2, H2, J2, r2, q⟩ := done
    exact ⟨v2, σ2, H2, J2.ofTry okX, r2, q⟩
end
end K5
namespace K5
open PySem PySem.Spec PyProof.Rows L2
/-- isinstance(e, c), e a kept error that has its dict -/
def rIsK (K : PySem.W.Frag) : List V → Hp → VK → Prop := fun xs H Q => ∃ (a D dd : Addr) (fs : List (Str × V)) (c : V) (cv : Value) (b : Bool), xs = [.ref a, c] ∧ H a = some (ExK (.ref D) (some dd) a) ∧ H dd = some (.xd fs) ∧ ExcC K D ∧ (∀ u, RelV c u → u = cv) ∧ PySem.W.kitOne K (.ref D) cv = some b ∧ Q (.bl b) H
theorem inst_kept {X : Cx} {pins : List (Addr × Obj)} {σ : L2.St} {H : Hp} {s : Shared} {a D dd : Addr} {fs : List (Str × V)} (I : Inv X pins σ H s) (h1 : H a = some (ExK (.ref D) (some dd) a)) (h2 : H dd = some (.xd fs)) :
    ∃ oe od mA, PySem.W.InstAt s.heap a oe D (some od) ∧ s.heap.get? dd = some od ∧ s.heap.Ns1 dd mA ∧ ∀ f, RelO (fs.lookup f) (mA f) := by
  obtain ⟨⟨oe, vs, e, z, f⟩, _⟩ := (show ObjOk X.prog X.w H s.heap a (ExK (.ref D) (some dd) a) from I.hok a _ h1)
  obtain ⟨mA, hns, hr⟩ := (show ObjOk X.prog X.w H s.heap dd (.xd fs) from I.hok dd _ h2)
  obtain ⟨od, ho, _⟩ := lookIn_ns hns
  refine ⟨oe, od, mA, ⟨e, z.1, ?_, ?_⟩, ho, hns, hr⟩
  · unfold PySem.W.notCls
    rw [f]
  · rw [z.2]
    exact ho
theorem call_isK {X : Cx} : CallR X (.builtin "isinstance") (rIsK X.K) := by
  intro pins s σ H xs us Q I r h
  obtain ⟨a, D, dd, fs, c, cv, b, rfl, h1, h2, C, hcv, hb, q⟩ := h
  cases r with
  | cons rx rr =>
    cases rr with
    | cons rt rr =>
      cases rr
      cases rx
      have ec := hcv _ rt
      subst ec
      obtain ⟨oe, od, _, J, _⟩ := inst_kept I h1 h2
      have hcl : (PySem.W.clsIn X.K D).isSome = true := by
        obtain ⟨cd, e, _⟩ := PySem.W.any_some C.hd
        rw [e]
        rfl
      exact PySem.W.kia_one (PySem.W.kitx_exc hcl C.hg C.hk C.hs C.ha C.hn C.ht C.hm) I.kIn J hb (fun z => nomatch z) fun tk => ⟨.bl b, H, I.kept (t' := tk) fun _ _ z => z, rfl, q⟩
/-- e.n, e a kept error -/
def tXk (K : PySem.W.Frag) (n : Str) (te : TE) : TE := fun σ H Q => te σ H fun x H1 => ∃ (a C dd : Addr) (fs : List (Str × V)) (v : V), x = .ref a ∧ H1 a = some (ExK (.ref C) (some dd) a) ∧ H1 dd = some (.xd fs) ∧ XfC K C ∧ PySem.W.findIn K (.ref C) n = some none ∧ fs.lookup n = some v ∧ Q v H1
theorem pe_xk {X : Cx} {e : Expr} {te : TE} {pos : Pos} {n : Str} (he : PE X e te) (hb : attributeBase e n X.env (eval e X.env) = eval e X.env := by rfl) : PE X (.Attribute e n pos) (tXk X.K n te) := by
  refine ⟨fun pins s σ H Q I h => ?_⟩
  refine attr_of hb (thn (he.run pins s σ H _ I h) fun u s1 hh => ?_)
  obtain ⟨x, H1, I1, rx, a, C, dd, fs, v, ex, h1, h2, T, hno, l, q⟩ := hh
  subst ex
  obtain rfl : u = Value.ref a := rx
  obtain ⟨oe, od, mA, J, ho, hns, hr⟩ := inst_kept I1 h1 h2
  obtain ⟨od2, ho2, hl⟩ := lookIn_ns hns
  rw [ho] at ho2
  cases ho2
  obtain ⟨u, hu, ru⟩ := RelO.some_of (v := v) (o := mA n) (by rw [← l]; exact hr n)
  exact HandSPX.exc_get I1.kIn J T.ga T.gg T.exC (PySem.W.findObj_own T.hdC hno rfl (by rw [hl, hu])) (handed_of ru) ⟨v, H1, I1.tok _, ru, q⟩
end K5
namespace K5
open PySem PySem.Spec PyProof.Rows L2
/-- what may be known of the slots may be forgotten -/
theorem forget {X : Cx} {pins : List (Addr × Obj)} {σ : L2.St} {H : Hp} {s : Shared} (I : Inv X pins σ H s) : Inv X pins (List.replicate X.N.length none) H s := by
  obtain ⟨m, h1, _⟩ := I.loc
  refine ⟨I.ok, I.os, I.bare, I.base, ⟨m, h1, fun i x v _ e _ => ?_⟩, I.cell, I.free, I.freeC, I.pin, I.hok, List.length_replicate⟩
  rw [List.getElem?_replicate] at e
  split at e
  · cases e
  · cases e
theorem passes_forget {X : Cx} {W : WX} (k : Nat) (hk : X.N.length = k) (tk : Takes X W) : Passes (L2.CX X.prog X.w) X (fun cls d H => W cls d (List.replicate k none) H) := fun _ _ _ _ e s' I c => by
  subst hk
  exact tk e s' (XE.of_call (forget I) (fun _ _ _ h => h) c)
/-- xs.count(y) of flat things -/
def rCntF (K : PySem.W.Frag) : V → List V → Hp → VK → Prop := fun x xs H Q => ∃ (a : Addr) (ys : List V) (y : V), x = V.ref a ∧ xs = [y] ∧ SqL K H a ys ∧ flatV y = true ∧ ys.all flatV = true ∧ Q (.int ((ys.countP fun z => eqV z y : Nat) : Int)) H
theorem count_flat {y : V} : ∀ {ys : List V} {us : List Value}, Vals ys us → ys.all flatV = true → us.countP (eqU y) = ys.countP fun z => eqV z y
  | _, _, .nil, _ => rfl
  | z :: ys, u :: us, .cons r t, f => by
    rw [List.all_cons, Bool.and_eq_true] at f
    rw [List.countP_cons, List.countP_cons, count_flat t f.2, eqU_of r f.1]
theorem mt_cntF {X : Cx} : MtR X "list.count" (rCntF X.K) := by
  intro pins s σ H x xs v us Q I rx rxs h
  obtain ⟨a, ys, y, rfl, rfl, hs, fy, fys, q⟩ := h
  cases rx
  obtain ⟨uy, rfl, ry⟩ := rxs.one
  obtain ⟨things, rvs, ⟨⟨cls, dd, data, sl⟩, n, at1, h1, h2, h3⟩, few⟩ := I.list hs
  simp only at h1 h3
  subst h1 h3
  refine call_meets PySem.F.slot_list_count ⟨_, at1, rfl⟩ PySem.F.entry_list_count (PySem.F.args_list_count_2 _ _)
    (SeqAt.list_countAt a things.toArray n dd sl uy (eqU y)) ⟨at1, fun w hw => mem_eqAt ry fy rvs fys w (by simpa using hw), ?_⟩
  have e : things.toArray.toList.countP (eqU y) = ys.countP fun z => eqV z y := count_flat rvs fys
  refine ⟨.int ((ys.countP fun z => eqV z y : Nat) : Int), H, I.tok _, ⟨s.toks, ?_⟩, q⟩
  show Value.int ((things.toArray.toList.countP (eqU y) : Nat) : Int) s.toks = _
  rw [e]
/-! ### what a text is heard to be -/
abbrev s__law_heard : Stmt := topS 30
theorem sc__law_heard : FnScope ["_law_many", "_law_page", "_law_caught", "error", "_law_marks"] ["_law_many", "_law_page"] (defScope s__law_heard) := ⟨rfl, rfl, rfl, by decide +kernel, rfl, by decide +kernel, by decide +kernel⟩
def KeepT (P : Addr) (H H' : Hp) : Prop := ∀ b o, b ≠ P → H b = some o → H' b = some o
def heardV (x y : V) : Str × V := match x with
  | .int w => if worthsOk (.int w) = true then match y with
    | .str z => match partR w (rowsOf z) with
      | .ok _ => ("fine", .non)
      | .error n => ("text", .int n)
    | _ => ("text", .int (-1))
    else ("worths", x)
  | _ => ("worths", x)
def spHeard (P : Addr) : Sp := fun vs H Q _ => ∃ (x y : V) (Tx Ty : String), vs = [x, y] ∧ Kd H x Tx ∧ Kd H y Ty ∧ GxR.TabG H P ∧ (∀ z : Str, y = .str z → z.length ≤ 10000 ∧ PyData.strOk z = true) ∧
  ∀ (H' : Hp) (p : Addr), KeepT P H H' → GxR.TabG H' P → H p = none → H' p = some (.tup [.str (heardV x y).1, (heardV x y).2]) → Q (.ref p) H'
/-- the classes of errors -/
structure ErC (K : PySem.W.Frag) (CE CT CW : Addr) : Prop where
  eT : PySem.W.exmOne K (.ref CT) (.ref CE) = some true
  eW : PySem.W.exmOne K (.ref CW) (.ref CE) = some true
  xT : ExcC K CT
  xW : ExcC K CW
  fT : XfC K CT
  fW : XfC K CW
  vT : PySem.W.findIn K (.ref CT) "value" = some none
  vW : PySem.W.findIn K (.ref CW) "value" = some none
  tt : PySem.W.kitOne K (.ref CT) (.ref CT) = some true
  tw : PySem.W.kitOne K (.ref CT) (.ref CW) = some false
  wt : PySem.W.kitOne K (.ref CW) (.ref CT) = some false
  ww : PySem.W.kitOne K (.ref CW) (.ref CW) = some true
  tv : PySem.W.kitOne K (.ref CT) (.type "ValueError") = some true
  wv : PySem.W.kitOne K (.ref CW) (.type "ValueError") = some true
theorem bt_ValueError : bootBuiltins "ValueError" = some (.type "ValueError") := by decide +kernel
theorem part_heard {P C CT CW a da : Addr} {x y : V} {H : Hp} {Q : VK} {E : XK} (sz : ∀ z : Str, y = .str z → z.length ≤ 10000 ∧ PyData.strOk z = true)
    (fine : heardV x y = (("fine" : Str), V.non) → ∀ H', KeepP a P H H' → GxR.TabG H' P → Q .non H') (txt : ∀ n : Int, heardV x y = (("text" : Str), V.int n) → ErrP a P CT (.int n) H E) (wor : heardV x y = (("worths" : Str), x) → ErrP a P CW x H E) :
    (worthsOk x = false → ErrP a P CW x H E) ∧ ∀ wn : Int, x = .int wn → worthsOk x = true → (isS y = false → ErrP a P CT (.int (-1)) H E) ∧ ∀ z : Str, y = .str z → z.length ≤ 10000 ∧ PyData.strOk z = true ∧
      match partR wn (rowsOf z) with
      | .ok (cs, ps, ds) => OkP a P C da x y cs ps ds H Q
      | .error n => ErrP a P CT (.int n) H E := by
  refine ⟨fun e => wor ?_, fun wn ex ew => ⟨fun e => txt _ ?_, fun z ez => ⟨(sz z ez).1, (sz z ez).2, ?_⟩⟩⟩
  · cases x with
    | int w =>
      show (if worthsOk (.int w) = true then _ else _) = _
      rw [e, if_neg Bool.false_ne_true]
    | _ => rfl
  · subst ex
    show (if worthsOk (.int wn) = true then _ else _) = _
    rw [if_pos ew]
    cases y with
    | str z => exact absurd (show true = false from e) (fun z => nomatch z)
    | _ => rfl
  · subst ex
    subst ez
    have hv : heardV (.int wn) (.str z) = match partR wn (rowsOf z) with
        | .ok _ => (("fine" : Str), V.non)
        | .error n => (("text" : Str), V.int n) := by
      show (if worthsOk (.int wn) = true then _ else _) = _
      rw [if_pos ew]
    revert hv
    match partR wn (rowsOf z) with
    | .ok (cs, ps, ds) => exact fun hv H' ct pt sd dt stp ak ts kp tb _ _ _ _ _ => fine hv H' kp tb
    | .error n => exact fun hv => txt _ hv
section
variable {P : Program} {w : World} {K : PySem.W.Frag} {mg : Str → Option Value} {base : Heap} {CE CT CW Pt TB : Addr}
theorem ok_heard {f fP : Addr} {fd dP : FuncData} (B : Bt mg) (EC : ErC K CE CT CW) (gE : mg "WireError" = some (.ref CE)) (gT : mg "BadText" = some (.ref CT)) (gW : mg "BadWorths" = some (.ref CW)) (gV : mg "ValueError" = none)
    (MP : Mk K Pt fP) (gP : mg "Part" = some (.ref Pt)) (bP : Binds K dP ["self", "worths", "text"] []) (GP : FnOk P w K mg base (L2.CX P w) 22 fP dP ["self", "worths", "text"] (spPart TB Pt CT CW))
    (D : Df K mg "_law_heard" s__law_heard f fd ["_law_many", "_law_page"]) :
    FnOk P w K mg base (L2.CX P w) 24 f fd ["_law_many", "_law_page"] (spHeard TB) := by
  refine D.F.okX sc__law_heard (fun vs H Q E h => ?_) (fun cdv A0 outer s H vs Q E hr h => ?_)
  · obtain ⟨x, y, Tx, Ty, rfl, _⟩ := h
    rfl
  · obtain ⟨x, y, Tx, Ty, rfl, hx, hy, tab, sz, k⟩ := h
    have S := sc__law_heard
    refine ⟨_, (pss_cons (ps_set (i := 2) S.nd rfl (.inl rfl) pe_non)
      (pss_cons (ps_try_keep (i := 3) (ts := fun _ _ _ => tAsg (tVar 3) (gName 2)) rfl rfl rfl S.nd rfl rfl ⟨by rfl, by decide, .inl gE⟩ (takes_of rfl rfl rfl rfl)
          (fun W pn xe tk ps => pss_one (ps_expr (pe_make MP GP (hr.mono (by decide)) (by rfl) gP bP .nil (passes_forget 5 rfl tk) (pa_cons (pv 0) (pa_cons (pv 1) pa_nil)))))
          (fun a oe cls d pn hz hv => pss_one (ps_set (i := 2) S.nd rfl (.inl rfl) (pv 3))))
      (pss_cons (ps_if (pt_cmpR op_isN (pv 2) pe_non (nomark _))
        (pss_one (ps_ret (pe_tup (pa_cons pe_str (pa_cons pe_non pa_nil)))))
        pss_nil)
      (pss_cons (ps_set (i := 4) S.nd rfl (.inl rfl) (pe_lst (pa_cons (pe_callB call_isK (by rfl) B.m_isinstance PyProof.Rows.boot_isinstance (pa_cons (pv 2) (pa_cons (pe_glob (v := .ref CT) (by rfl) gT rfl) pa_nil))) (pa_cons (pe_callB call_isK (by rfl) B.m_isinstance PyProof.Rows.boot_isinstance (pa_cons (pv 2) (pa_cons (pe_glob (v := .ref CW) (by rfl) gW rfl) pa_nil))) pa_nil))))
      (pss_cons (ps_if (PW.pt (pw_or (pt_cmpR op_ne (pe_bm PySem.F.plainAttrs_list PySem.F.slot_list_count PySem.F.type_list_count mt_cntF (pv 4) (pa_cons pe_bl pa_nil)) pe_int (nomark _)) (pw_or1 (pt_not (pt_val (pe_callB call_isK (by rfl) B.m_isinstance PyProof.Rows.boot_isinstance (pa_cons (pv 2) (pa_cons (pe_tyN bt_ValueError (by rfl) gV) pa_nil))))))))
        (pss_one (ps_ret (pe_tup (pa_cons pe_str (pa_cons pe_non pa_nil)))))
        pss_nil)
      (pss_one (ps_ret (pe_tup (pa_cons (pe_ix ix_list (pe_lst (pa_cons pe_str (pa_cons pe_str pa_nil))) (pe_bm PySem.F.plainAttrs_list PySem.F.slot_list_index PySem.F.type_list_index mt_index (pv 4) (pa_cons pe_bl pa_nil)) (fun _ _ => rfl)) (pa_cons (pe_xk (pv 2)) pa_nil)))))))))), ?_⟩
    dsimp only [tSeq, tAsg]
    show tDrop _ _ _ _
    dsimp only [tDrop, tMake, tCons, tNil]
    refine (val_var rfl) _ ?_
    refine (val_var rfl) _ ?_
    refine fun a da na nda neq => ?_
    have n0 : (upd H da (.own a)) a = none := by
      rw [upd_ne neq.symm]
      exact na
    have sP : Same H (upd (upd H da (.own a)) a (.ins Pt da [])) := (same_upd nda).trans (same_upd n0)
    have hP : (upd (upd H da (.own a)) a (.ins Pt da [])) a = some (.ins Pt da []) := upd_same
    generalize (upd (upd H da (.own a)) a (.ins Pt da [])) = HP at sP hP
    have tabP : GxR.TabG HP TB := by
      obtain ⟨q, h1, h2⟩ := tab
      exact ⟨q, sP _ _ h1, h2⟩
    have naT : a ≠ TB := fun e => by
      obtain ⟨q, h1, _⟩ := tab
      rw [← e, na] at h1
      cases h1
    have keepT : ∀ {H' : Hp}, KeepP a TB HP H' → KeepT TB H H' := fun kp b o n e => kp b o n (ne_of_none e na) (sP _ _ e)
    refine ⟨a, da, x, y, Tx, Ty, rfl, hP, hx.mono sP, hy.mono sP, tabP, naT, ?_⟩
    refine part_heard sz (fun hv H' kp tb => ⟨rfl, ?_⟩) (fun n hv => ?_) (fun hv => ?_)
    · dsimp only [tSeq, tIfS, tTest]
      refine (val_op (z := .bl true) (val_var rfl) val_c fun Q q => ⟨rfl, q⟩) _ ?_
      refine ⟨_, rfl, iteT ?_⟩
      dsimp only [tRet, tTup, tCons, tNil]
      refine ⟨by show 2 ≤ sizeLine; decide, fun p np => ?_⟩
      have s5 := same_upd (o := .tup [.str "fine", .non]) np
      refine k _ p (fun b o n z => s5 _ _ (keepT kp b o n z)) ?_ ?_ (by rw [hv]; exact upd_same)
      · obtain ⟨ps, h1, h2⟩ := tb
        exact ⟨ps, s5 _ _ h1, h2⟩
      · cases z : H p with
        | none => rfl
        | some u =>
          have npT : p ≠ TB := fun c => by
            obtain ⟨ps, h1, _⟩ := tb
            rw [← c, np] at h1
            cases h1
          exact absurd ((keepT kp p u npT z).symm.trans np) (fun z => nomatch z)
    · intro d H' kp tb hd
      refine ⟨true, EC.eT, fun _ e he => ?_, fun z => nomatch z⟩
      have nde : d ≠ e := ne_of_none hd he
      have hE : (upd H' e (ExK (.ref CT) (some d) e)) e = some (ExK (.ref CT) (some d) e) := upd_same
      have hD : (upd H' e (ExK (.ref CT) (some d) e)) d = some (.xd [(("value" : Str), .int n)]) := by
        rw [upd_ne nde]
        exact hd
      have kt : KeepT TB H (upd H' e (ExK (.ref CT) (some d) e)) := fun b o n q => by
        have q2 := keepT kp b o n q
        rw [upd_ne (ne_of_none q2 he)]
        exact q2
      have tb2 : GxR.TabG (upd H' e (ExK (.ref CT) (some d) e)) TB := by
        obtain ⟨q, h1, h2⟩ := tb
        exact ⟨q, by rw [upd_ne (ne_of_none h1 he)]; exact h1, h2⟩
      show tVar 3 _ _ _
      refine (val_var rfl) _ ?_
      dsimp only [gName]
      generalize (upd H' e (ExK (.ref CT) (some d) e)) = H2 at hE hD kt tb2
      have nn : decide (V.ref e = V.non) = false := decide_eq_false (fun z => nomatch z)
      dsimp only [tSeq, tIfS, tTest]
      refine (val_op (z := .bl false) (val_var rfl) val_c fun Q q => ⟨rfl, by rw [nn]; exact q⟩) _ ?_
      refine ⟨_, rfl, iteF ?_⟩
      dsimp only [tNext, tSeq, tAsg, tIfS, tRet]
      refine (val_var rfl) _ ⟨e, CT, d, _, .ref CT, .ref CT, true, rfl, hE, hD, EC.xT, fun u r => r, EC.tt, ?_⟩
      refine (val_var rfl) _ ⟨e, CT, d, _, .ref CW, .ref CW, false, rfl, hE, hD, EC.xT, fun u r => r, EC.tw, ?_⟩
      refine ⟨by show 2 ≤ sizeLine; decide, fun q nq => ?_⟩
      have s3 := same_upd (o := .lst [.bl true, .bl false]) nq
      have hq : (upd H2 q (.lst [.bl true, .bl false])) q = some (.lst [.bl true, .bl false]) := upd_same
      have hE := s3 _ _ hE
      have hD := s3 _ _ hD
      have kt : KeepT TB H (upd H2 q (.lst [.bl true, .bl false])) := fun b o n z => s3 _ _ (kt b o n z)
      have tb3 : GxR.TabG (upd H2 q (.lst [.bl true, .bl false])) TB := by
        obtain ⟨ps, h1, h2⟩ := tb2
        exact ⟨ps, s3 _ _ h1, h2⟩
      generalize (upd H2 q (.lst [.bl true, .bl false])) = H3 at hq hE hD kt tb3
      dsimp only [gName]
      have vc : Val (tBM K "list" (rCntF K) (tVar 4) (tCons (tC (.bl true)) tNil)) [none, none, some (.ref e), none, some (.ref q)] H3 (.int 1) := fun Q z => bm_run (x := .ref q) (val_var rfl) (.inl ⟨rfl, _, SqL.of hq⟩) ⟨q, _, .bl true, rfl, rfl, SqL.of hq, rfl, rfl, z⟩
      refine (val_op (z := .bl (!decide (V.int 1 = V.int 1))) vc val_c fun Q z => ⟨rfl, z⟩) _ ?_
      refine ⟨_, rfl, ?_⟩
      rw [decide_eq_true (rfl : V.int 1 = V.int 1)]
      refine iteF ?_
      refine (val_var rfl) _ ⟨e, CT, d, _, .ty "ValueError", .type "ValueError", true, rfl, hE, hD, EC.xT, fun u r => r, EC.tv, ?_⟩
      refine ⟨_, rfl, iteF ?_⟩
      dsimp only [tNext, tSeq, tRet, tTup, tCons, tNil]
      refine ⟨by show 2 ≤ sizeLine; decide, fun o no => ?_⟩
      have s4 := same_upd (o := .lst [.str "text", .str "worths"]) no
      have ho : (upd H3 o (.lst [.str "text", .str "worths"])) o = some (.lst [.str "text", .str "worths"]) := upd_same
      have hq := s4 _ _ hq
      have hE := s4 _ _ hE
      have hD := s4 _ _ hD
      have kt : KeepT TB H (upd H3 o (.lst [.str "text", .str "worths"])) := fun b o n z => s4 _ _ (kt b o n z)
      have tb4 : GxR.TabG (upd H3 o (.lst [.str "text", .str "worths"])) TB := by
        obtain ⟨ps, h1, h2⟩ := tb3
        exact ⟨ps, s4 _ _ h1, h2⟩
      generalize (upd H3 o (.lst [.str "text", .str "worths"])) = H4 at ho hq hE hD kt tb4
      refine bm_run (x := .ref q) (val_var rfl) (.inl ⟨rfl, _, SqL.of hq⟩) ?_
      refine ⟨q, _, .bl true, 0, .bl true, rfl, rfl, SqL.of hq, rfl, rfl, rfl, rfl, fun m z lt hm => ?_, ?_⟩
      · exact absurd lt (Nat.not_lt_zero _)
      refine ⟨o, _, _, _, rfl, rfl, SqL.of ho, atI_nat (j := 0) rfl, ?_⟩
      refine (val_var rfl) _ ⟨e, CT, d, _, .int n, rfl, hE, hD, EC.fT, EC.vT, lk_hd, ?_⟩
      refine ⟨by show 2 ≤ sizeLine; decide, fun p np => ?_⟩
      have s5 := same_upd (o := .tup [.str "text", .int n]) np
      refine k _ p (fun b o n z => s5 _ _ (kt b o n z)) ?_ ?_ (by rw [hv]; exact upd_same)
      · obtain ⟨ps, h1, h2⟩ := tb4
        exact ⟨ps, s5 _ _ h1, h2⟩
      · cases z : H p with
        | none => rfl
        | some u =>
          have npT : p ≠ TB := fun c => by
            obtain ⟨ps, h1, _⟩ := tb4
            rw [← c, np] at h1
            cases h1
          exact absurd ((kt p u npT z).symm.trans np) (fun z => nomatch z)
    · intro d H' kp tb hd
      refine ⟨true, EC.eW, fun _ e he => ?_, fun z => nomatch z⟩
      have nde : d ≠ e := ne_of_none hd he
      have hE : (upd H' e (ExK (.ref CW) (some d) e)) e = some (ExK (.ref CW) (some d) e) := upd_same
      have hD : (upd H' e (ExK (.ref CW) (some d) e)) d = some (.xd [(("value" : Str), x)]) := by
        rw [upd_ne nde]
        exact hd
      have kt : KeepT TB H (upd H' e (ExK (.ref CW) (some d) e)) := fun b o n q => by
        have q2 := keepT kp b o n q
        rw [upd_ne (ne_of_none q2 he)]
        exact q2
      have tb2 : GxR.TabG (upd H' e (ExK (.ref CW) (some d) e)) TB := by
        obtain ⟨q, h1, h2⟩ := tb
        exact ⟨q, by rw [upd_ne (ne_of_none h1 he)]; exact h1, h2⟩
      show tVar 3 _ _ _
      refine (val_var rfl) _ ?_
      dsimp only [gName]
      generalize (upd H' e (ExK (.ref CW) (some d) e)) = H2 at hE hD kt tb2
      have nn : decide (V.ref e = V.non) = false := decide_eq_false (fun z => nomatch z)
      dsimp only [tSeq, tIfS, tTest]
      refine (val_op (z := .bl false) (val_var rfl) val_c fun Q q => ⟨rfl, by rw [nn]; exact q⟩) _ ?_
      refine ⟨_, rfl, iteF ?_⟩
      dsimp only [tNext, tSeq, tAsg, tIfS, tRet]
      refine (val_var rfl) _ ⟨e, CW, d, _, .ref CT, .ref CT, false, rfl, hE, hD, EC.xW, fun u r => r, EC.wt, ?_⟩
      refine (val_var rfl) _ ⟨e, CW, d, _, .ref CW, .ref CW, true, rfl, hE, hD, EC.xW, fun u r => r, EC.ww, ?_⟩
      refine ⟨by show 2 ≤ sizeLine; decide, fun q nq => ?_⟩
      have s3 := same_upd (o := .lst [.bl false, .bl true]) nq
      have hq : (upd H2 q (.lst [.bl false, .bl true])) q = some (.lst [.bl false, .bl true]) := upd_same
      have hE := s3 _ _ hE
      have hD := s3 _ _ hD
      have kt : KeepT TB H (upd H2 q (.lst [.bl false, .bl true])) := fun b o n z => s3 _ _ (kt b o n z)
      have tb3 : GxR.TabG (upd H2 q (.lst [.bl false, .bl true])) TB := by
        obtain ⟨ps, h1, h2⟩ := tb2
        exact ⟨ps, s3 _ _ h1, h2⟩
      generalize (upd H2 q (.lst [.bl false, .bl true])) = H3 at hq hE hD kt tb3
      dsimp only [gName]
      have vc : Val (tBM K "list" (rCntF K) (tVar 4) (tCons (tC (.bl true)) tNil)) [none, none, some (.ref e), none, some (.ref q)] H3 (.int 1) := fun Q z => bm_run (x := .ref q) (val_var rfl) (.inl ⟨rfl, _, SqL.of hq⟩) ⟨q, _, .bl true, rfl, rfl, SqL.of hq, rfl, rfl, z⟩
      refine (val_op (z := .bl (!decide (V.int 1 = V.int 1))) vc val_c fun Q z => ⟨rfl, z⟩) _ ?_
      refine ⟨_, rfl, ?_⟩
      rw [decide_eq_true (rfl : V.int 1 = V.int 1)]
      refine iteF ?_
      refine (val_var rfl) _ ⟨e, CW, d, _, .ty "ValueError", .type "ValueError", true, rfl, hE, hD, EC.xW, fun u r => r, EC.wv, ?_⟩
      refine ⟨_, rfl, iteF ?_⟩
      dsimp only [tNext, tSeq, tRet, tTup, tCons, tNil]
      refine ⟨by show 2 ≤ sizeLine; decide, fun o no => ?_⟩
      have s4 := same_upd (o := .lst [.str "text", .str "worths"]) no
      have ho : (upd H3 o (.lst [.str "text", .str "worths"])) o = some (.lst [.str "text", .str "worths"]) := upd_same
      have hq := s4 _ _ hq
      have hE := s4 _ _ hE
      have hD := s4 _ _ hD
      have kt : KeepT TB H (upd H3 o (.lst [.str "text", .str "worths"])) := fun b o n z => s4 _ _ (kt b o n z)
      have tb4 : GxR.TabG (upd H3 o (.lst [.str "text", .str "worths"])) TB := by
        obtain ⟨ps, h1, h2⟩ := tb3
        exact ⟨ps, s4 _ _ h1, h2⟩
      generalize (upd H3 o (.lst [.str "text", .str "worths"])) = H4 at ho hq hE hD kt tb4
      refine bm_run (x := .ref q) (val_var rfl) (.inl ⟨rfl, _, SqL.of hq⟩) ?_
      refine ⟨q, _, .bl true, 1, .bl true, rfl, rfl, SqL.of hq, rfl, rfl, rfl, rfl, fun m z lt hm => ?_, ?_⟩
      · obtain rfl : m = 0 := by omega
        cases hm
        rfl
      refine ⟨o, _, _, _, rfl, rfl, SqL.of ho, atI_nat (j := 1) rfl, ?_⟩
      refine (val_var rfl) _ ⟨e, CW, d, _, x, rfl, hE, hD, EC.fW, EC.vW, lk_hd, ?_⟩
      refine ⟨by show 2 ≤ sizeLine; decide, fun p np => ?_⟩
      have s5 := same_upd (o := .tup [.str "worths", x]) np
      refine k _ p (fun b o n z => s5 _ _ (kt b o n z)) ?_ ?_ (by rw [hv]; exact upd_same)
      · obtain ⟨ps, h1, h2⟩ := tb4
        exact ⟨ps, s5 _ _ h1, h2⟩
      · cases z : H p with
        | none => rfl
        | some u =>
          have npT : p ≠ TB := fun c => by
            obtain ⟨ps, h1, _⟩ := tb4
            rw [← c, np] at h1
            cases h1
          exact absurd ((kt p u npT z).symm.trans np) (fun z => nomatch z)
end
end K5
namespace K5
open PySem PySem.Spec PyProof.Rows L2
/-! ### lists of texts that are built -/
def LsAt (H : Hp) (p : Addr) (ws : List Str) : Prop := H p = some (.lst (ws.map V.str))
/-- the list of texts ws is made, in whatever heap holds what H holds -/
def LV (te : TE) (σ : L2.St) (H : Hp) (ws : List Str) : Prop := ∀ (H1 : Hp) (Q : VK), Same H H1 → (∀ (H' : Hp) (p : Addr), Same H1 H' → LsAt H' p ws → Q (.ref p) H') → te σ H1 Q
/-- the text z, likewise -/
def SV (te : TE) (σ : L2.St) (H : Hp) (z : Str) : Prop := ∀ (H1 : Hp), Same H H1 → Val te σ H1 (.str z)
section
variable {K : PySem.W.Frag} {σ : L2.St} {H : Hp} {ta tb : TE} {ws us : List Str} {z y : Str} {p : Addr} {j : Nat}
theorem SV.c : SV (tC (.str z)) σ H z := fun H1 _ => val_c
theorem SV.v (h : σ[j]? = some (some (.str z))) : SV (tVar j) σ H z := fun H1 _ => val_var h
def rAddS : R2 := fun x y H Q => ∃ i j, x = .str i ∧ y = .str j ∧ i.length + j.length ≤ sizeLine ∧ Q (.str (i ++ j)) H
theorem SV.add (ha : SV ta σ H z) (hb : SV tb σ H y) (hz : z.length + y.length ≤ 10000000) : SV (tOp rAddS ta tb) σ H (z ++ y) := fun H1 s => val_op (ha H1 s) (hb H1 s) fun Q q => ⟨z, y, rfl, rfl, big_size hz, q⟩
theorem LV.v (h : σ[j]? = some (some (.ref p))) (hp : LsAt H p ws) : LV (tVar j) σ H ws := fun H1 Q s q => (val_var h) _ (q H1 p (Same.refl _) (s _ _ hp))
theorem LV.cat (ha : LV ta σ H ws) (hb : LV tb σ H us) (hz : ws.length + us.length ≤ 1000) : LV (tOp rCat ta tb) σ H (ws ++ us) := fun H1 Q s q => ha H1 _ s fun H2 p1 s2 h1 => hb H2 _ (s.trans s2) fun H3 p2 s3 h2 => by
  refine ⟨p1, p2, ws.map V.str, us.map V.str, rfl, rfl, s3 _ _ h1, h2, by rw [List.length_map, List.length_map]; exact Nat.le_trans hz (by decide), fun p np => q _ p ((s2.trans s3).trans (same_upd np)) ?_⟩
  unfold LsAt
  rw [upd_same, List.map_append]
theorem LV.rep {k : Nat} (ha : LV ta σ H ws) (hk : k ≤ 100) (hz : ws.length ≤ 100) : LV (tOp rRep ta (tC (.int k))) σ H (List.replicate k ws).flatten := fun H1 Q s q => ha H1 _ s fun H2 p1 s2 h1 => by
  refine ⟨p1, k, ws.map V.str, rfl, rfl, h1, by omega, by omega, ?_, fun p np => q _ p (s2.trans (same_upd np)) ?_⟩
  · rw [List.length_map, Int.toNat_natCast]
    exact Nat.le_trans (Nat.mul_le_mul hz hk) (by decide)
  · unfold LsAt
    rw [upd_same, List.map_flatten, List.map_replicate, Int.toNat_natCast]
def OV (t : TO) (σ : L2.St) (o : Option Int) : Prop := ∀ (H : Hp) (Q : Option Int → Hp → Prop), Q o H → t σ H Q
theorem OV.no : OV tNoPart σ none := fun _ _ q => q
theorem OV.yes {te : TE} {i : Int} (h : ∀ H : Hp, Val te σ H (.int i)) : OV (tPart te) σ (some i) := fun H Q q => (h H) _ ⟨i, rfl, q⟩
def cutL {α : Type} (xs : List α) (lo hi : Option Int) : List α := (xs.drop (HT.sIx xs.length 0 lo)).take (HT.sIx xs.length xs.length hi - HT.sIx xs.length 0 lo)
theorem cutV_map (lo hi : Option Int) : cutV (ws.map V.str) lo hi = (cutL ws lo hi).map V.str := by
  unfold cutV cutL
  rw [List.length_map, List.map_take, List.map_drop]
theorem LV.cut {lo hi : Option Int} {tl th : TO} (ha : LV ta σ H ws) (hl : OV tl σ lo) (hh : OV th σ hi) : LV (tSl (rSlL K) ta tl th) σ H (cutL ws lo hi) := fun H1 Q s q => ha H1 _ s fun H2 p1 s2 h1 => hl _ _ (hh _ _ ⟨p1, _, rfl, SqL.of h1, fun p np => q _ p (s2.trans (same_upd np)) (by
  unfold LsAt
  rw [upd_same, cutV_map])⟩)
/-- a text, and the line that is bad -/
def CsAt (H : Hp) (p : Addr) (c : List Str × Int) : Prop := ∃ b, H p = some (.tup [.ref b, .int c.2]) ∧ LsAt H b c.1
theorem CsAt.mono {H H' : Hp} {c : List Str × Int} (h : CsAt H p c) (s : Same H H') : CsAt H' p c := by
  obtain ⟨b, h1, h2⟩ := h
  exact ⟨b, s _ _ h1, s _ _ h2⟩
def CV (te : TE) (σ : L2.St) (H : Hp) (c : List Str × Int) : Prop := ∀ (H1 : Hp) (Q : VK), Same H H1 → (∀ (H' : Hp) (p : Addr), Same H1 H' → CsAt H' p c → Q (.ref p) H') → te σ H1 Q
theorem CV.mk {i : Int} (ha : LV ta σ H ws) (hb : ∀ H : Hp, Val tb σ H (.int i)) : CV (tTup (tCons ta (tCons tb tNil))) σ H (ws, i) := fun H1 Q s q => ha H1 _ s fun H2 b s2 h1 => (hb H2) _ ⟨by show 2 ≤ sizeLine; decide, fun p np => q _ p (s2.trans (same_upd np)) ⟨b, upd_same, (same_upd np) _ _ h1⟩⟩
/-- a list of such -/
def CsList (H : Hp) (xs : List V) (cs : List (List Str × Int)) : Prop := Paired (fun x c => ∃ p, x = V.ref p ∧ CsAt H p c) xs cs
theorem CsList.mono {H H' : Hp} {xs : List V} {cs : List (List Str × Int)} (h : CsList H xs cs) (s : Same H H') : CsList H' xs cs := paired_imp (fun x c ⟨p, e, h⟩ => ⟨p, e, h.mono s⟩) h
theorem LV.nil : LV (tLst tNil) σ H [] := fun H1 Q _ q => ⟨Nat.zero_le _, fun p np => q _ p (same_upd np) upd_same⟩
theorem LV.one (ha : SV ta σ H z) : LV (tLst (tCons ta tNil)) σ H [z] := fun H1 Q s q => (ha H1 s) _ ⟨by show 1 ≤ sizeLine; decide, fun p np => q _ p (same_upd np) upd_same⟩
theorem LV.two (ha : SV ta σ H z) (hb : SV tb σ H y) : LV (tLst (tCons ta (tCons tb tNil))) σ H [z, y] := fun H1 Q s q => (ha H1 s) _ ((hb H1 s) _ ⟨by show 2 ≤ sizeLine; decide, fun p np => q _ p (same_upd np) upd_same⟩)
end
end K5
namespace K5
open PySem PySem.Spec PyProof.Rows L2
abbrev s__law_head : Stmt := topS 31
theorem sc__law_head : FnScope ["_law_c", "_law_p"] ["_law_c", "_law_p"] (defScope s__law_head) := ⟨rfl, rfl, rfl, by decide +kernel, rfl, by decide +kernel, by decide +kernel⟩
def headC (c p : Str) : List Str := ["cell " ++ c ++ " 1", "port " ++ p]
def spLawHead : Sp := fun vs H Q _ => ∃ c p : Str, vs = [.str c, .str p] ∧ c.length ≤ 100 ∧ p.length ≤ 100 ∧ ∀ (H' : Hp) (q : Addr), Same H H' → LsAt H' q (headC c p) → Q (.ref q) H'
theorem app_len (x y : Str) : (x ++ y).length = x.length + y.length := by
  show (x.cps ++ y.cps).size = _
  rw [Array.size_append]
  rfl
section
variable {K : PySem.W.Frag} {D : Ends} {σ : L2.St} {H : Hp} {te : TE} {f : Addr} {xs : List V} {cs : List (List Str × Int)} {c : List Str × Int} {i : Nat}
theorem cs_but {H H' : Hp} {xs : List V} (hf : H f = some (.lst (V.ref i :: xs))) (s : SameBut f H H') : ∀ {ys : List V} {cs : List (List Str × Int)}, (∀ c ∈ cs, c.1 ≠ []) → CsList H ys cs → CsList H' ys cs
  | _, _, _, .nil => .nil
  | _, c :: cs, ne, .cons h t => .cons (by
      obtain ⟨p, e, b, h1, h2⟩ := h
      have nc := ne c (List.mem_cons_self ..)
      have nb : b ≠ f := ne_of h2 hf fun q => by
        cases hc : c.1 with
        | nil => exact nc hc
        | cons w ws =>
          rw [hc] at q
          injection q with q
          injection q with q
          cases q
      exact ⟨p, e, b, s _ _ (ne_of h1 hf (fun q => nomatch q)) h1, s _ _ nb h2⟩) (cs_but hf s (fun c h => ne c (List.mem_cons_of_mem _ h)) t)
/-- found.append((lines, due)) -/
theorem app_case (hv : σ[i]? = some (some (.ref f))) (hf : H f = some (.lst xs)) (hx : CsList H xs cs) (n0 : cs ≠ []) (ne : ∀ q ∈ cs, q.1 ≠ []) (nc : c.1 ≠ []) (hc : CV te σ H c) (few : xs.length ≤ 500)
    (k : ∀ (H' : Hp) (v : V), SameBut f H H' → H' f = some (.lst (xs ++ [v])) → CsList H' (xs ++ [v]) (cs ++ [c]) → D.nx σ H') : tDrop (tBM K "list" rAppend (tVar i) (tCons te tNil)) D σ H := by
  refine bm_run (x := .ref f) (val_var hv) (.inl ⟨rfl, _, SqL.of hf⟩) ?_
  refine hc H _ (Same.refl _) fun H1 p s1 h1 => ?_
  refine ⟨f, xs, .ref p, rfl, rfl, s1 _ _ hf, small1000 (by omega), ?_⟩
  have all : CsList H1 (xs ++ [.ref p]) (cs ++ [c]) := by
    have h2 := hx.mono s1
    clear k hc hf n0 ne few hx
    induction h2 with
    | nil => exact .cons ⟨p, rfl, h1⟩ .nil
    | cons a b ih => exact .cons a ih
  obtain ⟨j, ys, rfl⟩ : ∃ (j : Nat) (ys : List V), xs = V.ref j :: ys := by
    cases hx with
    | nil => exact absurd rfl n0
    | cons a b =>
      obtain ⟨q, e, _⟩ := a
      exact ⟨q, _, by rw [e]⟩
  have sb := SameBut.upd f H1 (.lst (V.ref j :: ys ++ [.ref p]))
  refine k _ (.ref p) ((SameBut.of_same s1).trans sb) upd_same (cs_but (s1 _ _ hf) sb (fun q h => ?_) all)
  rcases List.mem_append.mp h with h | h
  · exact ne q h
  · rw [List.mem_singleton.mp h]
    exact nc
end
section
variable {P : Program} {w : World} {K : PySem.W.Frag} {mg : Str → Option Value} {base : Heap}
theorem ok_law_head {f : Addr} {fd : FuncData} (D : Df K mg "_law_head" s__law_head f fd ["_law_c", "_law_p"]) : FnOk P w K mg base CX0 1 f fd ["_law_c", "_law_p"] spLawHead := by
  refine D.F.ok sc__law_head (fun vs H Q E h => ?_) (fun cdv A outer s H vs Q E hr h => ?_)
  · obtain ⟨c, p, rfl, _⟩ := h
    rfl
  · obtain ⟨c, p, rfl, hc, hp, k⟩ := h
    refine ⟨_, (pss_one (ps_ret (pe_lst (pa_cons (pe_op op_add_str (pe_op op_add_str pe_str (pv 0)) pe_str) (pa_cons (pe_op op_add_str pe_str (pv 1)) pa_nil))))), ?_⟩
    have l1 : ("cell " : Str).length = 5 := by decide +kernel
    have l2 : (" 1" : Str).length = 2 := by decide +kernel
    have l3 : ("port " : Str).length = 5 := by decide +kernel
    have v1 : LV (tLst (tCons (tOp rAddS (tOp rAddS (tC (.str "cell ")) (tVar 0)) (tC (.str " 1"))) (tCons (tOp rAddS (tC (.str "port ")) (tVar 1)) tNil))) [some (.str c), some (.str p)] H (headC c p) :=
      LV.two (SV.add (SV.add SV.c (SV.v rfl) (by omega)) SV.c (by rw [app_len]; omega)) (SV.add SV.c (SV.v rfl) (by omega))
    exact v1 H _ (Same.refl _) k
end
end K5
namespace K5
open PySem PySem.Spec PyProof.Rows L2
/-- the text z of n signs at most -/
structure SN (te : TE) (σ : L2.St) (H : Hp) (z : Str) (n : Nat) : Prop where
  v : SV te σ H z
  n : z.length ≤ n
def AV (t : TA) (σ : L2.St) (H : Hp) (ws : List Str) : Prop := ∀ (H1 : Hp) (Q : List V → Hp → Prop), Same H H1 → Q (ws.map V.str) H1 → t σ H1 Q
def AC (t : TA) (σ : L2.St) (H : Hp) (cs : List (List Str × Int)) : Prop := ∀ (H1 : Hp) (Q : List V → Hp → Prop), Same H H1 → (∀ (H' : Hp) (xs : List V), Same H1 H' → CsList H' xs cs → Q xs H') → t σ H1 Q
def CL (te : TE) (σ : L2.St) (H : Hp) (cs : List (List Str × Int)) : Prop := ∀ (H1 : Hp) (Q : VK), Same H H1 → (∀ (H' : Hp) (p : Addr) (xs : List V), Same H1 H' → H' p = some (.lst xs) → CsList H' xs cs → Q (.ref p) H') → te σ H1 Q
def FdAt (H : Hp) (f : Addr) (cs : List (List Str × Int)) : Prop := ∃ xs, H f = some (.lst xs) ∧ CsList H xs cs ∧ cs ≠ [] ∧ ∀ q ∈ cs, q.1 ≠ []
theorem cs_app {H : Hp} {xs ys : List V} {cs ds : List (List Str × Int)} (a : CsList H xs cs) (b : CsList H ys ds) : CsList H (xs ++ ys) (cs ++ ds) := by
  induction a with
  | nil => exact b
  | cons h t ih => exact .cons h ih
section
variable {K : PySem.W.Frag} {D : Ends} {σ : L2.St} {H : Hp} {ta tb te : TE} {t : TA} {f : Addr} {xs : List V} {cs ds : List (List Str × Int)} {c : List Str × Int} {i j n m : Nat} {z y : Str} {ws : List Str}
theorem SN.k (h : z.length ≤ 40) : SN (tC (.str z)) σ H z 40 := ⟨SV.c, h⟩
theorem SN.w (h : σ[j]? = some (some (.str z))) (hz : z.length ≤ n) : SN (tVar j) σ H z n := ⟨SV.v h, hz⟩
theorem SN.add (a : SN ta σ H z n) (b : SN tb σ H y m) (h : n + m ≤ 10000000) : SN (tOp rAddS ta tb) σ H (z ++ y) (n + m) := ⟨SV.add a.v b.v (by have := a.n; have := b.n; omega), by rw [app_len]; have := a.n; have := b.n; omega⟩
theorem AV.nil : AV tNil σ H [] := fun H1 Q _ q => q
theorem AV.cons (a : SN ta σ H z n) (b : AV t σ H ws) : AV (tCons ta t) σ H (z :: ws) := fun H1 Q s q => (a.v H1 s) _ (b H1 _ s q)
theorem LV.lst (a : AV t σ H ws) (h : ws.length ≤ 1000) : LV (tLst t) σ H ws := fun H1 Q s q => a H1 _ s ⟨by rw [List.length_map]; exact Nat.le_trans h (by decide), fun p np => q _ p (same_upd np) upd_same⟩
theorem AC.nil : AC tNil σ H [] := fun H1 Q _ q => q H1 [] (Same.refl _) .nil
theorem AC.cons (a : CV te σ H c) (b : AC t σ H cs) : AC (tCons te t) σ H (c :: cs) := fun H1 Q s q => a H1 _ s fun H2 p s2 h => b H2 _ (s.trans s2) fun H3 xs s3 h2 => q H3 _ (s2.trans s3) (.cons ⟨p, rfl, h.mono s3⟩ h2)
theorem CL.lst (a : AC t σ H cs) (h : cs.length ≤ 1000) : CL (tLst t) σ H cs := fun H1 Q s q => a H1 _ s fun H2 xs s2 h2 => ⟨by rw [Paired.length h2]; exact Nat.le_trans h (by decide), fun p np => q _ p xs (s2.trans (same_upd np)) upd_same (h2.mono (same_upd np))⟩
theorem CL.v (h : σ[j]? = some (some (.ref f))) (F : FdAt H f cs) : CL (tVar j) σ H cs := fun H1 Q s q => by
  obtain ⟨xs, h1, h2, _⟩ := F
  exact (val_var h) _ (q H1 f xs (Same.refl _) (s _ _ h1) (h2.mono s))
theorem CL.cat (ha : CL ta σ H cs) (hb : CL tb σ H ds) (hz : cs.length + ds.length ≤ 1000) : CL (tOp rCat ta tb) σ H (cs ++ ds) := fun H1 Q s q => ha H1 _ s fun H2 p1 xs s2 h1 k1 => hb H2 _ (s.trans s2) fun H3 p2 ys s3 h2 k2 => by
  have e1 : xs.length = cs.length := Paired.length k1
  have e2 : ys.length = ds.length := Paired.length k2
  exact ⟨p1, p2, xs, ys, rfl, rfl, s3 _ _ h1, h2, by rw [e1, e2]; exact Nat.le_trans hz (by decide), fun p np => q _ p _ ((s2.trans s3).trans (same_upd np)) upd_same (cs_app ((k1.mono s3).mono (same_upd np)) (k2.mono (same_upd np)))⟩
theorem fd_app (hv : σ[i]? = some (some (.ref f))) (F : FdAt H f cs) (few : cs.length ≤ 500) (nc : c.1 ≠ []) (hc : CV te σ H c)
    (k : ∀ H' : Hp, FdAt H' f (cs ++ [c]) → (∀ b o, b ≠ f → H b = some o → H' b = some o) → (∀ (p : Addr) (us : List Str), us ≠ [] → LsAt H p us → LsAt H' p us) → D.nx σ H') : tDrop (tBM K "list" rAppend (tVar i) (tCons te tNil)) D σ H := by
  obtain ⟨xs, h1, h2, h3, h4⟩ := F
  have e : xs.length = cs.length := Paired.length h2
  refine app_case hv h1 h2 h3 h4 nc hc (by omega) fun H' v sb a1 a2 => k H' ⟨_, a1, a2, by simp, fun q hq => ?_⟩ sb fun p us nu hp => sb _ _ ?_ hp
  · rcases List.mem_append.mp hq with hq | hq
    · exact h4 q hq
    · rw [List.mem_singleton.mp hq]
      exact nc
  · refine ne_of hp h1 fun q => ?_
    injection q with q
    cases us with
    | nil => exact nu rfl
    | cons u us =>
      cases h2 with
      | nil => exact h3 rfl
      | cons a b =>
        obtain ⟨r, er, _⟩ := a
        rw [er] at q
        injection q with q
        cases q
end
end K5
namespace K5
open PySem PySem.Spec PyProof.Rows L2
abbrev s__law_depths : Stmt := topS 33
theorem sc__law_depths : FnScope ["_law_c", "_law_p", "_law_d", "_law_head_here", "_law_ask", "_law_found"] ["_law_c", "_law_p", "_law_d"] (defScope s__law_depths) := ⟨rfl, rfl, rfl, by decide +kernel, rfl, by decide +kernel, by decide +kernel⟩
def hereC (c p d : Str) : List Str := headC c p ++ ["door " ++ d]
def askC (p : Str) : Str := "ask " ++ p ++ " get it"
def depthsC (c p d : Str) : List (List Str × Int) :=
  [(hereC c p d ++
  [("  if lost" : Str), ("    if busy" : Str), ((("      set " : Str) ++ c) ++ (" got" : Str))], (-2))] ++
  [(hereC c p d ++
  [("  if lost" : Str), ("    if busy" : Str), ("      if lost" : Str), ("        fail" : Str)], 5)] ++
  [(hereC c p d ++
  [("  if lost" : Str), ("    if busy" : Str), ("      while lost" : Str), (("        " : Str) ++ (askC p))], 5)] ++
  [(hereC c p d ++
  [((("  while " : Str) ++ c) ++ (" = it" : Str)), (("    " : Str) ++ (askC p)), ("    while busy" : Str), (("      " : Str) ++ (askC p))], (-2))] ++
  [(hereC c p d ++
  [("  while lost" : Str), ("    fail" : Str), (("    " : Str) ++ (askC p))], 4)] ++
  [(hereC c p d ++
  [("  while lost" : Str), ("    if lost" : Str), (("      " : Str) ++ (askC p))], 4)] ++
  [(hereC c p d ++
  [("  if lost" : Str), ("  fail" : Str)], 4)] ++
  [(hereC c p d ++
  [("  if lost" : Str), ("    fail" : Str), ("  else" : Str), ("  fail" : Str)], 6)] ++
  [(hereC c p d ++
  [("  if lost" : Str), ("    fail" : Str), ("  else" : Str), ("    fail" : Str), ("  else" : Str), ("    fail" : Str)], 7)] ++
  [(hereC c p d ++
  [("  while lost" : Str), (("    " : Str) ++ (askC p)), ("  else" : Str), ("    fail" : Str)], 5)] ++
  [(hereC c p d ++
  [("  else" : Str), ("    fail" : Str)], 3)] ++
  [(hereC c p d ++
  [("  fail" : Str), ("    fail" : Str)], 4)] ++
  [(hereC c p d ++
  [("  if lost" : Str), ("      fail" : Str)], 4)] ++
  [(hereC c p d ++ [("  if lost" : Str), ("   fail" : Str)], 4),
    (hereC c p d ++ [(" fail" : Str)], 3),
    (hereC c p d ++ [("fail" : Str)], 3)]

def spCases (F : Str → Str → Str → List (List Str × Int)) : Sp := fun vs H Q _ => ∃ c p d : Str, vs = [.str c, .str p, .str d] ∧ c.length ≤ 100 ∧ p.length ≤ 100 ∧ d.length ≤ 100 ∧ ∀ (H' : Hp) (q : Addr) (xs : List V), Same H H' → H' q = some (.lst xs) → CsList H' xs (F c p d) → Q (.ref q) H'
section
variable {P : Program} {w : World} {K : PySem.W.Frag} {mg : Str → Option Value} {base : Heap}
theorem ok_depths {f fH : Addr} {fd dH : FuncData} (Dh : Df K mg "_law_head" s__law_head fH dH ["_law_c", "_law_p"]) (D : Df K mg "_law_depths" s__law_depths f fd ["_law_c", "_law_p", "_law_d"]) : FnOk P w K mg base CX0 2 f fd ["_law_c", "_law_p", "_law_d"] (spCases depthsC) := by
  have Gh : FnOk P w K mg base CX0 1 fH dH ["_law_c", "_law_p"] spLawHead := ok_law_head Dh
  refine D.F.ok sc__law_depths (fun vs H Q E h => ?_) (fun cdv A outer s H vs Q E hr h => ?_)
  · obtain ⟨c, p, d, rfl, _⟩ := h
    rfl
  · obtain ⟨c, p, d, rfl, hc, hp, hd, k⟩ := h
    have S := sc__law_depths
    refine ⟨_, (pss_cons (ps_par (i := 3) (j := 4) (by rfl) S.nd rfl rfl (by decide) rfl rfl (pa_cons (pe_op op_cat (pe_call Gh (hr.mono (by decide)) (by rfl) Dh.g Dh.F.kp Dh.b .nil pass0 (pa_cons (pv 0) (pa_cons (pv 1) pa_nil))) (pe_lst (pa_cons (pe_op op_add_str pe_str (pv 2)) pa_nil))) (pa_cons (pe_op op_add_str (pe_op op_add_str pe_str (pv 1)) pe_str) pa_nil)) (by rfl))
      (pss_cons (ps_set (i := 5) S.nd rfl (.inl rfl) (pe_lst (pa_cons (pe_tup (pa_cons (pe_op op_cat (pv 3) (pe_lst (pa_cons pe_str (pa_cons pe_str (pa_cons (pe_op op_add_str (pe_op op_add_str pe_str (pv 0)) pe_str) pa_nil))))) (pa_cons (pe_un un_neg pe_int) pa_nil))) pa_nil)))
      (pss_cons (ps_expr (pe_bm PySem.F.plainAttrs_list PySem.F.slot_list_append PySem.F.type_list_append mt_append (pv 5) (pa_cons (pe_tup (pa_cons (pe_op op_cat (pv 3) (pe_lst (pa_cons pe_str (pa_cons pe_str (pa_cons pe_str (pa_cons pe_str pa_nil)))))) (pa_cons pe_int pa_nil))) pa_nil)))
      (pss_cons (ps_expr (pe_bm PySem.F.plainAttrs_list PySem.F.slot_list_append PySem.F.type_list_append mt_append (pv 5) (pa_cons (pe_tup (pa_cons (pe_op op_cat (pv 3) (pe_lst (pa_cons pe_str (pa_cons pe_str (pa_cons pe_str (pa_cons (pe_op op_add_str pe_str (pv 4)) pa_nil)))))) (pa_cons pe_int pa_nil))) pa_nil)))
      (pss_cons (ps_expr (pe_bm PySem.F.plainAttrs_list PySem.F.slot_list_append PySem.F.type_list_append mt_append (pv 5) (pa_cons (pe_tup (pa_cons (pe_op op_cat (pv 3) (pe_lst (pa_cons (pe_op op_add_str (pe_op op_add_str pe_str (pv 0)) pe_str) (pa_cons (pe_op op_add_str pe_str (pv 4)) (pa_cons pe_str (pa_cons (pe_op op_add_str pe_str (pv 4)) pa_nil)))))) (pa_cons (pe_un un_neg pe_int) pa_nil))) pa_nil)))
      (pss_cons (ps_expr (pe_bm PySem.F.plainAttrs_list PySem.F.slot_list_append PySem.F.type_list_append mt_append (pv 5) (pa_cons (pe_tup (pa_cons (pe_op op_cat (pv 3) (pe_lst (pa_cons pe_str (pa_cons pe_str (pa_cons (pe_op op_add_str pe_str (pv 4)) pa_nil))))) (pa_cons pe_int pa_nil))) pa_nil)))
      (pss_cons (ps_expr (pe_bm PySem.F.plainAttrs_list PySem.F.slot_list_append PySem.F.type_list_append mt_append (pv 5) (pa_cons (pe_tup (pa_cons (pe_op op_cat (pv 3) (pe_lst (pa_cons pe_str (pa_cons pe_str (pa_cons (pe_op op_add_str pe_str (pv 4)) pa_nil))))) (pa_cons pe_int pa_nil))) pa_nil)))
      (pss_cons (ps_expr (pe_bm PySem.F.plainAttrs_list PySem.F.slot_list_append PySem.F.type_list_append mt_append (pv 5) (pa_cons (pe_tup (pa_cons (pe_op op_cat (pv 3) (pe_lst (pa_cons pe_str (pa_cons pe_str pa_nil)))) (pa_cons pe_int pa_nil))) pa_nil)))
      (pss_cons (ps_expr (pe_bm PySem.F.plainAttrs_list PySem.F.slot_list_append PySem.F.type_list_append mt_append (pv 5) (pa_cons (pe_tup (pa_cons (pe_op op_cat (pv 3) (pe_lst (pa_cons pe_str (pa_cons pe_str (pa_cons pe_str (pa_cons pe_str pa_nil)))))) (pa_cons pe_int pa_nil))) pa_nil)))
      (pss_cons (ps_expr (pe_bm PySem.F.plainAttrs_list PySem.F.slot_list_append PySem.F.type_list_append mt_append (pv 5) (pa_cons (pe_tup (pa_cons (pe_op op_cat (pv 3) (pe_lst (pa_cons pe_str (pa_cons pe_str (pa_cons pe_str (pa_cons pe_str (pa_cons pe_str (pa_cons pe_str pa_nil)))))))) (pa_cons pe_int pa_nil))) pa_nil)))
      (pss_cons (ps_expr (pe_bm PySem.F.plainAttrs_list PySem.F.slot_list_append PySem.F.type_list_append mt_append (pv 5) (pa_cons (pe_tup (pa_cons (pe_op op_cat (pv 3) (pe_lst (pa_cons pe_str (pa_cons (pe_op op_add_str pe_str (pv 4)) (pa_cons pe_str (pa_cons pe_str pa_nil)))))) (pa_cons pe_int pa_nil))) pa_nil)))
      (pss_cons (ps_expr (pe_bm PySem.F.plainAttrs_list PySem.F.slot_list_append PySem.F.type_list_append mt_append (pv 5) (pa_cons (pe_tup (pa_cons (pe_op op_cat (pv 3) (pe_lst (pa_cons pe_str (pa_cons pe_str pa_nil)))) (pa_cons pe_int pa_nil))) pa_nil)))
      (pss_cons (ps_expr (pe_bm PySem.F.plainAttrs_list PySem.F.slot_list_append PySem.F.type_list_append mt_append (pv 5) (pa_cons (pe_tup (pa_cons (pe_op op_cat (pv 3) (pe_lst (pa_cons pe_str (pa_cons pe_str pa_nil)))) (pa_cons pe_int pa_nil))) pa_nil)))
      (pss_cons (ps_expr (pe_bm PySem.F.plainAttrs_list PySem.F.slot_list_append PySem.F.type_list_append mt_append (pv 5) (pa_cons (pe_tup (pa_cons (pe_op op_cat (pv 3) (pe_lst (pa_cons pe_str (pa_cons pe_str pa_nil)))) (pa_cons pe_int pa_nil))) pa_nil)))
      (pss_one (ps_ret (pe_op op_cat (pv 5) (pe_lst (pa_cons (pe_tup (pa_cons (pe_op op_cat (pv 3) (pe_lst (pa_cons pe_str (pa_cons pe_str pa_nil)))) (pa_cons pe_int pa_nil))) (pa_cons (pe_tup (pa_cons (pe_op op_cat (pv 3) (pe_lst (pa_cons pe_str pa_nil))) (pa_cons pe_int pa_nil))) (pa_cons (pe_tup (pa_cons (pe_op op_cat (pv 3) (pe_lst (pa_cons pe_str pa_nil))) (pa_cons pe_int pa_nil))) pa_nil))))))))))))))))))))), ?_⟩
    have ha : (askC p).length ≤ 180 := by
      have l1 : ("ask " : Str).length = 4 := by decide +kernel
      have l2 : (" get it" : Str).length = 7 := by decide +kernel
      unfold askC
      rw [app_len, app_len]
      omega
    have hereC_ne : hereC c p d ≠ [] := by simp [hereC, headC]
    dsimp only [tSeq]
    have vh : LV (tOp rCat (tCall spLawHead [] E0 (tCons (tVar 0) (tCons (tVar 1) tNil))) (tLst (tCons (tOp rAddS (tC (.str "door ")) (tVar 2)) tNil))) (start ["_law_c", "_law_p", "_law_d", "_law_head_here", "_law_ask", "_law_found"] [.str c, .str p, .str d]) H (hereC c p d) :=
      LV.cat (fun H1 Q s q => ⟨_, rfl, _, rfl, c, p, rfl, hc, hp, q⟩) (LV.lst (AV.cons (SN.add (SN.k (by decide +kernel)) (SN.w (j := 2) rfl hd) (by decide)) AV.nil) (Nat.le_of_ble_eq_true rfl)) (Nat.le_of_ble_eq_true rfl)
    refine vh H _ (Same.refl _) fun H1 b s1 hh => ?_
    refine (SV.add (SV.add SV.c (SV.v (j := 1) rfl) (by have l1 : ("ask " : Str).length = 4 := by decide +kernel
                                                        omega)) SV.c (by have l1 : ("ask " : Str).length = 4 := by decide +kernel
                                                                         have l2 : (" get it" : Str).length = 7 := by decide +kernel
                                                                         rw [app_len]
                                                                         omega) H1 (Same.refl _)) _ ?_
    refine ⟨_, _, rfl, ?_⟩
    dsimp only [tSeq, tAsg]
    have c0 := AC.cons (σ := [some (.str c), some (.str p), some (.str d), some (.ref b), some (.str (askC p)), none]) (H := H1) (CV.mk (LV.cat (LV.v (j := 3) (by rfl) hh) (LV.lst (AV.cons (SN.k (z := "  if lost") (by decide +kernel)) (AV.cons (SN.k (z := "    if busy") (by decide +kernel)) (AV.cons ((SN.add ((SN.add (SN.k (z := "      set ") (by decide +kernel)) ((SN.w (j := 0) (by rfl) hc)) (by decide))) (SN.k (z := " got") (by decide +kernel)) (by decide))) (AV.nil)))) (Nat.le_of_ble_eq_true rfl)) (Nat.le_of_ble_eq_true rfl)) (fun H => show Val (tUn (rU fun i => .int (-i)) (tC (.int 2))) _ H (.int (-2)) from val_neg val_c)) AC.nil
    refine c0 H1 _ (Same.refl _) fun H2 xs s2 hx => ⟨by rw [Paired.length hx]; exact (by decide : 1 ≤ sizeLine), fun f nf => ?_⟩
    have s3 := same_upd (o := .lst xs) nf
    have hf : (upd H2 f (.lst xs)) f = some (.lst xs) := upd_same
    have nH : H f = none := s1.free (s2.free nf)
    have hh := s3 _ _ (s2 _ _ hh)
    have hx := hx.mono s3
    have sk : ∀ b o, b ≠ f → H b = some o → (upd H2 f (.lst xs)) b = some o := fun b o _ e => s3 _ _ (s2 _ _ (s1 _ _ e))
    generalize (upd H2 f (.lst xs)) = H2 at hf hh hx sk
    dsimp only [gName]
    have F : FdAt H2 f [(hereC c p d ++ [("  if lost" : Str), ("    if busy" : Str), ((("      set " : Str) ++ c) ++ (" got" : Str))], (-2))] := ⟨xs, hf, hx, by simp, fun q hq => by
      rw [List.mem_singleton.mp hq]
      simp [hereC, headC]⟩
    have v1 := (show CV _ [some (.str c), some (.str p), some (.str d), some (.ref b), some (.str (askC p)), some (.ref f)] H2 _ from (CV.mk (LV.cat (LV.v (j := 3) (by rfl) hh) (LV.lst (AV.cons (SN.k (z := "  if lost") (by decide +kernel)) (AV.cons (SN.k (z := "    if busy") (by decide +kernel)) (AV.cons (SN.k (z := "      if lost") (by decide +kernel)) (AV.cons (SN.k (z := "        fail") (by decide +kernel)) (AV.nil))))) (Nat.le_of_ble_eq_true rfl)) (Nat.le_of_ble_eq_true rfl)) (fun H => show Val (tC (.int 5)) _ H (.int 5) from val_c)))
    dsimp only [tSeq]
    refine fd_app (i := 5) rfl F (Nat.le_of_ble_eq_true rfl) (by simp [hereC, headC]) v1 fun G1 F b1 l1 => ?_
    have hh := l1 _ _ hereC_ne hh
    have sk : ∀ b o, b ≠ f → H b = some o → G1 b = some o := fun b o n e => b1 b o n (sk b o n e)
    have v2 := (show CV _ [some (.str c), some (.str p), some (.str d), some (.ref b), some (.str (askC p)), some (.ref f)] G1 _ from (CV.mk (LV.cat (LV.v (j := 3) (by rfl) hh) (LV.lst (AV.cons (SN.k (z := "  if lost") (by decide +kernel)) (AV.cons (SN.k (z := "    if busy") (by decide +kernel)) (AV.cons (SN.k (z := "      while lost") (by decide +kernel)) (AV.cons ((SN.add (SN.k (z := "        ") (by decide +kernel)) ((SN.w (j := 4) (by rfl) ha)) (by decide))) (AV.nil))))) (Nat.le_of_ble_eq_true rfl)) (Nat.le_of_ble_eq_true rfl)) (fun H => show Val (tC (.int 5)) _ H (.int 5) from val_c)))
    dsimp only [tSeq]
    refine fd_app (i := 5) rfl F (Nat.le_of_ble_eq_true rfl) (by simp [hereC, headC]) v2 fun G2 F b2 l2 => ?_
    have hh := l2 _ _ hereC_ne hh
    have sk : ∀ b o, b ≠ f → H b = some o → G2 b = some o := fun b o n e => b2 b o n (sk b o n e)
    have v3 := (show CV _ [some (.str c), some (.str p), some (.str d), some (.ref b), some (.str (askC p)), some (.ref f)] G2 _ from (CV.mk (LV.cat (LV.v (j := 3) (by rfl) hh) (LV.lst (AV.cons ((SN.add ((SN.add (SN.k (z := "  while ") (by decide +kernel)) ((SN.w (j := 0) (by rfl) hc)) (by decide))) (SN.k (z := " = it") (by decide +kernel)) (by decide))) (AV.cons ((SN.add (SN.k (z := "    ") (by decide +kernel)) ((SN.w (j := 4) (by rfl) ha)) (by decide))) (AV.cons (SN.k (z := "    while busy") (by decide +kernel)) (AV.cons ((SN.add (SN.k (z := "      ") (by decide +kernel)) ((SN.w (j := 4) (by rfl) ha)) (by decide))) (AV.nil))))) (Nat.le_of_ble_eq_true rfl)) (Nat.le_of_ble_eq_true rfl)) (fun H => show Val (tUn (rU fun i => .int (-i)) (tC (.int 2))) _ H (.int (-2)) from val_neg val_c)))
    dsimp only [tSeq]
    refine fd_app (i := 5) rfl F (Nat.le_of_ble_eq_true rfl) (by simp [hereC, headC]) v3 fun G3 F b3 l3 => ?_
    have hh := l3 _ _ hereC_ne hh
    have sk : ∀ b o, b ≠ f → H b = some o → G3 b = some o := fun b o n e => b3 b o n (sk b o n e)
    have v4 := (show CV _ [some (.str c), some (.str p), some (.str d), some (.ref b), some (.str (askC p)), some (.ref f)] G3 _ from (CV.mk (LV.cat (LV.v (j := 3) (by rfl) hh) (LV.lst (AV.cons (SN.k (z := "  while lost") (by decide +kernel)) (AV.cons (SN.k (z := "    fail") (by decide +kernel)) (AV.cons ((SN.add (SN.k (z := "    ") (by decide +kernel)) ((SN.w (j := 4) (by rfl) ha)) (by decide))) (AV.nil)))) (Nat.le_of_ble_eq_true rfl)) (Nat.le_of_ble_eq_true rfl)) (fun H => show Val (tC (.int 4)) _ H (.int 4) from val_c)))
    dsimp only [tSeq]
    refine fd_app (i := 5) rfl F (Nat.le_of_ble_eq_true rfl) (by simp [hereC, headC]) v4 fun G4 F b4 l4 => ?_
    have hh := l4 _ _ hereC_ne hh
    have sk : ∀ b o, b ≠ f → H b = some o → G4 b = some o := fun b o n e => b4 b o n (sk b o n e)
    have v5 := (show CV _ [some (.str c), some (.str p), some (.str d), some (.ref b), some (.str (askC p)), some (.ref f)] G4 _ from (CV.mk (LV.cat (LV.v (j := 3) (by rfl) hh) (LV.lst (AV.cons (SN.k (z := "  while lost") (by decide +kernel)) (AV.cons (SN.k (z := "    if lost") (by decide +kernel)) (AV.cons ((SN.add (SN.k (z := "      ") (by decide +kernel)) ((SN.w (j := 4) (by rfl) ha)) (by decide))) (AV.nil)))) (Nat.le_of_ble_eq_true rfl)) (Nat.le_of_ble_eq_true rfl)) (fun H => show Val (tC (.int 4)) _ H (.int 4) from val_c)))
    dsimp only [tSeq]
    refine fd_app (i := 5) rfl F (Nat.le_of_ble_eq_true rfl) (by simp [hereC, headC]) v5 fun G5 F b5 l5 => ?_
    have hh := l5 _ _ hereC_ne hh
    have sk : ∀ b o, b ≠ f → H b = some o → G5 b = some o := fun b o n e => b5 b o n (sk b o n e)
    have v6 := (show CV _ [some (.str c), some (.str p), some (.str d), some (.ref b), some (.str (askC p)), some (.ref f)] G5 _ from (CV.mk (LV.cat (LV.v (j := 3) (by rfl) hh) (LV.lst (AV.cons (SN.k (z := "  if lost") (by decide +kernel)) (AV.cons (SN.k (z := "  fail") (by decide +kernel)) (AV.nil))) (Nat.le_of_ble_eq_true rfl)) (Nat.le_of_ble_eq_true rfl)) (fun H => show Val (tC (.int 4)) _ H (.int 4) from val_c)))
    dsimp only [tSeq]
    refine fd_app (i := 5) rfl F (Nat.le_of_ble_eq_true rfl) (by simp [hereC, headC]) v6 fun G6 F b6 l6 => ?_
    have hh := l6 _ _ hereC_ne hh
    have sk : ∀ b o, b ≠ f → H b = some o → G6 b = some o := fun b o n e => b6 b o n (sk b o n e)
    have v7 := (show CV _ [some (.str c), some (.str p), some (.str d), some (.ref b), some (.str (askC p)), some (.ref f)] G6 _ from (CV.mk (LV.cat (LV.v (j := 3) (by rfl) hh) (LV.lst (AV.cons (SN.k (z := "  if lost") (by decide +kernel)) (AV.cons (SN.k (z := "    fail") (by decide +kernel)) (AV.cons (SN.k (z := "  else") (by decide +kernel)) (AV.cons (SN.k (z := "  fail") (by decide +kernel)) (AV.nil))))) (Nat.le_of_ble_eq_true rfl)) (Nat.le_of_ble_eq_true rfl)) (fun H => show Val (tC (.int 6)) _ H (.int 6) from val_c)))
    dsimp only [tSeq]
    refine fd_app (i := 5) rfl F (Nat.le_of_ble_eq_true rfl) (by simp [hereC, headC]) v7 fun G7 F b7 l7 => ?_
    have hh := l7 _ _ hereC_ne hh
    have sk : ∀ b o, b ≠ f → H b = some o → G7 b = some o := fun b o n e => b7 b o n (sk b o n e)
    have v8 := (show CV _ [some (.str c), some (.str p), some (.str d), some (.ref b), some (.str (askC p)), some (.ref f)] G7 _ from (CV.mk (LV.cat (LV.v (j := 3) (by rfl) hh) (LV.lst (AV.cons (SN.k (z := "  if lost") (by decide +kernel)) (AV.cons (SN.k (z := "    fail") (by decide +kernel)) (AV.cons (SN.k (z := "  else") (by decide +kernel)) (AV.cons (SN.k (z := "    fail") (by decide +kernel)) (AV.cons (SN.k (z := "  else") (by decide +kernel)) (AV.cons (SN.k (z := "    fail") (by decide +kernel)) (AV.nil))))))) (Nat.le_of_ble_eq_true rfl)) (Nat.le_of_ble_eq_true rfl)) (fun H => show Val (tC (.int 7)) _ H (.int 7) from val_c)))
    dsimp only [tSeq]
    refine fd_app (i := 5) rfl F (Nat.le_of_ble_eq_true rfl) (by simp [hereC, headC]) v8 fun G8 F b8 l8 => ?_
    have hh := l8 _ _ hereC_ne hh
    have sk : ∀ b o, b ≠ f → H b = some o → G8 b = some o := fun b o n e => b8 b o n (sk b o n e)
    have v9 := (show CV _ [some (.str c), some (.str p), some (.str d), some (.ref b), some (.str (askC p)), some (.ref f)] G8 _ from (CV.mk (LV.cat (LV.v (j := 3) (by rfl) hh) (LV.lst (AV.cons (SN.k (z := "  while lost") (by decide +kernel)) (AV.cons ((SN.add (SN.k (z := "    ") (by decide +kernel)) ((SN.w (j := 4) (by rfl) ha)) (by decide))) (AV.cons (SN.k (z := "  else") (by decide +kernel)) (AV.cons (SN.k (z := "    fail") (by decide +kernel)) (AV.nil))))) (Nat.le_of_ble_eq_true rfl)) (Nat.le_of_ble_eq_true rfl)) (fun H => show Val (tC (.int 5)) _ H (.int 5) from val_c)))
    dsimp only [tSeq]
    refine fd_app (i := 5) rfl F (Nat.le_of_ble_eq_true rfl) (by simp [hereC, headC]) v9 fun G9 F b9 l9 => ?_
    have hh := l9 _ _ hereC_ne hh
    have sk : ∀ b o, b ≠ f → H b = some o → G9 b = some o := fun b o n e => b9 b o n (sk b o n e)
    have v10 := (show CV _ [some (.str c), some (.str p), some (.str d), some (.ref b), some (.str (askC p)), some (.ref f)] G9 _ from (CV.mk (LV.cat (LV.v (j := 3) (by rfl) hh) (LV.lst (AV.cons (SN.k (z := "  else") (by decide +kernel)) (AV.cons (SN.k (z := "    fail") (by decide +kernel)) (AV.nil))) (Nat.le_of_ble_eq_true rfl)) (Nat.le_of_ble_eq_true rfl)) (fun H => show Val (tC (.int 3)) _ H (.int 3) from val_c)))
    dsimp only [tSeq]
    refine fd_app (i := 5) rfl F (Nat.le_of_ble_eq_true rfl) (by simp [hereC, headC]) v10 fun G10 F b10 l10 => ?_
    have hh := l10 _ _ hereC_ne hh
    have sk : ∀ b o, b ≠ f → H b = some o → G10 b = some o := fun b o n e => b10 b o n (sk b o n e)
    have v11 := (show CV _ [some (.str c), some (.str p), some (.str d), some (.ref b), some (.str (askC p)), some (.ref f)] G10 _ from (CV.mk (LV.cat (LV.v (j := 3) (by rfl) hh) (LV.lst (AV.cons (SN.k (z := "  fail") (by decide +kernel)) (AV.cons (SN.k (z := "    fail") (by decide +kernel)) (AV.nil))) (Nat.le_of_ble_eq_true rfl)) (Nat.le_of_ble_eq_true rfl)) (fun H => show Val (tC (.int 4)) _ H (.int 4) from val_c)))
    dsimp only [tSeq]
    refine fd_app (i := 5) rfl F (Nat.le_of_ble_eq_true rfl) (by simp [hereC, headC]) v11 fun G11 F b11 l11 => ?_
    have hh := l11 _ _ hereC_ne hh
    have sk : ∀ b o, b ≠ f → H b = some o → G11 b = some o := fun b o n e => b11 b o n (sk b o n e)
    have v12 := (show CV _ [some (.str c), some (.str p), some (.str d), some (.ref b), some (.str (askC p)), some (.ref f)] G11 _ from (CV.mk (LV.cat (LV.v (j := 3) (by rfl) hh) (LV.lst (AV.cons (SN.k (z := "  if lost") (by decide +kernel)) (AV.cons (SN.k (z := "      fail") (by decide +kernel)) (AV.nil))) (Nat.le_of_ble_eq_true rfl)) (Nat.le_of_ble_eq_true rfl)) (fun H => show Val (tC (.int 4)) _ H (.int 4) from val_c)))
    dsimp only [tSeq]
    refine fd_app (i := 5) rfl F (Nat.le_of_ble_eq_true rfl) (by simp [hereC, headC]) v12 fun G12 F b12 l12 => ?_
    have hh := l12 _ _ hereC_ne hh
    have sk : ∀ b o, b ≠ f → H b = some o → G12 b = some o := fun b o n e => b12 b o n (sk b o n e)
    have vt := CL.cat (CL.v (j := 5) (σ := [some (.str c), some (.str p), some (.str d), some (.ref b), some (.str (askC p)), some (.ref f)]) rfl F) (CL.lst (AC.cons (CV.mk (LV.cat (LV.v (j := 3) (by rfl) hh) (LV.lst (AV.cons (SN.k (z := "  if lost") (by decide +kernel)) (AV.cons (SN.k (z := "   fail") (by decide +kernel)) (AV.nil))) (Nat.le_of_ble_eq_true rfl)) (Nat.le_of_ble_eq_true rfl)) (fun H => show Val (tC (.int 4)) _ H (.int 4) from val_c)) (AC.cons (CV.mk (LV.cat (LV.v (j := 3) (by rfl) hh) (LV.lst (AV.cons (SN.k (z := " fail") (by decide +kernel)) (AV.nil)) (Nat.le_of_ble_eq_true rfl)) (Nat.le_of_ble_eq_true rfl)) (fun H => show Val (tC (.int 3)) _ H (.int 3) from val_c)) (AC.cons (CV.mk (LV.cat (LV.v (j := 3) (by rfl) hh) (LV.lst (AV.cons (SN.k (z := "fail") (by decide +kernel)) (AV.nil)) (Nat.le_of_ble_eq_true rfl)) (Nat.le_of_ble_eq_true rfl)) (fun H => show Val (tC (.int 3)) _ H (.int 3) from val_c)) (AC.nil)))) (Nat.le_of_ble_eq_true rfl)) (Nat.le_of_ble_eq_true rfl)
    dsimp only [tRet]
    refine vt G12 _ (Same.refl _) fun H' q xs2 s9 h1 h2 => ?_
    exact k H' q xs2 (fun b o e => s9 _ _ (sk b o (ne_of_none e nH) e)) h1 h2
end
end K5
namespace K5
open PySem PySem.Spec PyProof.Rows L2
/-! ### a text is split as it was joined -/
theorem cut_at {c : Nat} : ∀ {x y a b : List Nat}, c ∉ x → c ∉ y → x ++ c :: a = y ++ c :: b → x = y ∧ a = b
  | [], [], a, b, _, _, h => by
    injection h with _ h
    exact ⟨rfl, h⟩
  | [], z :: y, a, b, _, h2, h => by
    injection h with h _
    exact absurd (by rw [h]; exact List.mem_cons_self ..) h2
  | z :: x, [], a, b, h1, _, h => by
    injection h with h _
    exact absurd (by rw [← h]; exact List.mem_cons_self ..) h1
  | z :: x, w :: y, a, b, h1, h2, h => by
    injection h with e h
    obtain ⟨q1, q2⟩ := cut_at (x := x) (y := y) (fun q => h1 (List.mem_cons_of_mem _ q)) (fun q => h2 (List.mem_cons_of_mem _ q)) h
    exact ⟨by rw [e, q1], q2⟩
theorem str_list {x y : Str} (h : x.cps.toList = y.cps.toList) : x = y := by
  cases x
  cases y
  congr
  exact Array.toList_inj.mp h
theorem join_list (c : Nat) (x z : Str) (r : List Str) : (Str.join ⟨#[c]⟩ (x :: z :: r)).cps.toList = x.cps.toList ++ c :: (Str.join ⟨#[c]⟩ (z :: r)).cps.toList := by
  show (x ++ (⟨#[c]⟩ : Str) ++ Str.join ⟨#[c]⟩ (z :: r)).cps.toList = _
  rw [cps_append, cps_append, List.append_assoc]
  rfl
theorem join_inj {c : Nat} : ∀ {ps qs : List Str}, ps ≠ [] → qs ≠ [] → (∀ p ∈ ps, c ∉ p.cps.toList) → (∀ q ∈ qs, c ∉ q.cps.toList) → (Str.join ⟨#[c]⟩ ps).cps.toList = (Str.join ⟨#[c]⟩ qs).cps.toList → ps = qs
  | [], _, h, _, _, _, _ => absurd rfl h
  | _, [], _, h, _, _, _ => absurd rfl h
  | [x], [y], _, _, _, _, h => by rw [str_list (x := x) (y := y) h]
  | [x], y :: w :: r, _, _, h1, h2, h => by
    rw [join_list] at h
    have hx : c ∈ x.cps.toList := by
      rw [show x.cps.toList = _ from h]
      exact List.mem_append_right _ (List.mem_cons_self ..)
    exact absurd hx (h1 x (List.mem_cons_self ..))
  | x :: w :: r, [y], _, _, h1, h2, h => by
    rw [join_list] at h
    have hy : c ∈ y.cps.toList := by
      rw [show y.cps.toList = _ from h.symm]
      exact List.mem_append_right _ (List.mem_cons_self ..)
    exact absurd hy (h2 y (List.mem_cons_self ..))
  | x :: z :: r, y :: w :: t, _, _, h1, h2, h => by
    rw [join_list, join_list] at h
    obtain ⟨e1, e2⟩ := cut_at (h1 x (List.mem_cons_self ..)) (h2 y (List.mem_cons_self ..)) h
    rw [str_list e1, join_inj (ps := z :: r) (qs := w :: t) (fun q => nomatch q) (fun q => nomatch q) (fun p hp => h1 p (List.mem_cons_of_mem _ hp)) (fun p hp => h2 p (List.mem_cons_of_mem _ hp)) e2]
theorem split_ne (x : Str) (c : Nat) : Txt.split x ⟨#[c]⟩ ≠ [] := by
  unfold Txt.split
  split
  · exact fun e => nomatch e
  · split
    · exact fun e => nomatch e
    · rw [StrLaws.partsBetween_eq]
      obtain ⟨p, r, h⟩ := StrLaws.partsFrom_ne x (⟨#[c]⟩ : Str).length 0 (Builtin.Str.occurrences x ⟨#[c]⟩ 0 x.length (x.length + 1))
      rw [h]
      exact fun e => nomatch e
theorem split_join {c : Nat} {ps : List Str} (ne : ps ≠ []) (free : ∀ p ∈ ps, c ∉ p.cps.toList) : Txt.split (Str.join ⟨#[c]⟩ ps) ⟨#[c]⟩ = ps :=
  join_inj (split_ne _ _) ne (StrLaws.split_free _ c) free (by rw [StrLaws.join_split])
theorem rows_join {ps : List Str} (ne : ps ≠ []) (free : ∀ p ∈ ps, 10 ∉ p.cps.toList) : rowsOf (Str.join "\n" ps) = ps := by
  have e : ("\n" : Str) = ⟨#[10]⟩ := by decide +kernel
  unfold rowsOf
  rw [e]
  exact split_join ne free
end K5
namespace K5
open PySem PySem.Spec PyProof.Rows L2
/-! ### the mirror over codes of words -/
/-- how words are coded: rho, below N; names, doors, numbers by tables -/
structure Cod where
  rho : Nat → Str
  N : Nat
  nm : Nat → Bool
  dr : Nat → Bool
  nu : Nat → Int
def kwL : List Str := ["cell", "port", "door", "set", "add", "draw", "ask", "answer", "fail", "if", "while", "else", "it", "got", "lost", "busy", "=", "!="]
structure CodOk (O : Cod) (wn : Int) : Prop where
  inj : ∀ a b, a < O.N → b < O.N → O.rho a = O.rho b → a = b
  big : 18 ≤ O.N
  kw : ∀ a, a < 18 → O.rho a = kwL.getD a ""
  nm : ∀ a, a < O.N → isName (O.rho a) = O.nm a
  dr : ∀ a, a < O.N → isDoor (O.rho a) = O.dr a
  nu : ∀ a, a < O.N → numOf (O.rho a) wn = O.nu a
/-- rows: of each its words at the depths 0 to 3 -/
abbrev RowsN := List (List (List Nat))
def wordsN (rows : RowsN) (n dp : Nat) : List Nat := (rows.getD n []).getD dp []
structure TxN where
  (rows : RowsN) (cells ports : List Nat)
def RowsOk (O : Cod) (rows : List Str) (rn : RowsN) : Prop := rows.length = rn.length ∧ ∀ n dp, dp ≤ 3 → wordsAt rows n dp = (wordsN rn n dp).map O.rho ∧ ∀ a ∈ wordsN rn n dp, a < O.N
section
variable {O : Cod} {wn : Int}
theorem CodOk.eq (h : CodOk O wn) {a b : Nat} (ha : a < O.N) (hb : b < O.N) : decide (O.rho a = O.rho b) = decide (a = b) := decide_eq_decide.mpr ⟨h.inj a b ha hb, fun e => by rw [e]⟩
theorem CodOk.mem (h : CodOk O wn) {a : Nat} {l : List Nat} (ha : a < O.N) (hl : ∀ b ∈ l, b < O.N) : decide (O.rho a ∈ l.map O.rho) = decide (a ∈ l) := decide_eq_decide.mpr ⟨fun e => by
  obtain ⟨b, h1, h2⟩ := List.mem_map.mp e
  rw [← h.inj b a (hl b h1) ha h2]
  exact h1, fun e => List.mem_map.mpr ⟨a, e, rfl⟩⟩
theorem CodOk.one (h : CodOk O wn) {a k : Nat} {z : Str} (ha : a < O.N) (hk : k < 18) (hz : kwL.getD k "" = z) : decide (O.rho a = z) = decide (a = k) := by
  rw [← hz, ← h.kw k hk]
  exact h.eq ha (Nat.lt_of_lt_of_le hk h.big)
theorem CodOk.two (h : CodOk O wn) {a k j : Nat} {y z : Str} (ha : a < O.N) (hk : k < 18) (hj : j < 18) (hy : kwL.getD k "" = y) (hz : kwL.getD j "" = z) : decide (O.rho a ∈ [y, z]) = decide (a ∈ [k, j]) := by
  rw [← hy, ← hz, ← h.kw k hk, ← h.kw j hj]
  refine h.mem (l := [k, j]) ha fun b hb => ?_
  have := h.big
  simp only [List.mem_cons, List.not_mem_nil, or_false] at hb
  omega
theorem CodOk.list (h : CodOk O wn) : ∀ {l m : List Nat}, (∀ b ∈ l, b < O.N) → (∀ b ∈ m, b < O.N) → decide (l.map O.rho = m.map O.rho) = decide (l = m) := fun {l m} hl hm => decide_eq_decide.mpr ⟨fun e => by
  induction l generalizing m with
  | nil =>
    cases m with
    | nil => rfl
    | cons y m => cases e
  | cons x l ih =>
    cases m with
    | nil => cases e
    | cons y m =>
      injection e with e1 e2
      rw [h.inj x y (hl x (List.mem_cons_self ..)) (hm y (List.mem_cons_self ..)) e1, ih (fun b hb => hl b (List.mem_cons_of_mem _ hb)) (fun b hb => hm b (List.mem_cons_of_mem _ hb)) e2], fun e => by rw [e]⟩
/-! expressions -/
def srcN (O : Cod) (T : TxN) (z : Nat) : Bool := decide (z ∈ [12, 13]) || decide (z ∈ T.cells) || decide (0 ≤ O.nu z)
structure TOk (O : Cod) (wn : Int) (T : Tx) (U : TxN) : Prop where
  o : CodOk O wn
  w : T.w = wn
  c : T.cells = U.cells.map O.rho
  cb : ∀ b ∈ U.cells, b < O.N
  p : T.ports = U.ports.map O.rho
  pb : ∀ b ∈ U.ports, b < O.N
  r : RowsOk O T.rows U.rows
variable {T : Tx} {U : TxN}
theorem src_eq (h : TOk O wn T U) {a : Nat} (ha : a < O.N) : srcOk T (O.rho a) = srcN O U a := by
  unfold srcOk srcN
  rw [h.o.two (y := "it") (z := "got") ha (k := 12) (j := 13) (by decide) (by decide) rfl rfl, h.c, h.o.mem ha h.cb, h.w, h.o.nu a ha]
def condN (O : Cod) (T : TxN) (ws : List Nat) : Bool := match ws with
  | [a] => decide (a ∈ [14, 15])
  | [a, b, c] => decide (b ∈ [16, 17]) && srcN O T a && srcN O T c
  | _ => false
theorem cond_eq (h : TOk O wn T U) : ∀ {ws : List Nat}, (∀ a ∈ ws, a < O.N) → condOk T (ws.map O.rho) = condN O U ws
  | [], _ => rfl
  | [a], hb => by
    have ha := hb a (by simp)
    show ((true && decide (O.rho a ∈ (["lost", "busy"] : List Str))) || (false && _ && _ && _)) = decide (a ∈ [14, 15])
    rw [h.o.two (y := "lost") (z := "busy") ha (k := 14) (j := 15) (by decide) (by decide) rfl rfl]
    simp
  | [a, b], _ => rfl
  | [a, b, c], hb => by
    have ha := hb a (by simp)
    have hB := hb b (by simp)
    have hc := hb c (by simp)
    show ((false && _) || (true && decide (O.rho b ∈ (["=", "!="] : List Str)) && srcOk T (O.rho a) && srcOk T (O.rho c))) = (decide (b ∈ [16, 17]) && srcN O U a && srcN O U c)
    rw [h.o.two (y := "=") (z := "!=") hB (k := 16) (j := 17) (by decide) (by decide) rfl rfl, src_eq h ha, src_eq h hc]
    simp
  | _ :: _ :: _ :: _ :: _, _ => rfl
def askN (O : Cod) (T : TxN) (p d z : Nat) : Bool := decide (p ∈ T.ports) && O.dr d && srcN O T z
theorem ask_eq (h : TOk O wn T U) {p d z : Nat} (hp : p < O.N) (hd : d < O.N) (hz : z < O.N) : askOk T (O.rho p) (O.rho d) (O.rho z) = askN O U p d z := by
  unfold askOk askN
  rw [h.p, h.o.mem hp h.pb, h.o.dr d hd, src_eq h hz]
def plainN (O : Cod) (T : TxN) (ws : List Nat) : Bool := match ws with
  | [] => false
  | x :: r =>
    if (decide (x ∈ [3, 4]) && decide (r.length = 2)) = true then decide (r.getD 0 0 ∈ T.cells) && srcN O T (r.getD 1 0)
    else if (decide (x = 5) && decide (r.length = 1)) = true then decide (r.getD 0 0 ∈ T.cells)
    else if (decide (x = 6) && decide (r.length = 3)) = true then askN O T (r.getD 0 0) (r.getD 1 0) (r.getD 2 0)
    else if (decide (x = 7) && decide (r.length = 1)) = true then srcN O T (r.getD 0 0)
    else decide (ws = [8])
theorem plain_eq (h : TOk O wn T U) {ws : List Nat} (hb : ∀ a ∈ ws, a < O.N) : plainOk T (ws.map O.rho) = plainN O U ws := by
  cases ws with
  | nil => rfl
  | cons x r =>
    have hx := hb x (List.mem_cons_self ..)
    have hr : ∀ a ∈ r, a < O.N := fun a q => hb a (List.mem_cons_of_mem _ q)
    have q8 : ∀ b ∈ [8], b < O.N := fun b q => by
      rw [List.mem_singleton.mp q]
      have := h.o.big
      omega
    have e8 : (["fail"] : List Str) = [8].map O.rho := by
      show _ = [O.rho 8]
      rw [h.o.kw 8 (by decide)]
      rfl
    show (if (decide (O.rho x ∈ (["set", "add"] : List Str)) && decide ((r.map O.rho).length = 2)) = true then decide ((r.map O.rho).getD 0 "" ∈ T.cells) && srcOk T ((r.map O.rho).getD 1 "")
      else if (decide (O.rho x = ("draw" : Str)) && decide ((r.map O.rho).length = 1)) = true then decide ((r.map O.rho).getD 0 "" ∈ T.cells)
      else if (decide (O.rho x = ("ask" : Str)) && decide ((r.map O.rho).length = 3)) = true then askOk T ((r.map O.rho).getD 0 "") ((r.map O.rho).getD 1 "") ((r.map O.rho).getD 2 "")
      else if (decide (O.rho x = ("answer" : Str)) && decide ((r.map O.rho).length = 1)) = true then srcOk T ((r.map O.rho).getD 0 "")
      else decide (((x :: r).map O.rho) = (["fail"] : List Str))) = _
    rw [h.o.two (y := "set") (z := "add") hx (k := 3) (j := 4) (by decide) (by decide) rfl rfl, h.o.one (z := "draw") hx (k := 5) (by decide) rfl, h.o.one (z := "ask") hx (k := 6) (by decide) rfl, h.o.one (z := "answer") hx (k := 7) (by decide) rfl, e8, h.o.list hb q8, List.length_map]
    unfold plainN
    dsimp only
    match r, hr with
    | [], _ =>
      show (if (decide (x ∈ [3, 4]) && false) = true then _ else if (decide (x = 5) && false) = true then _ else if (decide (x = 6) && false) = true then _ else if (decide (x = 7) && false) = true then _ else decide ([x] = [8])) = (if (decide (x ∈ [3, 4]) && false) = true then _ else if (decide (x = 5) && false) = true then _ else if (decide (x = 6) && false) = true then _ else if (decide (x = 7) && false) = true then _ else decide ([x] = [8]))
      simp only [Bool.and_false, Bool.false_eq_true, if_false]
    | [a], hr =>
      have ha := hr a (by simp)
      show (if (decide (x ∈ [3, 4]) && false) = true then _ else if (decide (x = 5) && true) = true then decide (O.rho a ∈ T.cells) else if (decide (x = 6) && false) = true then _ else if (decide (x = 7) && true) = true then srcOk T (O.rho a) else _) = (if (decide (x ∈ [3, 4]) && false) = true then _ else if (decide (x = 5) && true) = true then decide (a ∈ U.cells) else if (decide (x = 6) && false) = true then _ else if (decide (x = 7) && true) = true then srcN O U a else _)
      rw [h.c, h.o.mem ha h.cb, src_eq h ha]
      simp only [Bool.and_false, Bool.false_eq_true, if_false]
    | [a, b], hr =>
      have ha := hr a (by simp)
      have hB := hr b (by simp)
      show (if (decide (x ∈ [3, 4]) && true) = true then decide (O.rho a ∈ T.cells) && srcOk T (O.rho b) else if (decide (x = 5) && false) = true then _ else if (decide (x = 6) && false) = true then _ else if (decide (x = 7) && false) = true then _ else _) = (if (decide (x ∈ [3, 4]) && true) = true then decide (a ∈ U.cells) && srcN O U b else if (decide (x = 5) && false) = true then _ else if (decide (x = 6) && false) = true then _ else if (decide (x = 7) && false) = true then _ else _)
      rw [h.c, h.o.mem ha h.cb, src_eq h hB]
      simp only [Bool.and_false, Bool.false_eq_true, if_false]
    | [a, b, d], hr =>
      have ha := hr a (by simp)
      have hB := hr b (by simp)
      have hd := hr d (by simp)
      show (if (decide (x ∈ [3, 4]) && false) = true then _ else if (decide (x = 5) && false) = true then _ else if (decide (x = 6) && true) = true then askOk T (O.rho a) (O.rho b) (O.rho d) else if (decide (x = 7) && false) = true then _ else _) = (if (decide (x ∈ [3, 4]) && false) = true then _ else if (decide (x = 5) && false) = true then _ else if (decide (x = 6) && true) = true then askN O U a b d else if (decide (x = 7) && false) = true then _ else _)
      rw [ask_eq h ha hB hd]
      simp only [Bool.and_false, Bool.false_eq_true, if_false]
    | a :: b :: d :: e :: r, _ =>
      have l : ∀ k : Nat, k < 4 → decide ((a :: b :: d :: e :: r).length = k) = false := fun k hk => decide_eq_false (by rw [List.length_cons, List.length_cons, List.length_cons, List.length_cons]; omega)
      rw [l 2 (by decide), l 1 (by decide), l 3 (by decide)]
      simp only [Bool.and_false, Bool.false_eq_true, if_false]
end
end K5
namespace K5
open PySem PySem.Spec PyProof.Rows L2
def headN (O : Cod) (U : TxN) (dp : Nat) (ws : List Nat) : Bool := decide (dp < 3) && condN O U (ws.drop 1)
def whileN (O : Cod) (U : TxN) (sub : Bool → Nat → Nat → Res) (dp : Nat) (ws : List Nat) (n m : Nat) : Res := if headN O U dp ws = true then sub true (n + 1) m else .error n
def elseN (U : TxN) (sub : Bool → Nat → Nat → Res) (dp n m : Nat) : Res := if decide (wordsN U.rows n dp = [11]) = true then sub false (n + 1) m else .ok (n, m)
def ifN (O : Cod) (U : TxN) (sub : Bool → Nat → Nat → Res) (dp : Nat) (ws : List Nat) (n m : Nat) : Res :=
  if headN O U dp ws = true then match sub false (n + 1) m with
    | .ok (n1, m1) => elseN U sub dp n1 m1
    | .error e => .error e
  else .error n
def stmtN (O : Cod) (U : TxN) (sub : Bool → Nat → Nat → Res) (dp : Nat) (ws : List Nat) (n m : Nat) : Res := match ws with
  | [] => .error n
  | x :: r => if decide (x = 9) = true then ifN O U sub dp (x :: r) n m
    else if decide (x = 10) = true then whileN O U sub dp (x :: r) n m
    else if plainN O U (x :: r) = true then .ok (n + 1, m) else .error n
def blockN (U : TxN) (st : List Nat → Nat → Nat → Res) (dp : Nat) (af : Bool) : Nat → Nat → Nat → Res
  | 0, n, m => match wordsN U.rows n dp with
    | [] => .ok (n, m)
    | _ :: _ => .error n
  | f + 1, n, m => match wordsN U.rows n dp with
    | [] => if f = 7 then .error n else .ok (n, m)
    | x :: r => if m < 24 then
        if (decide (f ≠ 7) || (!af || decide (x = 6))) = true then
          match st (x :: r) n (m + 1) with
          | .ok (n1, m1) => blockN U st dp af f n1 m1
          | .error e => .error e
        else .error n
      else .error n
def blkN (O : Cod) (U : TxN) : Nat → Bool → Nat → Nat → Res
  | 0 => fun af n m => blockN U (stmtN O U (fun _ _ _ => .error 0) 3) 3 af 8 n m
  | j + 1 => fun af n m => blockN U (stmtN O U (blkN O U j) (2 - j)) (2 - j) af 8 n m
section
variable {O : Cod} {wn : Int} {T : Tx} {U : TxN} {sub : Bool → Nat → Nat → Res}
theorem head_eq (h : TOk O wn T U) {dp : Nat} {ws : List Nat} (hb : ∀ a ∈ ws, a < O.N) : headOk T dp (ws.map O.rho) = headN O U dp ws := by
  unfold headOk headN
  rw [← List.map_drop, cond_eq h fun a q => hb a (List.mem_of_mem_drop q)]
theorem else_eq (h : TOk O wn T U) {dp : Nat} (hd : dp ≤ 3) (n m : Nat) : elseR T sub dp n m = elseN U sub dp n m := by
  unfold elseR elseN
  obtain ⟨e, hb⟩ := h.r.2 n dp hd
  have e11 : (["else"] : List Str) = [11].map O.rho := by
    show _ = [O.rho 11]
    rw [h.o.kw 11 (by decide)]
    rfl
  rw [e, e11, h.o.list hb fun b q => by
    rw [List.mem_singleton.mp q]
    have := h.o.big
    omega]
theorem stmt_eq (h : TOk O wn T U) {dp : Nat} (hd : dp ≤ 3) {ws : List Nat} (hb : ∀ a ∈ ws, a < O.N) (ne : ws ≠ []) (n m : Nat) : stmtR T sub dp (ws.map O.rho) n m = stmtN O U sub dp ws n m := by
  cases ws with
  | nil => exact absurd rfl ne
  | cons x r =>
    have hx := hb x (List.mem_cons_self ..)
    unfold stmtR stmtN
    have e0 : ((x :: r).map O.rho).getD 0 "" = O.rho x := rfl
    rw [e0, h.o.one (z := "if") hx (k := 9) (by decide) rfl, h.o.one (z := "while") hx (k := 10) (by decide) rfl, plain_eq h hb]
    unfold ifR whileR ifN whileN
    rw [head_eq h hb]
    have e1 : ∀ n1 m1, elseR T sub dp n1 m1 = elseN U sub dp n1 m1 := else_eq h hd
    cases sub false (n + 1) m with
    | ok p =>
      obtain ⟨n1, m1⟩ := p
      dsimp only
      rw [e1 n1 m1]
    | error e => rfl
theorem block_eq (h : TOk O wn T U) {dp : Nat} (hd : dp ≤ 3) {st : List Str → Nat → Nat → Res} {sn : List Nat → Nat → Nat → Res} (hs : ∀ (ws : List Nat) (n m : Nat), (∀ a ∈ ws, a < O.N) → ws ≠ [] → st (ws.map O.rho) n m = sn ws n m) (af : Bool) :
    ∀ f n m, blockR T st dp af f n m = blockN U sn dp af f n m
  | 0, n, m => by
    unfold blockR blockN
    obtain ⟨e, hb⟩ := h.r.2 n dp hd
    rw [e]
    cases wordsN U.rows n dp with
    | nil => rfl
    | cons x r => rfl
  | f + 1, n, m => by
    unfold blockR blockN
    obtain ⟨e, hb⟩ := h.r.2 n dp hd
    rw [e]
    revert hb
    cases wordsN U.rows n dp with
    | nil => exact fun _ => rfl
    | cons x r =>
      intro hb
      have hx := hb x (List.mem_cons_self ..)
      rw [if_neg (fun q => nomatch q)]
      have e0 : ((x :: r).map O.rho).getD 0 "" = O.rho x := rfl
      rw [e0, h.o.one (z := "ask") hx (k := 6) (by decide) rfl, hs (x :: r) n (m + 1) hb (fun q => nomatch q)]
      dsimp only
      cases sn (x :: r) n (m + 1) with
      | ok p =>
        obtain ⟨n1, m1⟩ := p
        dsimp only
        rw [block_eq h hd hs af f n1 m1]
      | error e => rfl
theorem blk_eq (h : TOk O wn T U) : ∀ j, (blk T j) = (blkN O U j)
  | 0 => by
    funext af n m
    exact block_eq h (Nat.le_refl _) (fun ws n m hb ne => stmt_eq h (Nat.le_refl _) hb ne n m) af 8 n m
  | j + 1 => by
    funext af n m
    show blockR T (stmtR T (blk T j) (2 - j)) (2 - j) af 8 n m = blockN U (stmtN O U (blkN O U j) (2 - j)) (2 - j) af 8 n m
    rw [blk_eq h j]
    exact block_eq h (by omega) (fun ws n m hb ne => stmt_eq h (by omega) hb ne n m) af 8 n m
end
end K5
namespace K5
open PySem PySem.Spec PyProof.Rows L2
def mapR {α β : Type} (g : α → β) : Except Nat (Nat × α) → Except Nat (Nat × β)
  | .ok (n, a) => .ok (n, g a)
  | .error e => .error e
def portsN (O : Cod) (rows : RowsN) : Nat → Nat → List Nat → Except Nat (Nat × List Nat)
  | 0, n, _ => .error n
  | f + 1, n, ps =>
    if decide ((wordsN rows n 0).take 1 = [1]) = true then
      if (decide ((wordsN rows n 0).length = 2) && decide (ps.length < 2)) = true then
        if (O.nm ((wordsN rows n 0).getD 1 0) && !decide ((wordsN rows n 0).getD 1 0 ∈ ps)) = true then portsN O rows f (n + 1) (ps ++ [(wordsN rows n 0).getD 1 0])
        else .error n
      else .error n
    else .ok (n, ps)
def cellsN (O : Cod) (rows : RowsN) : Nat → Nat → List (Nat × Int) → Except Nat (Nat × List (Nat × Int))
  | 0, n, _ => .error n
  | f + 1, n, cs =>
    if decide ((wordsN rows n 0).take 1 = [0]) = true then
      if (decide ((wordsN rows n 0).length = 3) && decide (cs.length < 3)) = true then
        if (O.nm ((wordsN rows n 0).getD 1 0) && (!decide ((wordsN rows n 0).getD 1 0 ∈ [12, 13, 14, 15]) && !decide ((wordsN rows n 0).getD 1 0 ∈ cs.map (·.1)))) = true then
          if decide (0 ≤ O.nu ((wordsN rows n 0).getD 2 0)) = true then cellsN O rows f (n + 1) (cs ++ [((wordsN rows n 0).getD 1 0, O.nu ((wordsN rows n 0).getD 2 0))])
          else .error n
        else .error n
      else .error n
    else .ok (n, cs)
section
variable {O : Cod} {wn : Int} {rows : List Str} {rn : RowsN}
theorem getD_map {ws : List Nat} {i : Nat} (h : i < ws.length) : (ws.map O.rho).getD i "" = O.rho (ws.getD i 0) := by
  rw [List.getD_eq_getElem?_getD, List.getElem?_map, List.getElem?_eq_getElem h, List.getD_eq_getElem?_getD, List.getElem?_eq_getElem h]
  rfl
theorem getD_lt {ws : List Nat} {i N : Nat} (hb : ∀ a ∈ ws, a < N) (h : i < ws.length) : ws.getD i 0 < N := by
  rw [List.getD_eq_getElem?_getD, List.getElem?_eq_getElem h]
  exact hb _ (List.getElem_mem h)
theorem take_eq (h : CodOk O wn) {ws : List Nat} (hb : ∀ a ∈ ws, a < O.N) {k : Nat} {z : Str} (hk : k < 18) (hz : kwL.getD k "" = z) : decide ((ws.map O.rho).take 1 = [z]) = decide (ws.take 1 = [k]) := by
  have e : [z] = [k].map O.rho := by
    show _ = [O.rho k]
    rw [h.kw k hk, hz]
  rw [e, ← List.map_take, h.list (fun b q => hb b (List.mem_of_mem_take q)) fun b q => by
    rw [List.mem_singleton.mp q]
    exact Nat.lt_of_lt_of_le hk h.big]
theorem ports_eq (h : CodOk O wn) (r : RowsOk O rows rn) : ∀ f n (ps : List Nat), (∀ b ∈ ps, b < O.N) → portsR rows f n (ps.map O.rho) = mapR (List.map O.rho) (portsN O rn f n ps)
  | 0, n, ps, _ => rfl
  | f + 1, n, ps, hp => by
    unfold portsR portsN
    obtain ⟨e, hb⟩ := r.2 n 0 (by decide)
    rw [e, take_eq h hb (k := 1) (z := "port") (by decide) rfl, List.length_map, List.length_map]
    generalize wordsN rn n 0 = ws at hb
    cases c1 : decide (ws.take 1 = [1]) with
    | false => rfl
    | true =>
      rw [if_pos rfl, if_pos rfl]
      cases c2 : (decide (ws.length = 2) && decide (ps.length < 2)) with
      | false => rfl
      | true =>
        rw [if_pos rfl, if_pos rfl]
        rw [Bool.and_eq_true] at c2
        have l : 1 < ws.length := by
          have := of_decide_eq_true c2.1
          omega
        have lt := getD_lt hb l
        rw [getD_map l, h.nm _ lt, h.mem lt hp]
        cases c3 : (O.nm (ws.getD 1 0) && !decide (ws.getD 1 0 ∈ ps)) with
        | false => rfl
        | true =>
          rw [if_pos rfl, if_pos rfl]
          have q := ports_eq h r f (n + 1) (ps ++ [ws.getD 1 0]) fun b hb2 => by
            rcases List.mem_append.mp hb2 with hb2 | hb2
            · exact hp b hb2
            · rw [List.mem_singleton.mp hb2]
              exact lt
          rw [List.map_append] at q
          exact q
def cg (O : Cod) (q : Nat × Int) : Str × Int := (O.rho q.1, q.2)
theorem cells_eq (h : CodOk O wn) (r : RowsOk O rows rn) : ∀ f n (cs : List (Nat × Int)), (∀ b ∈ cs.map (·.1), b < O.N) → cellsR rows wn f n (cs.map (cg O)) = mapR (List.map (cg O)) (cellsN O rn f n cs)
  | 0, n, cs, _ => rfl
  | f + 1, n, cs, hp => by
    unfold cellsR cellsN
    obtain ⟨e, hb⟩ := r.2 n 0 (by decide)
    rw [e, take_eq h hb (k := 0) (z := "cell") (by decide) rfl, List.length_map, List.length_map]
    generalize wordsN rn n 0 = ws at hb
    cases c1 : decide (ws.take 1 = [0]) with
    | false => rfl
    | true =>
      rw [if_pos rfl, if_pos rfl]
      cases c2 : (decide (ws.length = 3) && decide (cs.length < 3)) with
      | false => rfl
      | true =>
        rw [if_pos rfl, if_pos rfl]
        rw [Bool.and_eq_true] at c2
        have l0 := of_decide_eq_true c2.1
        have l1 : 1 < ws.length := by omega
        have l2 : 2 < ws.length := by omega
        have lt := getD_lt hb l1
        have lt2 := getD_lt hb l2
        have e4 : (["it", "got", "lost", "busy"] : List Str) = [12, 13, 14, 15].map O.rho := by
          show _ = [O.rho 12, O.rho 13, O.rho 14, O.rho 15]
          rw [h.kw 12 (by decide), h.kw 13 (by decide), h.kw 14 (by decide), h.kw 15 (by decide)]
          rfl
        have e5 : (cs.map (cg O)).map (·.1) = (cs.map (·.1)).map O.rho := by
          rw [List.map_map, List.map_map]
          rfl
        have b4 : ∀ b ∈ [12, 13, 14, 15], b < O.N := fun b q => by
          have := h.big
          simp only [List.mem_cons, List.not_mem_nil, or_false] at q
          omega
        rw [getD_map l1, getD_map l2, h.nm _ lt, e4, h.mem lt b4, e5, h.mem lt hp, h.nu _ lt2]
        cases c3 : (O.nm (ws.getD 1 0) && (!decide (ws.getD 1 0 ∈ [12, 13, 14, 15]) && !decide (ws.getD 1 0 ∈ cs.map (·.1)))) with
        | false => rfl
        | true =>
          rw [if_pos rfl, if_pos rfl]
          cases c4 : decide (0 ≤ O.nu (ws.getD 2 0)) with
          | false => rfl
          | true =>
            rw [if_pos rfl, if_pos rfl]
            have q := cells_eq h r f (n + 1) (cs ++ [(ws.getD 1 0, O.nu (ws.getD 2 0))]) fun b hb2 => by
              rw [List.map_append] at hb2
              rcases List.mem_append.mp hb2 with hb2 | hb2
              · exact hp b hb2
              · rw [List.mem_singleton.mp hb2]
                exact lt
            rw [List.map_append] at q
            exact q
end
end K5
namespace K5
open PySem PySem.Spec PyProof.Rows L2
def doorsN (O : Cod) (U : TxN) : Nat → Nat → Nat → List Nat → Except Nat (Nat × List Nat)
  | 0, n, _, _ => .error n
  | f + 1, n, m, ds =>
    if (decide ((wordsN U.rows n 0).take 1 = [2]) || decide (ds = [])) = true then
      if (decide ((wordsN U.rows n 0).take 1 = [2]) && (decide ((wordsN U.rows n 0).length = 2) && decide (ds.length < 3))) = true then
        if (O.dr ((wordsN U.rows n 0).getD 1 0) && !decide ((wordsN U.rows n 0).getD 1 0 ∈ ds)) = true then
          match blkN O U 2 false (n + 1) m with
          | .ok (n1, m1) => doorsN O U f n1 m1 (ds ++ [(wordsN U.rows n 0).getD 1 0])
          | .error e => .error e
        else .error n
      else .error n
    else .ok (n, ds)
section
variable {O : Cod} {wn : Int} {rows : List Str} {rn : RowsN} {T : Tx} {U : TxN}
theorem doors_eq (h : TOk O wn T U) : ∀ f n m (ds : List Nat), (∀ b ∈ ds, b < O.N) → doorsR T f n m (ds.map O.rho) = mapR (List.map O.rho) (doorsN O U f n m ds)
  | 0, n, m, ds, _ => rfl
  | f + 1, n, m, ds, hp => by
    unfold doorsR doorsN
    obtain ⟨e, hb⟩ := h.r.2 n 0 (by decide)
    have e0 : decide (ds.map O.rho = []) = decide (ds = []) := decide_eq_decide.mpr List.map_eq_nil_iff
    rw [e, take_eq h.o hb (k := 2) (z := "door") (by decide) rfl, List.length_map, List.length_map, e0, blk_eq h 2]
    generalize wordsN U.rows n 0 = ws at hb
    cases c1 : (decide (ws.take 1 = [2]) || decide (ds = [])) with
    | false => rfl
    | true =>
      rw [if_pos rfl, if_pos rfl]
      cases c2 : (decide (ws.take 1 = [2]) && (decide (ws.length = 2) && decide (ds.length < 3))) with
      | false => rfl
      | true =>
        rw [if_pos rfl, if_pos rfl]
        rw [Bool.and_eq_true, Bool.and_eq_true] at c2
        have l : 1 < ws.length := by
          have := of_decide_eq_true c2.2.1
          omega
        have lt := getD_lt hb l
        rw [getD_map l, h.o.dr _ lt, h.o.mem lt hp]
        cases c3 : (O.dr (ws.getD 1 0) && !decide (ws.getD 1 0 ∈ ds)) with
        | false => rfl
        | true =>
          rw [if_pos rfl, if_pos rfl]
          cases blkN O U 2 false (n + 1) m with
          | error e => rfl
          | ok p =>
            obtain ⟨n1, m1⟩ := p
            dsimp only
            have q := doors_eq h f n1 m1 (ds ++ [ws.getD 1 0]) fun b hb2 => by
              rcases List.mem_append.mp hb2 with hb2 | hb2
              · exact hp b hb2
              · rw [List.mem_singleton.mp hb2]
                exact lt
            rw [List.map_append] at q
            exact q
theorem ports_lt (r : RowsOk O rows rn) : ∀ f n (ps : List Nat), (∀ b ∈ ps, b < O.N) → ∀ n2 qs, portsN O rn f n ps = .ok (n2, qs) → ∀ b ∈ qs, b < O.N
  | 0, n, ps, _, n2, qs, e => nomatch e
  | f + 1, n, ps, hp, n2, qs, e => by
    unfold portsN at e
    obtain ⟨_, hb⟩ := r.2 n 0 (by decide)
    split at e
    · split at e
      · rename_i c2
        rw [Bool.and_eq_true] at c2
        have l : 1 < (wordsN rn n 0).length := by
          have := of_decide_eq_true c2.1
          omega
        split at e
        · refine ports_lt r f (n + 1) _ (fun b hb2 => ?_) n2 qs e
          rcases List.mem_append.mp hb2 with hb2 | hb2
          · exact hp b hb2
          · rw [List.mem_singleton.mp hb2]
            exact getD_lt hb l
        · cases e
      · cases e
    · cases e
      exact hp
theorem cells_lt (r : RowsOk O rows rn) : ∀ f n (cs : List (Nat × Int)), (∀ b ∈ cs.map (·.1), b < O.N) → ∀ n2 qs, cellsN O rn f n cs = .ok (n2, qs) → ∀ b ∈ qs.map (·.1), b < O.N
  | 0, n, cs, _, n2, qs, e => nomatch e
  | f + 1, n, cs, hp, n2, qs, e => by
    unfold cellsN at e
    obtain ⟨_, hb⟩ := r.2 n 0 (by decide)
    split at e
    · split at e
      · rename_i c2
        rw [Bool.and_eq_true] at c2
        have l : 1 < (wordsN rn n 0).length := by
          have := of_decide_eq_true c2.1
          omega
        split at e
        · split at e
          · refine cells_lt r f (n + 1) _ (fun b hb2 => ?_) n2 qs e
            rw [List.map_append] at hb2
            rcases List.mem_append.mp hb2 with hb2 | hb2
            · exact hp b hb2
            · rw [List.mem_singleton.mp hb2]
              exact getD_lt hb l
          · cases e
        · cases e
      · cases e
    · cases e
      exact hp
/-- a text over codes: cells, ports, doors, or the bad line -/
def partN (O : Cod) (rn : RowsN) : Except Nat (List (Nat × Int) × List Nat × List Nat) :=
  match cellsN O rn 4 0 [] with
  | .error n => .error n
  | .ok (n1, cs) => match portsN O rn 3 n1 [] with
    | .error n => .error n
    | .ok (n2, ps) => match doorsN O ⟨rn, cs.map (·.1), ps⟩ 4 n2 0 [] with
      | .error n => .error n
      | .ok (n3, ds) => if n3 = rn.length then .ok (cs, ps, ds) else .error n3
def toP (O : Cod) : Except Nat (List (Nat × Int) × List Nat × List Nat) → Except Nat (List (Str × Int) × List Str × List Str)
  | .error n => .error n
  | .ok (cs, ps, ds) => .ok (cs.map (cg O), ps.map O.rho, ds.map O.rho)
theorem part_eq (h : CodOk O wn) (r : RowsOk O rows rn) : partR wn rows = toP O (partN O rn) := by
  unfold partR partN
  have e1 := cells_eq h r 4 0 [] (fun b hb => nomatch hb)
  rw [show cellsR rows wn 4 0 [] = _ from e1]
  have b1 := cells_lt r 4 0 [] (fun b hb => nomatch hb)
  cases c1 : cellsN O rn 4 0 [] with
  | error n => rfl
  | ok p =>
    obtain ⟨n1, cs⟩ := p
    have bc := b1 n1 cs c1
    dsimp only [mapR]
    have e2 := ports_eq h r 3 n1 [] (fun b hb => nomatch hb)
    rw [show portsR rows 3 n1 [] = _ from e2]
    have b2 := ports_lt r 3 n1 [] (fun b hb => nomatch hb)
    cases c2 : portsN O rn 3 n1 [] with
    | error n => rfl
    | ok p =>
      obtain ⟨n2, ps⟩ := p
      have bp := b2 n2 ps c2
      dsimp only [mapR]
      have ec : (cs.map (cg O)).map (·.1) = (cs.map (·.1)).map O.rho := by
        rw [List.map_map, List.map_map]
        rfl
      have t : TOk O wn ⟨rows, wn, (cs.map (cg O)).map (·.1), ps.map O.rho⟩ ⟨rn, cs.map (·.1), ps⟩ := ⟨h, rfl, ec, bc, rfl, bp, r⟩
      have e3 := doors_eq t 4 n2 0 [] (fun b hb => nomatch hb)
      rw [show doorsR ⟨rows, wn, (cs.map (cg O)).map (·.1), ps.map O.rho⟩ 4 n2 0 [] = _ from e3]
      cases doorsN O ⟨rn, cs.map (·.1), ps⟩ 4 n2 0 [] with
      | error n => rfl
      | ok p =>
        obtain ⟨n3, ds⟩ := p
        dsimp only [mapR]
        rw [r.1]
        by_cases c : n3 = rn.length
        · rw [if_pos c, if_pos c]
          rfl
        · rw [if_neg c, if_neg c]
          rfl
end
end K5
namespace K5
open PySem PySem.Spec PyProof.Rows L2
/-! ### comprehensions and walks over a written tuple of texts -/
def DsAt (H : Hp) (q : Addr) (wss : List (List Str)) : Prop := ∃ bs : List Addr, H q = some (.lst (bs.map V.ref)) ∧ Paired (fun b ws => LsAt H b ws) bs wss
theorem DsAt.mono {H H' : Hp} {q : Addr} {wss : List (List Str)} (h : DsAt H q wss) (s : Same H H') : DsAt H' q wss := by
  obtain ⟨bs, h1, h2⟩ := h
  exact ⟨bs, s _ _ h1, paired_imp (fun x y z => s _ _ z) h2⟩
theorem paired_get {α β : Type} {F : α → β → Prop} : ∀ {xs : List α} {ys : List β} {i : Nat} {y : β}, Paired F xs ys → ys[i]? = some y → ∃ x, xs[i]? = some x ∧ F x y
  | _, _, 0, _, .cons h _, e => by
    cases e
    exact ⟨_, rfl, h⟩
  | _, _, i + 1, _, .cons _ t, e => paired_get (i := i) t e
theorem take_snoc {α : Type} {xs : List α} {k : Nat} {x : α} (h : xs[k]? = some x) : xs.take (k + 1) = xs.take k ++ [x] := by
  rw [List.take_add_one, h]
  rfl
theorem cs_keep {H H' : Hp} {D : Addr} {xs : List V} {cs : List (List Str × Int)} (hD : H D = some (.lst xs)) (hx : CsList H xs cs) (s : SameBut D H H') : ∀ {ys : List V} {ds : List (List Str × Int)}, (∀ c ∈ ds, c.1 ≠ []) → CsList H ys ds → CsList H' ys ds
  | _, _, _, .nil => .nil
  | _, c :: ds, ne, .cons h t => .cons (by
      obtain ⟨p, e, b, h1, h2⟩ := h
      have nc := ne c (List.mem_cons_self ..)
      have nb : b ≠ D := ne_of h2 hD fun q => by
        cases hc : c.1 with
        | nil => exact nc hc
        | cons w ws =>
          rw [hc] at q
          injection q with q
          cases hx with
          | nil => cases q
          | cons a _ =>
            obtain ⟨r, er, _⟩ := a
            rw [er] at q
            injection q with q
            cases q
      exact ⟨p, e, b, s _ _ (ne_of h1 hD (fun q => nomatch q)) h1, s _ _ nb h2⟩) (cs_keep hD hx s (fun c h => ne c (List.mem_cons_of_mem _ h)) t)
theorem cs_snoc {H : Hp} {xs : List V} {cs : List (List Str × Int)} {p : Addr} {c : List Str × Int} (h : CsList H xs cs) (hc : CsAt H p c) : CsList H (xs ++ [.ref p]) (cs ++ [c]) := cs_app h (.cons ⟨p, rfl, hc⟩ .nil)
theorem FdAt.mono {H H' : Hp} {f : Addr} {cs : List (List Str × Int)} (h : FdAt H f cs) (s : Same H H') : FdAt H' f cs := by
  obtain ⟨xs, h1, h2, h3⟩ := h
  exact ⟨xs, s _ _ h1, h2.mono s, h3⟩
theorem ls_ne {H : Hp} {f p : Addr} {cs : List (List Str × Int)} {us : List Str} (F : FdAt H f cs) (hp : LsAt H p us) (nu : us ≠ []) : p ≠ f := by
  obtain ⟨xs, h1, h2, h3, _⟩ := F
  refine ne_of hp h1 fun q => ?_
  injection q with q
  cases us with
  | nil => exact nu rfl
  | cons u us =>
    cases h2 with
    | nil => exact h3 rfl
    | cons a b =>
      obtain ⟨r, er, _⟩ := a
      rw [er] at q
      injection q with q
      cases q
theorem ds_ne {H : Hp} {f p : Addr} {cs : List (List Str × Int)} {wss : List (List Str)} (F : FdAt H f cs) (hp : DsAt H p wss) (nu : wss ≠ []) : p ≠ f := by
  obtain ⟨xs, h1, h2, h3, _⟩ := F
  obtain ⟨bs, g1, g2⟩ := hp
  intro e
  rw [e, h1] at g1
  injection g1 with g1
  injection g1 with g1
  cases h2 with
  | nil => exact h3 rfl
  | cons a b =>
    obtain ⟨r, er, b2, hb, _⟩ := a
    rw [er] at g1
    cases g2 with
    | nil => exact nu rfl
    | cons a2 b2 =>
      injection g1 with g1 _
      injection g1 with g1
      rw [g1] at hb
      rw [show _ = _ from a2] at hb
      cases hb
/-- what is not the list f stands -/
def But (f : Addr) (H H' : Hp) : Prop := ∀ b o, b ≠ f → H b = some o → H' b = some o
theorem But.ls {H H' : Hp} {f p : Addr} {cs : List (List Str × Int)} {us : List Str} (k : But f H H') (F : FdAt H f cs) (hp : LsAt H p us) (nu : us ≠ []) : LsAt H' p us := k _ _ (ls_ne F hp nu) hp
theorem But.ds {H H' : Hp} {f p : Addr} {cs : List (List Str × Int)} {wss : List (List Str)} (k : But f H H') (F : FdAt H f cs) (hp : DsAt H p wss) (nu : wss ≠ []) (ne : ∀ ws ∈ wss, ws ≠ []) : DsAt H' p wss := by
  have n := ds_ne F hp nu
  obtain ⟨bs, g1, g2⟩ := hp
  refine ⟨bs, k _ _ n g1, ?_⟩
  clear n g1 nu
  induction g2 with
  | nil => exact .nil
  | cons a b ih => exact .cons (k.ls F a (ne _ (List.mem_cons_self ..))) (ih fun ws h => ne ws (List.mem_cons_of_mem _ h))
section
variable {K : PySem.W.Frag} {D : Ends} {σ : L2.St} {H : Hp} {ta tb te : TE} {t tas : TA} {f q : Addr} {xs : List V} {cs ds : List (List Str × Int)} {c : List Str × Int} {i j k n m : Nat} {z y : Str} {ws ns : List Str} {wss : List (List Str)}
theorem LV.ix (h : σ[j]? = some (some (.ref q))) (hq : DsAt H q wss) (hi : wss[i]? = some ws) : LV (tOp (rIxL K) (tVar j) (tC (.int i))) σ H ws := fun H1 Q s r => by
  obtain ⟨bs, g1, g2⟩ := hq
  obtain ⟨b, hb, hl⟩ := paired_get g2 hi
  refine (val_var h) _ (val_c _ ⟨q, bs.map V.ref, i, .ref b, rfl, rfl, SqL.of (s _ _ g1), atI_nat ?_, r H1 b (Same.refl _) (s _ _ hl)⟩)
  rw [List.getElem?_map, hb]
  rfl
theorem SN.cut {lo hi : Option Int} {tl th : TO} (ha : SN ta σ H z n) (hn : n ≤ 10000000) (hl : OV tl σ lo) (hh : OV th σ hi) : SN (tSl rSlS ta tl th) σ H (cutS z lo hi) n :=
  ⟨fun H1 s Q q => (ha.v H1 s) _ (hl _ _ (hh _ _ ⟨z, rfl, Nat.le_trans ha.n (Nat.le_trans hn (by decide)), q⟩)), by
    refine Nat.le_trans ?_ ha.n
    show ((z.cps.toList.drop _).take _).toArray.size ≤ z.cps.size
    rw [List.size_toArray, ← Array.length_toList]
    exact Nat.le_trans (List.length_take_le' ..) (by rw [List.length_drop]; omega)⟩
/-- [G(x) for x in (..)] -/
theorem LV.comp {G : Str → Str} (hw : ∀ x, wipe ((wipe σ [i]).set i (some x)) [i] = wipe σ [i]) (a : AV tas σ H ns) (he : ∀ x ∈ ns, SV te ((wipe σ [i]).set i (some (.str x))) H (G x)) (few : ns.length ≤ 1000) :
    LV (tLc (iTup K (tTup tas)) (gName i) tYes te [i]) σ H (ns.map G) := fun H1 Q s r => a H1 _ s ⟨by rw [List.length_map]; exact Nat.le_trans few (by decide), fun p np => ⟨p, rfl, ⟨_, SqT.of upd_same⟩, fun L nL => by
  have sp := same_upd (o := .tup (ns.map V.str)) np
  have hp : (upd H1 p (.tup (ns.map V.str))) p = some (.tup (ns.map V.str)) := upd_same
  generalize (upd H1 p (.tup (ns.map V.str))) = H2 at sp hp nL ⊢
  refine lc_tup (K := K) (a := p) (xs := ns.map V.str) (fun k H' => Same H2 H' ∧ LsAt H' L ((ns.take k).map G)) ⟨same_upd nL, upd_same⟩ (fun k H' _ h => SqT.of (h.1 _ _ hp)) (fun k x H' hx h => ?_) fun H' h => r H' L (sp.trans h.1) (by
    have e := h.2
    rw [List.length_map, List.take_length] at e
    exact e)
  obtain ⟨s2, hL⟩ := h
  rw [List.getElem?_map, Option.map_eq_some_iff] at hx
  obtain ⟨u, hu, rfl⟩ := hx
  refine ⟨hw _, ?_⟩
  show te _ H' _
  refine he u (List.mem_of_getElem? hu) H' ((s.trans sp).trans s2) _ ⟨_, hL, ?_, fun b o e => ?_, ?_⟩
  · rw [List.length_map, List.length_map]
    exact Nat.lt_of_le_of_lt (List.length_take_le ..) (Nat.lt_of_le_of_lt (by
      have := (List.getElem?_eq_some_iff.mp hu).1
      omega : k ≤ 1000) (by decide))
  · rw [upd_ne (ne_of_none e nL)]
    exact s2 _ _ e
  · unfold LsAt
    rw [upd_same, take_snoc hu, List.map_append, List.map_append]
    rfl⟩⟩
/-- [case(x) for x in (..)] -/
theorem CL.comp {G : Str → List Str × Int} (hw : ∀ x, wipe ((wipe σ [i]).set i (some x)) [i] = wipe σ [i]) (a : AV tas σ H ns) (he : ∀ x ∈ ns, CV te ((wipe σ [i]).set i (some (.str x))) H (G x)) (ne : ∀ x, (G x).1 ≠ []) (few : ns.length ≤ 1000) :
    CL (tLc (iTup K (tTup tas)) (gName i) tYes te [i]) σ H (ns.map G) := fun H1 Q s r => a H1 _ s ⟨by rw [List.length_map]; exact Nat.le_trans few (by decide), fun p np => ⟨p, rfl, ⟨_, SqT.of upd_same⟩, fun L nL => by
  have sp := same_upd (o := .tup (ns.map V.str)) np
  have hp : (upd H1 p (.tup (ns.map V.str))) p = some (.tup (ns.map V.str)) := upd_same
  generalize (upd H1 p (.tup (ns.map V.str))) = H2 at sp hp nL ⊢
  refine lc_tup (K := K) (a := p) (xs := ns.map V.str) (fun k H' => Same H2 H' ∧ ∃ xs, H' L = some (.lst xs) ∧ CsList H' xs ((ns.take k).map G)) ⟨same_upd nL, [], upd_same, .nil⟩ (fun k H' _ h => SqT.of (h.1 _ _ hp)) (fun k x H' hx h => ?_) fun H' h => ?_
  · obtain ⟨s2, xs, hL, hC⟩ := h
    rw [List.getElem?_map, Option.map_eq_some_iff] at hx
    obtain ⟨u, hu, rfl⟩ := hx
    refine ⟨hw _, ?_⟩
    show te _ H' _
    refine he u (List.mem_of_getElem? hu) H' _ ((s.trans sp).trans s2) fun H4 q s4 hq => ?_
    have hL4 := s4 _ _ hL
    have sb := SameBut.upd L H4 (.lst (xs ++ [.ref q]))
    refine ⟨_, hL4, ?_, fun b o e => ?_, _, upd_same, ?_⟩
    · rw [Paired.length hC, List.length_map]
      exact Nat.lt_of_le_of_lt (List.length_take_le ..) (Nat.lt_of_le_of_lt (by
        have := (List.getElem?_eq_some_iff.mp hu).1
        omega : k ≤ 1000) (by decide))
    · rw [upd_ne (ne_of_none e nL)]
      exact s4 _ _ (s2 _ _ e)
    · rw [take_snoc hu, List.map_append]
      refine cs_keep hL4 (hC.mono s4) sb (fun c hc => ?_) (cs_snoc (hC.mono s4) hq)
      rcases List.mem_append.mp hc with hc | hc
      · obtain ⟨x, _, rfl⟩ := List.mem_map.mp hc
        exact ne x
      · rw [List.mem_singleton.mp hc]
        exact ne u
  · obtain ⟨s2, xs, hL, hC⟩ := h
    rw [List.length_map, List.take_length] at hC
    exact r H' L xs (sp.trans s2) hL hC⟩⟩
/-- for x in (..): found.append(case(x)) -/
theorem for_cases {G : Str → List Str × Int} (hv : σ[i]? = some (some (.ref f))) (ik : i ≠ k) (a : AV tas σ H ns) (n0 : ns ≠ []) (F : FdAt H f cs) (few : cs.length + ns.length ≤ 500) (ne : ∀ x, (G x).1 ≠ [])
    (he : ∀ x ∈ ns, ∀ H' : Hp, But f H H' → CV te (σ.set k (some (.str x))) H' (G x))
    (kk : ∀ H' : Hp, But f H H' → FdAt H' f (cs ++ ns.map G) → D.nx (σ.set k (some (.str (ns.getD (ns.length - 1) "")))) H') :
    tFor (iTup K (tTup tas)) (gName k) (tDrop (tBM K "list" rAppend (tVar i) (tCons te tNil))) D σ H := by
  refine a H _ (Same.refl _) ⟨by rw [List.length_map]; exact Nat.le_trans (by omega : ns.length ≤ 1000) (by decide), fun p np => ⟨p, rfl, ⟨_, SqT.of upd_same⟩, ?_⟩⟩
  have sp := same_upd (o := .tup (ns.map V.str)) np
  have hp : (upd H p (.tup (ns.map V.str))) p = some (.tup (ns.map V.str)) := upd_same
  generalize (upd H p (.tup (ns.map V.str))) = H2 at sp hp ⊢
  have F2 := F.mono sp
  have pf : p ≠ f := fun e => by
    obtain ⟨xs, h1, _⟩ := F2
    rw [← e, hp] at h1
    cases h1
  refine for_tup (K := K) (a := p) (xs := ns.map V.str) (fun m σ' H' => (σ' = if m = 0 then σ else σ.set k (some (.str (ns.getD (m - 1) "")))) ∧ FdAt H' f (cs ++ (ns.take m).map G) ∧ But f H2 H') ⟨(if_pos rfl).symm, by rw [List.take_zero, List.map_nil, List.append_nil]; exact F2, fun b o _ e => e⟩
    (fun m σ' H' _ h => SqT.of (h.2.2 _ _ pf hp)) (fun m x σ' H' hx h => ?_) fun σ' H' h => ?_
  · obtain ⟨e1, F3, k3⟩ := h
    rw [List.getElem?_map, Option.map_eq_some_iff] at hx
    obtain ⟨u, hu, rfl⟩ := hx
    have hm := (List.getElem?_eq_some_iff.mp hu).1
    have es : σ'.set k (some (.str u)) = σ.set k (some (.str u)) := by
      rw [e1]
      split
      · rfl
      · exact List.set_set ..
    show tDrop _ _ (σ'.set k (some (.str u))) H'
    rw [es]
    refine fd_app (i := i) ?_ F3 ?_ (ne u) (he u (List.mem_of_getElem? hu) H' fun b o n e => k3 b o n (sp _ _ e)) fun H4 F4 b4 _ => ⟨?_, ?_, fun b o n e => b4 b o n (k3 b o n e)⟩
    · rw [List.getElem?_set_ne ik.symm]
      exact hv
    · rw [List.length_append, List.length_map]
      have := List.length_take_le m ns
      omega
    · rw [if_neg (Nat.succ_ne_zero m)]
      congr
      rw [Nat.add_sub_cancel, List.getD_eq_getElem?_getD, hu]
      rfl
    · rw [take_snoc hu, List.map_append, ← List.append_assoc]
      exact F4
  · obtain ⟨e1, F3, k3⟩ := h
    rw [List.length_map] at e1 F3
    rw [List.take_length] at F3
    have hn : ns.length ≠ 0 := fun z => n0 (List.length_eq_zero_iff.mp z)
    rw [if_neg hn] at e1
    rw [e1]
    exact kk H' (fun b o n e => k3 b o n (sp _ _ e)) F3
end
end K5
namespace K5
open PySem PySem.Spec PyProof.Rows L2
theorem ne_len {α : Type} {xs : List α} (h : Nat.beq xs.length 0 = false) : xs ≠ [] := fun e => by
  rw [e] at h
  cases h
/-- a list of cases that is new -/
def CLf (te : TE) (σ : L2.St) (H : Hp) (cs : List (List Str × Int)) : Prop := ∀ (H1 : Hp) (Q : VK), Same H H1 → (∀ (H' : Hp) (p : Addr), Same H1 H' → H1 p = none → FdAt H' p cs → Q (.ref p) H') → te σ H1 Q
section
variable {K : PySem.W.Frag} {D : Ends} {σ : L2.St} {H : Hp} {ta tb te : TE} {t tas : TA} {f q : Addr} {xs : List V} {cs ds : List (List Str × Int)} {c : List Str × Int} {i j k n m : Nat} {z y : Str} {ws ns : List Str} {wss : List (List Str)}
theorem CLf.lst (a : AC t σ H cs) (h : cs.length ≤ 1000) (n0 : cs ≠ []) (ne : ∀ c ∈ cs, c.1 ≠ []) : CLf (tLst t) σ H cs := fun H1 Q s q => a H1 _ s fun H2 xs s2 h2 => ⟨by rw [Paired.length h2]; exact Nat.le_trans h (by decide), fun p np => q _ p (s2.trans (same_upd np)) (s2.free np) ⟨xs, upd_same, h2.mono (same_upd np), n0, ne⟩⟩
theorem CLf.cat (ha : CL ta σ H cs) (hb : CL tb σ H ds) (hz : cs.length + ds.length ≤ 1000) (n0 : cs ++ ds ≠ []) (ne : ∀ c ∈ cs ++ ds, c.1 ≠ []) : CLf (tOp rCat ta tb) σ H (cs ++ ds) := fun H1 Q s q => ha H1 _ s fun H2 p1 xs s2 h1 k1 => hb H2 _ (s.trans s2) fun H3 p2 ys s3 h2 k2 => by
  have e1 : xs.length = cs.length := Paired.length k1
  have e2 : ys.length = ds.length := Paired.length k2
  exact ⟨p1, p2, xs, ys, rfl, rfl, s3 _ _ h1, h2, by rw [e1, e2]; exact Nat.le_trans hz (by decide), fun p np => q _ p ((s2.trans s3).trans (same_upd np)) (s2.free (s3.free np)) ⟨_, upd_same, cs_app ((k1.mono s3).mono (same_upd np)) (k2.mono (same_upd np)), n0, ne⟩⟩
theorem CL.comp' {G : Str → List Str × Int} (hw : ∀ x, wipe ((wipe σ [i]).set i (some x)) [i] = wipe σ [i]) (a : AV tas σ H ns) (he : ∀ x ∈ ns, CV te ((wipe σ [i]).set i (some (.str x))) H (G x)) (ne : ∀ x, (G x).1 ≠ []) (few : ns.length ≤ 1000) (n0 : ns ≠ []) :
    CLf (tLc (iTup K (tTup tas)) (gName i) tYes te [i]) σ H (ns.map G) := fun H1 Q s r => a H1 _ s ⟨by rw [List.length_map]; exact Nat.le_trans few (by decide), fun p np => ⟨p, rfl, ⟨_, SqT.of upd_same⟩, fun L nL => by
  have sp := same_upd (o := .tup (ns.map V.str)) np
  have hp : (upd H1 p (.tup (ns.map V.str))) p = some (.tup (ns.map V.str)) := upd_same
  generalize (upd H1 p (.tup (ns.map V.str))) = H2 at sp hp nL ⊢
  refine lc_tup (K := K) (a := p) (xs := ns.map V.str) (fun k H' => Same H2 H' ∧ ∃ xs, H' L = some (.lst xs) ∧ CsList H' xs ((ns.take k).map G)) ⟨same_upd nL, [], upd_same, .nil⟩ (fun k H' _ h => SqT.of (h.1 _ _ hp)) (fun k x H' hx h => ?_) fun H' h => ?_
  · obtain ⟨s2, xs, hL, hC⟩ := h
    rw [List.getElem?_map, Option.map_eq_some_iff] at hx
    obtain ⟨u, hu, rfl⟩ := hx
    refine ⟨hw _, ?_⟩
    show te _ H' _
    refine he u (List.mem_of_getElem? hu) H' _ ((s.trans sp).trans s2) fun H4 q s4 hq => ?_
    have hL4 := s4 _ _ hL
    have sb := SameBut.upd L H4 (.lst (xs ++ [.ref q]))
    refine ⟨_, hL4, ?_, fun b o e => ?_, _, upd_same, ?_⟩
    · rw [Paired.length hC, List.length_map]
      exact Nat.lt_of_le_of_lt (List.length_take_le ..) (Nat.lt_of_le_of_lt (by
        have := (List.getElem?_eq_some_iff.mp hu).1
        omega : k ≤ 1000) (by decide))
    · rw [upd_ne (ne_of_none e nL)]
      exact s4 _ _ (s2 _ _ e)
    · rw [take_snoc hu, List.map_append]
      refine cs_keep hL4 (hC.mono s4) sb (fun c hc => ?_) (cs_snoc (hC.mono s4) hq)
      rcases List.mem_append.mp hc with hc | hc
      · obtain ⟨x, _, rfl⟩ := List.mem_map.mp hc
        exact ne x
      · rw [List.mem_singleton.mp hc]
        exact ne u
  · obtain ⟨s2, xs, hL, hC⟩ := h
    rw [List.length_map, List.take_length] at hC
    refine r H' L (sp.trans s2) (sp.free nL) ⟨xs, hL, hC, fun z => n0 (List.map_eq_nil_iff.mp z), fun c hc => ?_⟩
    obtain ⟨x, _, rfl⟩ := List.mem_map.mp hc
    exact ne x⟩⟩
/-- for x in (..): doors.append(list(x)) -/
theorem for_doors {G : Str → List Str} (hv : σ[i]? = some (some (.ref q))) (hq : H q = some (.lst [])) (ik : i ≠ k) (a : AV tas σ H ns) (n0 : ns ≠ []) (few : ns.length ≤ 500) (ne : ∀ x, G x ≠ [])
    (he : ∀ x ∈ ns, ∀ H' : Hp, But q H H' → LV te (σ.set k (some (.str x))) H' (G x))
    (kk : ∀ H' : Hp, But q H H' → DsAt H' q (ns.map G) → D.nx (σ.set k (some (.str (ns.getD (ns.length - 1) "")))) H') :
    tFor (iTup K (tTup tas)) (gName k) (tDrop (tBM K "list" rAppend (tVar i) (tCons te tNil))) D σ H := by
  refine a H _ (Same.refl _) ⟨by rw [List.length_map]; exact Nat.le_trans (by omega : ns.length ≤ 1000) (by decide), fun p np => ⟨p, rfl, ⟨_, SqT.of upd_same⟩, ?_⟩⟩
  have sp := same_upd (o := .tup (ns.map V.str)) np
  have hp : (upd H p (.tup (ns.map V.str))) p = some (.tup (ns.map V.str)) := upd_same
  generalize (upd H p (.tup (ns.map V.str))) = H2 at sp hp ⊢
  have hq2 := sp _ _ hq
  have pf : p ≠ q := ne_of hp hq2 fun z => nomatch z
  refine for_tup (K := K) (a := p) (xs := ns.map V.str) (fun m σ' H' => (σ' = if m = 0 then σ else σ.set k (some (.str (ns.getD (m - 1) "")))) ∧ DsAt H' q ((ns.take m).map G) ∧ But q H2 H') ⟨(if_pos rfl).symm, ⟨[], hq2, by rw [List.take_zero]; exact .nil⟩, fun b o _ e => e⟩
    (fun m σ' H' _ h => SqT.of (h.2.2 _ _ pf hp)) (fun m x σ' H' hx h => ?_) fun σ' H' h => ?_
  · obtain ⟨e1, ⟨bs, g1, g2⟩, k3⟩ := h
    rw [List.getElem?_map, Option.map_eq_some_iff] at hx
    obtain ⟨u, hu, rfl⟩ := hx
    have hm := (List.getElem?_eq_some_iff.mp hu).1
    have es : σ'.set k (some (.str u)) = σ.set k (some (.str u)) := by
      rw [e1]
      split
      · rfl
      · exact List.set_set ..
    show tDrop _ _ (σ'.set k (some (.str u))) H'
    rw [es]
    refine bm_run (x := .ref q) (val_var ?_) (.inl ⟨rfl, _, SqL.of g1⟩) ?_
    · rw [List.getElem?_set_ne ik.symm]
      exact hv
    refine he u (List.mem_of_getElem? hu) H' (fun b o n e => k3 b o n (sp _ _ e)) H' _ (Same.refl _) fun H4 r s4 hr => ?_
    have g14 := s4 _ _ g1
    have len : bs.length ≤ 500 := by
      rw [Paired.length g2, List.length_map]
      exact Nat.le_trans (List.length_take_le' ..) few
    refine ⟨q, _, .ref r, rfl, rfl, g14, small1000 (by rw [List.length_map]; omega), ?_, ⟨bs ++ [r], by rw [upd_same, List.map_append]; rfl, ?_⟩, fun b o n e => by rw [upd_ne n]; exact s4 _ _ (k3 b o n e)⟩
    · rw [if_neg (Nat.succ_ne_zero m)]
      congr
      rw [Nat.add_sub_cancel, List.getD_eq_getElem?_getD, hu]
      rfl
    · have nb : ∀ {b : Addr} {ws : List Str}, ws ≠ [] → LsAt H4 b ws → LsAt (upd H4 q (.lst (bs.map V.ref ++ [.ref r]))) b ws := fun {b ws} nw hb => by
        have n : b ≠ q := ne_of hb g14 fun z => by
          injection z with z
          cases ws with
          | nil => exact nw rfl
          | cons w ws => cases bs with
            | nil => cases z
            | cons b0 bs =>
              injection z with z
              cases z
        unfold LsAt
        rw [upd_ne n]
        exact hb
      rw [take_snoc hu, List.map_append]
      have g4 : Paired (fun b ws => LsAt H4 b ws) bs ((ns.take m).map G) := paired_imp (fun x y z => s4 _ _ z) g2
      have w0 : ∀ ws ∈ (ns.take m).map G, ws ≠ [] := fun ws hws => by
        obtain ⟨x, _, rfl⟩ := List.mem_map.mp hws
        exact ne x
      clear g14 g2 len g1
      generalize (upd H4 q (.lst (bs.map V.ref ++ [.ref r]))) = H5 at nb
      generalize (ns.take m).map G = gs at g4 w0 ⊢
      induction g4 with
      | nil => exact .cons (nb (ne u) hr) .nil
      | cons a b ih => exact .cons (nb (w0 _ (List.mem_cons_self ..)) a) (ih fun ws h => w0 ws (List.mem_cons_of_mem _ h))
  · obtain ⟨e1, F3, k3⟩ := h
    rw [List.length_map] at e1 F3
    rw [List.take_length] at F3
    have hn : ns.length ≠ 0 := fun z => n0 (List.length_eq_zero_iff.mp z)
    rw [if_neg hn] at e1
    rw [e1]
    exact kk H' (fun b o n e => k3 b o n (sp _ _ e)) F3
end
end K5
namespace K5
open PySem PySem.Spec PyProof.Rows L2
theorem ne_all {cs : List (List Str × Int)} (h : (cs.all fun c => !Nat.beq c.1.length 0) = true) : ∀ c ∈ cs, c.1 ≠ [] := fun c hc => ne_len (by
  have := List.all_eq_true.mp h c hc
  revert this
  cases Nat.beq c.1.length 0
  · exact fun _ => rfl
  · exact fun z => nomatch z)
theorem ne_allL {ws : List (List Str)} (h : (ws.all fun c => !Nat.beq c.length 0) = true) : ∀ c ∈ ws, c ≠ [] := fun c hc => ne_len (by
  have := List.all_eq_true.mp h c hc
  revert this
  cases Nat.beq c.length 0
  · exact fun _ => rfl
  · exact fun z => nomatch z)
/-- texts of 200 signs at most -/
inductive Bnd : List Str → Prop
  | nil : Bnd []
  | cons {z : Str} {zs : List Str} : z.length ≤ 200 → Bnd zs → Bnd (z :: zs)
theorem bnd {zs : List Str} (h : Bnd zs) : ∀ z ∈ zs, z.length ≤ 200 := by
  induction h with
  | nil => exact fun z q => nomatch q
  | cons a b ih =>
    intro z q
    rcases List.mem_cons.mp q with e | q
    · rw [e]
      exact a
    · exact ih z q
abbrev s__law_counts : Stmt := topS 32
theorem sc__law_counts : FnScope ["_law_c", "_law_p", "_law_d", "_law_plain", "_law_cells", "_law_doors", "_law_name", "_law_ports", "_law_found", "_law_three", "_law_inner", "_law_long"] ["_law_c", "_law_p", "_law_d"] (defScope s__law_counts) := ⟨rfl, rfl, rfl, by decide +kernel, rfl, by decide +kernel, by decide +kernel⟩
def plainC (c : Str) : Str := ((("  set " : Str) ++ c) ++ (" 0" : Str))
def cellsC (c : Str) : List Str := (List.map (fun z => ((("cell " : Str) ++ z) ++ (" 0" : Str))) [c, ("b" : Str), ("bb" : Str), ("bbb" : Str)])
def doorC (pl z : Str) : List Str := ([(("door " : Str) ++ z)] ++ (List.replicate 8 [pl]).flatten)
def doorsC (c p d : Str) : List (List Str) := List.map (doorC (plainC c)) [d, ("e" : Str), ("ee" : Str), ("eee" : Str)]
def portsC (c p d : Str) : List Str := (List.map (fun z => (("port " : Str) ++ z)) [p, ("r" : Str), ("rr" : Str)])
def countsF5 (c p d : Str) : List (List Str × Int) := [(((cutL (cellsC c) none (some 3)) ++ (doorC (plainC c) d)), (-2)),
    (((cellsC c) ++ (doorC (plainC c) d)), 3),
    (((cutL (portsC c p d) none (some 2)) ++ [(("door " : Str) ++ d), ("  fail" : Str)]), (-2))]
def countsF6 (c p d : Str) : List (List Str × Int) := (countsF5 c p d) ++ [(((portsC c p d) ++ [(("door " : Str) ++ d), ("  fail" : Str)]), 2)]
def threeC (c p d : Str) : List Str := ((((cutL (cellsC c) none (some 1)) ++ (doorC (plainC c) d)) ++ (doorC (plainC c) "e")) ++ (doorC (plainC c) "ee"))
def countsF8 (c p d : Str) : List (List Str × Int) := ((countsF6 c p d) ++
    [((threeC c p d), (-2)),
    (((cutL (threeC c p d) none (some (-7))) ++ [("door eee" : Str), (plainC c)]), 21),
    (((threeC c p d) ++ [(plainC c)]), 28)])
def countsF9 (c p d : Str) : List (List Str × Int) := (countsF8 c p d) ++ [((((cutL (cellsC c) none (some 1)) ++ (doorC (plainC c) d)) ++ [(plainC c)]), 10)]
def innerC (c p d : Str) : List Str := ([((("  if " : Str) ++ c) ++ (" = 0" : Str))] ++ (List.replicate 8 [((("    add " : Str) ++ c) ++ (" 1" : Str))]).flatten)
def countsF11 (c p d : Str) : List (List Str × Int) := (countsF9 c p d) ++ [((((((cutL (cellsC c) none (some 1)) ++ [(("door " : Str) ++ d)]) ++ (innerC c p d)) ++ [("  else" : Str)]) ++ (cutL (innerC c p d) (some 1) none)), (-2))]
def countsF12 (c p d : Str) : List (List Str × Int) := (countsF11 c p d) ++ [(((((cutL (cellsC c) none (some 1)) ++ [(("door " : Str) ++ d)]) ++ (innerC c p d)) ++ (cutL (innerC c p d) (some 1) (some 2))), 11)]
def countsF13 (c p d : Str) : List (List Str × Int) := (countsF12 c p d) ++ [((((((cutL (cellsC c) none (some 1)) ++ [(("door " : Str) ++ d)]) ++ (innerC c p d)) ++ [("  else" : Str)]) ++ (List.replicate 2 (cutL (innerC c p d) (some 1) none)).flatten), 20)]
def longC (c p d : Str) : List Str := (((((cutL (cellsC c) none (some 1)) ++ (doorC (plainC c) d)) ++ (doorC (plainC c) "e")) ++ [((("door " : Str) ++ d) ++ (cutS d none (some 1)))]) ++ (cutL (innerC c p d) none (some (-1))))
def countsF15 (c p d : Str) : List (List Str × Int) := (countsF13 c p d) ++ [((longC c p d), (-2))]
def countsF16 (c p d : Str) : List (List Str × Int) := (countsF15 c p d) ++ [(((longC c p d) ++ (cutL (innerC c p d) (some (-1)) none)), 28)]
def countsC (c p d : Str) : List (List Str × Int) := (countsF16 c p d)
section
variable {P : Program} {w : World} {K : PySem.W.Frag} {mg : Str → Option Value} {base : Heap}
theorem okl_counts {f : Addr} {fd : FuncData} (D : Df K mg "_law_counts" s__law_counts f fd ["_law_c", "_law_p", "_law_d"]) : FnOk P w K mg base CX0 1 f fd ["_law_c", "_law_p", "_law_d"] (spCases countsC) := by
  refine D.F.ok sc__law_counts (fun vs H Q E h => ?_) (fun cdv A outer s H vs Q E hr h => ?_)
  · obtain ⟨c, p, d, rfl, _⟩ := h
    rfl
  · obtain ⟨c, p, d, rfl, hc, hp, hd, k⟩ := h
    have S := sc__law_counts
    refine ⟨_, (pss_cons (ps_par (i := 3) (j := 4) (by rfl) S.nd rfl rfl (by decide) rfl rfl (pa_cons (pe_op op_add_str (pe_op op_add_str pe_str (pv 0)) pe_str) (pa_cons (pe_lc (own := [("_law_name", 6)]) (g := gName 6) (tt := tYes) rfl S.nd (pi_tup (pe_tup (pa_cons (pv 0) (pa_cons pe_str (pa_cons pe_str (pa_cons pe_str pa_nil)))))) (blkOk_by (own := [("_law_name", 6)]) (N := ["_law_c", "_law_p", "_law_d", "_law_plain", "_law_cells", "_law_doors", "_law_name", "_law_ports", "_law_found", "_law_three", "_law_inner", "_law_long"]) (sc := defScope s__law_counts) (by decide +kernel)) (fun _ _ _ _ _ => pg_name (i := 6) S.nd rfl (Or.inl rfl)) (fun _ _ _ _ _ => pts_nil) (fun _ _ _ _ _ => (pe_op op_add_str (pe_op op_add_str pe_str (pv 6)) pe_str))) pa_nil)) (by rfl))
      (pss_cons (ps_set (i := 5) S.nd rfl (.inl rfl) (pe_lst pa_nil))
      (pss_cons (ps_for PassesOwn.never rfl (pi_tup (pe_tup (pa_cons (pv 2) (pa_cons pe_str (pa_cons pe_str (pa_cons pe_str pa_nil)))))) (pg_name (i := 6) S.nd rfl (.inl rfl)) (pss_one (ps_expr (pe_bm PySem.F.plainAttrs_list PySem.F.slot_list_append PySem.F.type_list_append mt_append (pv 5) (pa_cons (pe_op op_cat (pe_lst (pa_cons (pe_op op_add_str pe_str (pv 6)) pa_nil)) (pe_op op_rep (pe_lst (pa_cons (pv 3) pa_nil)) pe_int)) pa_nil)))))
      (pss_cons (ps_setLc (i := 7) (own := [("_law_name", 6)]) (g := gName 6) (by rfl) S.nd rfl rfl (sw_true rfl rfl rfl (by decide +kernel)) (pi_tup (pe_tup (pa_cons (pv 1) (pa_cons pe_str (pa_cons pe_str pa_nil))))) (blkOk_by (own := [("_law_name", 6)]) (N := ["_law_c", "_law_p", "_law_d", "_law_plain", "_law_cells", "_law_doors", "_law_name", "_law_ports", "_law_found", "_law_three", "_law_inner", "_law_long"]) (sc := defScope s__law_counts) (by decide +kernel)) (fun _ _ _ _ _ => pg_name (i := 6) S.nd rfl (Or.inl rfl)) (fun _ _ _ _ _ => pts_nil) (fun _ _ _ _ _ => (pe_op op_add_str pe_str (pv 6))))
      (pss_cons (ps_set (i := 8) S.nd rfl (.inl rfl) (pe_lst (pa_cons (pe_tup (pa_cons (pe_op op_cat (pe_slice sl_list (pv 4) po_none (po_some pe_int)) (pe_ix ix_list (pv 5) pe_int (fun _ _ => rfl))) (pa_cons (pe_un un_neg pe_int) pa_nil))) (pa_cons (pe_tup (pa_cons (pe_op op_cat (pv 4) (pe_ix ix_list (pv 5) pe_int (fun _ _ => rfl))) (pa_cons pe_int pa_nil))) (pa_cons (pe_tup (pa_cons (pe_op op_cat (pe_slice sl_list (pv 7) po_none (po_some pe_int)) (pe_lst (pa_cons (pe_op op_add_str pe_str (pv 2)) (pa_cons pe_str pa_nil)))) (pa_cons (pe_un un_neg pe_int) pa_nil))) pa_nil)))))
      (pss_cons (ps_expr (pe_bm PySem.F.plainAttrs_list PySem.F.slot_list_append PySem.F.type_list_append mt_append (pv 8) (pa_cons (pe_tup (pa_cons (pe_op op_cat (pv 7) (pe_lst (pa_cons (pe_op op_add_str pe_str (pv 2)) (pa_cons pe_str pa_nil)))) (pa_cons pe_int pa_nil))) pa_nil)))
      (pss_cons (ps_set (i := 9) S.nd rfl (.inl rfl) (pe_op op_cat (pe_op op_cat (pe_op op_cat (pe_slice sl_list (pv 4) po_none (po_some pe_int)) (pe_ix ix_list (pv 5) pe_int (fun _ _ => rfl))) (pe_ix ix_list (pv 5) pe_int (fun _ _ => rfl))) (pe_ix ix_list (pv 5) pe_int (fun _ _ => rfl))))
      (pss_cons (ps_set (i := 8) S.nd rfl (.inl rfl) (pe_op op_cat (pv 8) (pe_lst (pa_cons (pe_tup (pa_cons (pv 9) (pa_cons (pe_un un_neg pe_int) pa_nil))) (pa_cons (pe_tup (pa_cons (pe_op op_cat (pe_slice sl_list (pv 9) po_none (po_some (pe_un un_neg pe_int))) (pe_lst (pa_cons pe_str (pa_cons (pv 3) pa_nil)))) (pa_cons pe_int pa_nil))) (pa_cons (pe_tup (pa_cons (pe_op op_cat (pv 9) (pe_lst (pa_cons (pv 3) pa_nil))) (pa_cons pe_int pa_nil))) pa_nil))))))
      (pss_cons (ps_expr (pe_bm PySem.F.plainAttrs_list PySem.F.slot_list_append PySem.F.type_list_append mt_append (pv 8) (pa_cons (pe_tup (pa_cons (pe_op op_cat (pe_op op_cat (pe_slice sl_list (pv 4) po_none (po_some pe_int)) (pe_ix ix_list (pv 5) pe_int (fun _ _ => rfl))) (pe_lst (pa_cons (pv 3) pa_nil))) (pa_cons pe_int pa_nil))) pa_nil)))
      (pss_cons (ps_set (i := 10) S.nd rfl (.inl rfl) (pe_op op_cat (pe_lst (pa_cons (pe_op op_add_str (pe_op op_add_str pe_str (pv 0)) pe_str) pa_nil)) (pe_op op_rep (pe_lst (pa_cons (pe_op op_add_str (pe_op op_add_str pe_str (pv 0)) pe_str) pa_nil)) pe_int)))
      (pss_cons (ps_expr (pe_bm PySem.F.plainAttrs_list PySem.F.slot_list_append PySem.F.type_list_append mt_append (pv 8) (pa_cons (pe_tup (pa_cons (pe_op op_cat (pe_op op_cat (pe_op op_cat (pe_op op_cat (pe_slice sl_list (pv 4) po_none (po_some pe_int)) (pe_lst (pa_cons (pe_op op_add_str pe_str (pv 2)) pa_nil))) (pv 10)) (pe_lst (pa_cons pe_str pa_nil))) (pe_slice sl_list (pv 10) (po_some pe_int) po_none)) (pa_cons (pe_un un_neg pe_int) pa_nil))) pa_nil)))
      (pss_cons (ps_expr (pe_bm PySem.F.plainAttrs_list PySem.F.slot_list_append PySem.F.type_list_append mt_append (pv 8) (pa_cons (pe_tup (pa_cons (pe_op op_cat (pe_op op_cat (pe_op op_cat (pe_slice sl_list (pv 4) po_none (po_some pe_int)) (pe_lst (pa_cons (pe_op op_add_str pe_str (pv 2)) pa_nil))) (pv 10)) (pe_slice sl_list (pv 10) (po_some pe_int) (po_some pe_int))) (pa_cons pe_int pa_nil))) pa_nil)))
      (pss_cons (ps_expr (pe_bm PySem.F.plainAttrs_list PySem.F.slot_list_append PySem.F.type_list_append mt_append (pv 8) (pa_cons (pe_tup (pa_cons (pe_op op_cat (pe_op op_cat (pe_op op_cat (pe_op op_cat (pe_slice sl_list (pv 4) po_none (po_some pe_int)) (pe_lst (pa_cons (pe_op op_add_str pe_str (pv 2)) pa_nil))) (pv 10)) (pe_lst (pa_cons pe_str pa_nil))) (pe_op op_rep (pe_slice sl_list (pv 10) (po_some pe_int) po_none) pe_int)) (pa_cons pe_int pa_nil))) pa_nil)))
      (pss_cons (ps_set (i := 11) S.nd rfl (.inl rfl) (pe_op op_cat (pe_op op_cat (pe_op op_cat (pe_op op_cat (pe_slice sl_list (pv 4) po_none (po_some pe_int)) (pe_ix ix_list (pv 5) pe_int (fun _ _ => rfl))) (pe_ix ix_list (pv 5) pe_int (fun _ _ => rfl))) (pe_lst (pa_cons (pe_op op_add_str (pe_op op_add_str pe_str (pv 2)) (pe_slice sl_str (pv 2) po_none (po_some pe_int))) pa_nil))) (pe_slice sl_list (pv 10) po_none (po_some (pe_un un_neg pe_int)))))
      (pss_cons (ps_expr (pe_bm PySem.F.plainAttrs_list PySem.F.slot_list_append PySem.F.type_list_append mt_append (pv 8) (pa_cons (pe_tup (pa_cons (pv 11) (pa_cons (pe_un un_neg pe_int) pa_nil))) pa_nil)))
      (pss_cons (ps_expr (pe_bm PySem.F.plainAttrs_list PySem.F.slot_list_append PySem.F.type_list_append mt_append (pv 8) (pa_cons (pe_tup (pa_cons (pe_op op_cat (pv 11) (pe_slice sl_list (pv 10) (po_some (pe_un un_neg pe_int)) po_none)) (pa_cons pe_int pa_nil))) pa_nil)))
      (pss_one (ps_ret (pv 8))))))))))))))))))), ?_⟩
    have v1 := (show SN _ [some (.str c), some (.str p), some (.str d), none, none, none, none, none, none, none, none, none] H (plainC c) 180 from (SN.add (SN.add (SN.k (z := "  set ") (by decide +kernel)) (SN.w (j := 0) (by rfl) hc) (by decide)) (SN.k (z := " 0") (by decide +kernel)) (by decide)))
    have hplain : (plainC c).length ≤ 180 := v1.n
    have v1b := (show LV _ [some (.str c), some (.str p), some (.str d), none, none, none, none, none, none, none, none, none] H (cellsC c) from (LV.comp (K := K) (i := 6) (G := fun z => ((("cell " : Str) ++ z) ++ (" 0" : Str))) (fun _ => rfl) (AV.cons (SN.w (j := 0) (by rfl) hc) (AV.cons (SN.k (z := "b") (by decide +kernel)) (AV.cons (SN.k (z := "bb") (by decide +kernel)) (AV.cons (SN.k (z := "bbb") (by decide +kernel)) AV.nil)))) (fun z hz0 => (have hz : z.length ≤ 200 := bnd (Bnd.cons (Nat.le_trans hc (by decide)) (Bnd.cons (by decide +kernel) (Bnd.cons (by decide +kernel) (Bnd.cons (by decide +kernel) Bnd.nil)))) z hz0; (SN.add (SN.add (SN.k (z := "cell ") (by decide +kernel)) (SN.w (j := 6) (by rfl) hz) (by decide)) (SN.k (z := " 0") (by decide +kernel)) (by decide)).v)) (Nat.le_of_ble_eq_true rfl)))
    dsimp only [tSeq, tPar, tCons, tNil]
    refine v1.v H (Same.refl _) _ ?_
    refine v1b H _ (Same.refl _) fun G1 qcells SH hcells => ?_
    refine ⟨_, _, rfl, ?_⟩
    try dsimp only [tSeq, tAsg]
    refine ⟨Nat.zero_le _, fun qdoors nq => ?_⟩
    have sv2 := same_upd (o := .lst []) nq
    have hdoors : (upd G1 qdoors (.lst [])) qdoors = some (.lst []) := upd_same
    have nqH : H qdoors = none := SH.free nq
    have ncells : qcells ≠ qdoors := ne_of_none hcells nq
    have hcells := sv2 _ _ hcells
    have SH := SH.trans sv2
    generalize (upd G1 qdoors (.lst [])) = G2 at *
    try dsimp only [gName]
    try dsimp only [tSeq, tAsg]
    refine for_doors (σ := [some (.str c), some (.str p), some (.str d), some (.str (plainC c)), some (.ref qcells), some (.ref qdoors), none, none, none, none, none, none]) (i := 5) (k := 6) (ns := [d, ("e" : Str), ("ee" : Str), ("eee" : Str)]) (G := doorC (plainC c)) (by rfl) hdoors (by decide) (AV.cons (SN.w (j := 2) (by rfl) hd) (AV.cons (SN.k (z := "e") (by decide +kernel)) (AV.cons (SN.k (z := "ee") (by decide +kernel)) (AV.cons (SN.k (z := "eee") (by decide +kernel)) AV.nil)))) (ne_len rfl) (Nat.le_of_ble_eq_true rfl) (fun z => ne_len rfl) (fun z hz0 H9 _ => (have hz : z.length ≤ 200 := bnd (Bnd.cons (Nat.le_trans hd (by decide)) (Bnd.cons (by decide +kernel) (Bnd.cons (by decide +kernel) (Bnd.cons (by decide +kernel) Bnd.nil)))) z hz0; (LV.cat (LV.lst (AV.cons (SN.add (SN.k (z := "door ") (by decide +kernel)) (SN.w (j := 6) (by rfl) hz) (by decide)) AV.nil) (Nat.le_of_ble_eq_true rfl)) (LV.rep (k := 8) (LV.lst (AV.cons (SN.w (j := 3) (by rfl) hplain) AV.nil) (Nat.le_of_ble_eq_true rfl)) (by decide) (Nat.le_of_ble_eq_true rfl)) (Nat.le_of_ble_eq_true rfl)))) fun G3 bv3 hdoors2 => ?_
    have hcells : LsAt G3 _ _ := bv3 _ _ ncells hcells
    have SH : Same H G3 := fun b o e => bv3 b o (ne_of_none e nqH) (SH b o e)
    have hdoors : DsAt G3 qdoors (doorsC c p d) := hdoors2
    have v4 := (show LV _ [some (.str c), some (.str p), some (.str d), some (.str (plainC c)), some (.ref qcells), some (.ref qdoors), some (.str ("eee" : Str)), none, none, none, none, none] G3 (portsC c p d) from (LV.comp (K := K) (i := 6) (G := fun z => (("port " : Str) ++ z)) (fun _ => rfl) (AV.cons (SN.w (j := 1) (by rfl) hp) (AV.cons (SN.k (z := "r") (by decide +kernel)) (AV.cons (SN.k (z := "rr") (by decide +kernel)) AV.nil))) (fun z hz0 => (have hz : z.length ≤ 200 := bnd (Bnd.cons (Nat.le_trans hp (by decide)) (Bnd.cons (by decide +kernel) (Bnd.cons (by decide +kernel) Bnd.nil))) z hz0; (SN.add (SN.k (z := "port ") (by decide +kernel)) (SN.w (j := 6) (by rfl) hz) (by decide)).v)) (Nat.le_of_ble_eq_true rfl)))
    try dsimp only [tSeq, tAsg]
    refine v4 G3 _ (Same.refl _) fun G4 qports sv4 hports => ?_
    have hcells := sv4 _ _ hcells
    have hdoors := hdoors.mono sv4
    have SH : Same H G4 := SH.trans sv4
    try dsimp only [gName]
    have v5 := (show CLf _ [some (.str c), some (.str p), some (.str d), some (.str (plainC c)), some (.ref qcells), some (.ref qdoors), some (.str ("eee" : Str)), some (.ref qports), none, none, none, none] G4 (countsF5 c p d) from CLf.lst (AC.cons (CV.mk (LV.cat (LV.cut (K := K) (LV.v (j := 4) (by rfl) hcells) OV.no (OV.yes (fun H => show Val (tC (.int 3)) _ H (.int 3) from val_c))) (LV.ix (K := K) (j := 5) (i := 0) (ws := doorC (plainC c) d) (by rfl) hdoors (by rfl)) (Nat.le_of_ble_eq_true rfl)) (fun H => show Val (tUn (rU fun i => .int (-i)) (tC (.int 2))) _ H (.int (-2)) from val_neg val_c)) (AC.cons (CV.mk (LV.cat (LV.v (j := 4) (by rfl) hcells) (LV.ix (K := K) (j := 5) (i := 0) (ws := doorC (plainC c) d) (by rfl) hdoors (by rfl)) (Nat.le_of_ble_eq_true rfl)) (fun H => show Val (tC (.int 3)) _ H (.int 3) from val_c)) (AC.cons (CV.mk (LV.cat (LV.cut (K := K) (LV.v (j := 7) (by rfl) hports) OV.no (OV.yes (fun H => show Val (tC (.int 2)) _ H (.int 2) from val_c))) (LV.lst (AV.cons (SN.add (SN.k (z := "door ") (by decide +kernel)) (SN.w (j := 2) (by rfl) hd) (by decide)) (AV.cons (SN.k (z := "  fail") (by decide +kernel)) AV.nil)) (Nat.le_of_ble_eq_true rfl)) (Nat.le_of_ble_eq_true rfl)) (fun H => show Val (tUn (rU fun i => .int (-i)) (tC (.int 2))) _ H (.int (-2)) from val_neg val_c)) AC.nil))) (Nat.le_of_ble_eq_true rfl) (ne_len rfl) (ne_all rfl))
    try dsimp only [tSeq, tAsg]
    refine v5 G4 _ (Same.refl _) fun G5 f5 sv5 nf0 F2 => ?_
    have nf : H f5 = none := SH.free nf0
    have hcells := sv5 _ _ hcells
    have hports := sv5 _ _ hports
    have hdoors := hdoors.mono sv5
    have SH : Same H G5 := SH.trans sv5
    have F : FdAt G5 f5 (countsF5 c p d) := F2
    try dsimp only [gName]
    have v6 := (show CV _ [some (.str c), some (.str p), some (.str d), some (.str (plainC c)), some (.ref qcells), some (.ref qdoors), some (.str ("eee" : Str)), some (.ref qports), some (.ref f5), none, none, none] G5 (((portsC c p d) ++ [(("door " : Str) ++ d), ("  fail" : Str)]), 2) from (CV.mk (LV.cat (LV.v (j := 7) (by rfl) hports) (LV.lst (AV.cons (SN.add (SN.k (z := "door ") (by decide +kernel)) (SN.w (j := 2) (by rfl) hd) (by decide)) (AV.cons (SN.k (z := "  fail") (by decide +kernel)) AV.nil)) (Nat.le_of_ble_eq_true rfl)) (Nat.le_of_ble_eq_true rfl)) (fun H => show Val (tC (.int 2)) _ H (.int 2) from val_c)))
    try dsimp only [tSeq, tAsg]
    refine fd_app (i := 8) rfl F (Nat.le_of_ble_eq_true rfl) (ne_len rfl) v6 fun G6 F1 bv6 _ => ?_
    have hcells : LsAt G6 _ _ := But.ls bv6 F hcells (ne_len rfl)
    have hports : LsAt G6 _ _ := But.ls bv6 F hports (ne_len rfl)
    have hdoors : DsAt G6 _ _ := But.ds bv6 F hdoors (ne_len rfl) (ne_allL rfl)
    have SH : Same H G6 := fun b o e => bv6 b o (ne_of_none e nf) (SH b o e)
    have F : FdAt G6 f5 (countsF6 c p d) := F1
    have v7 := (show LV _ [some (.str c), some (.str p), some (.str d), some (.str (plainC c)), some (.ref qcells), some (.ref qdoors), some (.str ("eee" : Str)), some (.ref qports), some (.ref f5), none, none, none] G6 (threeC c p d) from (LV.cat (LV.cat (LV.cat (LV.cut (K := K) (LV.v (j := 4) (by rfl) hcells) OV.no (OV.yes (fun H => show Val (tC (.int 1)) _ H (.int 1) from val_c))) (LV.ix (K := K) (j := 5) (i := 0) (ws := doorC (plainC c) d) (by rfl) hdoors (by rfl)) (Nat.le_of_ble_eq_true rfl)) (LV.ix (K := K) (j := 5) (i := 1) (ws := doorC (plainC c) "e") (by rfl) hdoors (by rfl)) (Nat.le_of_ble_eq_true rfl)) (LV.ix (K := K) (j := 5) (i := 2) (ws := doorC (plainC c) "ee") (by rfl) hdoors (by rfl)) (Nat.le_of_ble_eq_true rfl)))
    try dsimp only [tSeq, tAsg]
    refine v7 G6 _ (Same.refl _) fun G7 qthree sv7 hthree => ?_
    have hcells := sv7 _ _ hcells
    have hports := sv7 _ _ hports
    have hdoors := hdoors.mono sv7
    have F := F.mono sv7
    have SH : Same H G7 := SH.trans sv7
    try dsimp only [gName]
    have v8 := (show CLf _ [some (.str c), some (.str p), some (.str d), some (.str (plainC c)), some (.ref qcells), some (.ref qdoors), some (.str ("eee" : Str)), some (.ref qports), some (.ref f5), some (.ref qthree), none, none] G7 (countsF8 c p d) from CLf.cat (CL.v (j := 8) (by rfl) F) (CL.lst (AC.cons (CV.mk (LV.v (j := 9) (by rfl) hthree) (fun H => show Val (tUn (rU fun i => .int (-i)) (tC (.int 2))) _ H (.int (-2)) from val_neg val_c)) (AC.cons (CV.mk (LV.cat (LV.cut (K := K) (LV.v (j := 9) (by rfl) hthree) OV.no (OV.yes (fun H => show Val (tUn (rU fun i => .int (-i)) (tC (.int 7))) _ H (.int (-7)) from val_neg val_c))) (LV.lst (AV.cons (SN.k (z := "door eee") (by decide +kernel)) (AV.cons (SN.w (j := 3) (by rfl) hplain) AV.nil)) (Nat.le_of_ble_eq_true rfl)) (Nat.le_of_ble_eq_true rfl)) (fun H => show Val (tC (.int 21)) _ H (.int 21) from val_c)) (AC.cons (CV.mk (LV.cat (LV.v (j := 9) (by rfl) hthree) (LV.lst (AV.cons (SN.w (j := 3) (by rfl) hplain) AV.nil) (Nat.le_of_ble_eq_true rfl)) (Nat.le_of_ble_eq_true rfl)) (fun H => show Val (tC (.int 28)) _ H (.int 28) from val_c)) AC.nil))) (Nat.le_of_ble_eq_true rfl)) (Nat.le_of_ble_eq_true rfl) (ne_len rfl) (ne_all rfl))
    try dsimp only [tSeq, tAsg]
    refine v8 G7 _ (Same.refl _) fun G8 f8 sv8 nf0 F2 => ?_
    have nf : H f8 = none := SH.free nf0
    have hcells := sv8 _ _ hcells
    have hports := sv8 _ _ hports
    have hthree := sv8 _ _ hthree
    have hdoors := hdoors.mono sv8
    have F := F.mono sv8
    have SH : Same H G8 := SH.trans sv8
    have F : FdAt G8 f8 (countsF8 c p d) := F2
    try dsimp only [gName]
    have v9 := (show CV _ [some (.str c), some (.str p), some (.str d), some (.str (plainC c)), some (.ref qcells), some (.ref qdoors), some (.str ("eee" : Str)), some (.ref qports), some (.ref f8), some (.ref qthree), none, none] G8 ((((cutL (cellsC c) none (some 1)) ++ (doorC (plainC c) d)) ++ [(plainC c)]), 10) from (CV.mk (LV.cat (LV.cat (LV.cut (K := K) (LV.v (j := 4) (by rfl) hcells) OV.no (OV.yes (fun H => show Val (tC (.int 1)) _ H (.int 1) from val_c))) (LV.ix (K := K) (j := 5) (i := 0) (ws := doorC (plainC c) d) (by rfl) hdoors (by rfl)) (Nat.le_of_ble_eq_true rfl)) (LV.lst (AV.cons (SN.w (j := 3) (by rfl) hplain) AV.nil) (Nat.le_of_ble_eq_true rfl)) (Nat.le_of_ble_eq_true rfl)) (fun H => show Val (tC (.int 10)) _ H (.int 10) from val_c)))
    try dsimp only [tSeq, tAsg]
    refine fd_app (i := 8) rfl F (Nat.le_of_ble_eq_true rfl) (ne_len rfl) v9 fun G9 F1 bv9 _ => ?_
    have hcells : LsAt G9 _ _ := But.ls bv9 F hcells (ne_len rfl)
    have hports : LsAt G9 _ _ := But.ls bv9 F hports (ne_len rfl)
    have hthree : LsAt G9 _ _ := But.ls bv9 F hthree (ne_len rfl)
    have hdoors : DsAt G9 _ _ := But.ds bv9 F hdoors (ne_len rfl) (ne_allL rfl)
    have SH : Same H G9 := fun b o e => bv9 b o (ne_of_none e nf) (SH b o e)
    have F : FdAt G9 f8 (countsF9 c p d) := F1
    have v10 := (show LV _ [some (.str c), some (.str p), some (.str d), some (.str (plainC c)), some (.ref qcells), some (.ref qdoors), some (.str ("eee" : Str)), some (.ref qports), some (.ref f8), some (.ref qthree), none, none] G9 (innerC c p d) from (LV.cat (LV.lst (AV.cons (SN.add (SN.add (SN.k (z := "  if ") (by decide +kernel)) (SN.w (j := 0) (by rfl) hc) (by decide)) (SN.k (z := " = 0") (by decide +kernel)) (by decide)) AV.nil) (Nat.le_of_ble_eq_true rfl)) (LV.rep (k := 8) (LV.lst (AV.cons (SN.add (SN.add (SN.k (z := "    add ") (by decide +kernel)) (SN.w (j := 0) (by rfl) hc) (by decide)) (SN.k (z := " 1") (by decide +kernel)) (by decide)) AV.nil) (Nat.le_of_ble_eq_true rfl)) (by decide) (Nat.le_of_ble_eq_true rfl)) (Nat.le_of_ble_eq_true rfl)))
    try dsimp only [tSeq, tAsg]
    refine v10 G9 _ (Same.refl _) fun G10 qinner sv10 hinner => ?_
    have hcells := sv10 _ _ hcells
    have hports := sv10 _ _ hports
    have hthree := sv10 _ _ hthree
    have hdoors := hdoors.mono sv10
    have F := F.mono sv10
    have SH : Same H G10 := SH.trans sv10
    try dsimp only [gName]
    have v11 := (show CV _ [some (.str c), some (.str p), some (.str d), some (.str (plainC c)), some (.ref qcells), some (.ref qdoors), some (.str ("eee" : Str)), some (.ref qports), some (.ref f8), some (.ref qthree), some (.ref qinner), none] G10 ((((((cutL (cellsC c) none (some 1)) ++ [(("door " : Str) ++ d)]) ++ (innerC c p d)) ++ [("  else" : Str)]) ++ (cutL (innerC c p d) (some 1) none)), (-2)) from (CV.mk (LV.cat (LV.cat (LV.cat (LV.cat (LV.cut (K := K) (LV.v (j := 4) (by rfl) hcells) OV.no (OV.yes (fun H => show Val (tC (.int 1)) _ H (.int 1) from val_c))) (LV.lst (AV.cons (SN.add (SN.k (z := "door ") (by decide +kernel)) (SN.w (j := 2) (by rfl) hd) (by decide)) AV.nil) (Nat.le_of_ble_eq_true rfl)) (Nat.le_of_ble_eq_true rfl)) (LV.v (j := 10) (by rfl) hinner) (Nat.le_of_ble_eq_true rfl)) (LV.lst (AV.cons (SN.k (z := "  else") (by decide +kernel)) AV.nil) (Nat.le_of_ble_eq_true rfl)) (Nat.le_of_ble_eq_true rfl)) (LV.cut (K := K) (LV.v (j := 10) (by rfl) hinner) (OV.yes (fun H => show Val (tC (.int 1)) _ H (.int 1) from val_c)) OV.no) (Nat.le_of_ble_eq_true rfl)) (fun H => show Val (tUn (rU fun i => .int (-i)) (tC (.int 2))) _ H (.int (-2)) from val_neg val_c)))
    try dsimp only [tSeq, tAsg]
    refine fd_app (i := 8) rfl F (Nat.le_of_ble_eq_true rfl) (ne_len rfl) v11 fun G11 F1 bv11 _ => ?_
    have hcells : LsAt G11 _ _ := But.ls bv11 F hcells (ne_len rfl)
    have hports : LsAt G11 _ _ := But.ls bv11 F hports (ne_len rfl)
    have hthree : LsAt G11 _ _ := But.ls bv11 F hthree (ne_len rfl)
    have hinner : LsAt G11 _ _ := But.ls bv11 F hinner (ne_len rfl)
    have hdoors : DsAt G11 _ _ := But.ds bv11 F hdoors (ne_len rfl) (ne_allL rfl)
    have SH : Same H G11 := fun b o e => bv11 b o (ne_of_none e nf) (SH b o e)
    have F : FdAt G11 f8 (countsF11 c p d) := F1
    have v12 := (show CV _ [some (.str c), some (.str p), some (.str d), some (.str (plainC c)), some (.ref qcells), some (.ref qdoors), some (.str ("eee" : Str)), some (.ref qports), some (.ref f8), some (.ref qthree), some (.ref qinner), none] G11 (((((cutL (cellsC c) none (some 1)) ++ [(("door " : Str) ++ d)]) ++ (innerC c p d)) ++ (cutL (innerC c p d) (some 1) (some 2))), 11) from (CV.mk (LV.cat (LV.cat (LV.cat (LV.cut (K := K) (LV.v (j := 4) (by rfl) hcells) OV.no (OV.yes (fun H => show Val (tC (.int 1)) _ H (.int 1) from val_c))) (LV.lst (AV.cons (SN.add (SN.k (z := "door ") (by decide +kernel)) (SN.w (j := 2) (by rfl) hd) (by decide)) AV.nil) (Nat.le_of_ble_eq_true rfl)) (Nat.le_of_ble_eq_true rfl)) (LV.v (j := 10) (by rfl) hinner) (Nat.le_of_ble_eq_true rfl)) (LV.cut (K := K) (LV.v (j := 10) (by rfl) hinner) (OV.yes (fun H => show Val (tC (.int 1)) _ H (.int 1) from val_c)) (OV.yes (fun H => show Val (tC (.int 2)) _ H (.int 2) from val_c))) (Nat.le_of_ble_eq_true rfl)) (fun H => show Val (tC (.int 11)) _ H (.int 11) from val_c)))
    try dsimp only [tSeq, tAsg]
    refine fd_app (i := 8) rfl F (Nat.le_of_ble_eq_true rfl) (ne_len rfl) v12 fun G12 F1 bv12 _ => ?_
    have hcells : LsAt G12 _ _ := But.ls bv12 F hcells (ne_len rfl)
    have hports : LsAt G12 _ _ := But.ls bv12 F hports (ne_len rfl)
    have hthree : LsAt G12 _ _ := But.ls bv12 F hthree (ne_len rfl)
    have hinner : LsAt G12 _ _ := But.ls bv12 F hinner (ne_len rfl)
    have hdoors : DsAt G12 _ _ := But.ds bv12 F hdoors (ne_len rfl) (ne_allL rfl)
    have SH : Same H G12 := fun b o e => bv12 b o (ne_of_none e nf) (SH b o e)
    have F : FdAt G12 f8 (countsF12 c p d) := F1
    have v13 := (show CV _ [some (.str c), some (.str p), some (.str d), some (.str (plainC c)), some (.ref qcells), some (.ref qdoors), some (.str ("eee" : Str)), some (.ref qports), some (.ref f8), some (.ref qthree), some (.ref qinner), none] G12 ((((((cutL (cellsC c) none (some 1)) ++ [(("door " : Str) ++ d)]) ++ (innerC c p d)) ++ [("  else" : Str)]) ++ (List.replicate 2 (cutL (innerC c p d) (some 1) none)).flatten), 20) from (CV.mk (LV.cat (LV.cat (LV.cat (LV.cat (LV.cut (K := K) (LV.v (j := 4) (by rfl) hcells) OV.no (OV.yes (fun H => show Val (tC (.int 1)) _ H (.int 1) from val_c))) (LV.lst (AV.cons (SN.add (SN.k (z := "door ") (by decide +kernel)) (SN.w (j := 2) (by rfl) hd) (by decide)) AV.nil) (Nat.le_of_ble_eq_true rfl)) (Nat.le_of_ble_eq_true rfl)) (LV.v (j := 10) (by rfl) hinner) (Nat.le_of_ble_eq_true rfl)) (LV.lst (AV.cons (SN.k (z := "  else") (by decide +kernel)) AV.nil) (Nat.le_of_ble_eq_true rfl)) (Nat.le_of_ble_eq_true rfl)) (LV.rep (k := 2) (LV.cut (K := K) (LV.v (j := 10) (by rfl) hinner) (OV.yes (fun H => show Val (tC (.int 1)) _ H (.int 1) from val_c)) OV.no) (by decide) (Nat.le_of_ble_eq_true rfl)) (Nat.le_of_ble_eq_true rfl)) (fun H => show Val (tC (.int 20)) _ H (.int 20) from val_c)))
    try dsimp only [tSeq, tAsg]
    refine fd_app (i := 8) rfl F (Nat.le_of_ble_eq_true rfl) (ne_len rfl) v13 fun G13 F1 bv13 _ => ?_
    have hcells : LsAt G13 _ _ := But.ls bv13 F hcells (ne_len rfl)
    have hports : LsAt G13 _ _ := But.ls bv13 F hports (ne_len rfl)
    have hthree : LsAt G13 _ _ := But.ls bv13 F hthree (ne_len rfl)
    have hinner : LsAt G13 _ _ := But.ls bv13 F hinner (ne_len rfl)
    have hdoors : DsAt G13 _ _ := But.ds bv13 F hdoors (ne_len rfl) (ne_allL rfl)
    have SH : Same H G13 := fun b o e => bv13 b o (ne_of_none e nf) (SH b o e)
    have F : FdAt G13 f8 (countsF13 c p d) := F1
    have v14 := (show LV _ [some (.str c), some (.str p), some (.str d), some (.str (plainC c)), some (.ref qcells), some (.ref qdoors), some (.str ("eee" : Str)), some (.ref qports), some (.ref f8), some (.ref qthree), some (.ref qinner), none] G13 (longC c p d) from (LV.cat (LV.cat (LV.cat (LV.cat (LV.cut (K := K) (LV.v (j := 4) (by rfl) hcells) OV.no (OV.yes (fun H => show Val (tC (.int 1)) _ H (.int 1) from val_c))) (LV.ix (K := K) (j := 5) (i := 0) (ws := doorC (plainC c) d) (by rfl) hdoors (by rfl)) (Nat.le_of_ble_eq_true rfl)) (LV.ix (K := K) (j := 5) (i := 1) (ws := doorC (plainC c) "e") (by rfl) hdoors (by rfl)) (Nat.le_of_ble_eq_true rfl)) (LV.lst (AV.cons (SN.add (SN.add (SN.k (z := "door ") (by decide +kernel)) (SN.w (j := 2) (by rfl) hd) (by decide)) (SN.cut (SN.w (j := 2) (by rfl) hd) (by decide) OV.no (OV.yes (fun H => show Val (tC (.int 1)) _ H (.int 1) from val_c))) (by decide)) AV.nil) (Nat.le_of_ble_eq_true rfl)) (Nat.le_of_ble_eq_true rfl)) (LV.cut (K := K) (LV.v (j := 10) (by rfl) hinner) OV.no (OV.yes (fun H => show Val (tUn (rU fun i => .int (-i)) (tC (.int 1))) _ H (.int (-1)) from val_neg val_c))) (Nat.le_of_ble_eq_true rfl)))
    try dsimp only [tSeq, tAsg]
    refine v14 G13 _ (Same.refl _) fun G14 qlong sv14 hlong => ?_
    have hcells := sv14 _ _ hcells
    have hports := sv14 _ _ hports
    have hthree := sv14 _ _ hthree
    have hinner := sv14 _ _ hinner
    have hdoors := hdoors.mono sv14
    have F := F.mono sv14
    have SH : Same H G14 := SH.trans sv14
    try dsimp only [gName]
    have v15 := (show CV _ [some (.str c), some (.str p), some (.str d), some (.str (plainC c)), some (.ref qcells), some (.ref qdoors), some (.str ("eee" : Str)), some (.ref qports), some (.ref f8), some (.ref qthree), some (.ref qinner), some (.ref qlong)] G14 ((longC c p d), (-2)) from (CV.mk (LV.v (j := 11) (by rfl) hlong) (fun H => show Val (tUn (rU fun i => .int (-i)) (tC (.int 2))) _ H (.int (-2)) from val_neg val_c)))
    try dsimp only [tSeq, tAsg]
    refine fd_app (i := 8) rfl F (Nat.le_of_ble_eq_true rfl) (ne_len rfl) v15 fun G15 F1 bv15 _ => ?_
    have hcells : LsAt G15 _ _ := But.ls bv15 F hcells (ne_len rfl)
    have hports : LsAt G15 _ _ := But.ls bv15 F hports (ne_len rfl)
    have hthree : LsAt G15 _ _ := But.ls bv15 F hthree (ne_len rfl)
    have hinner : LsAt G15 _ _ := But.ls bv15 F hinner (ne_len rfl)
    have hlong : LsAt G15 _ _ := But.ls bv15 F hlong (ne_len rfl)
    have hdoors : DsAt G15 _ _ := But.ds bv15 F hdoors (ne_len rfl) (ne_allL rfl)
    have SH : Same H G15 := fun b o e => bv15 b o (ne_of_none e nf) (SH b o e)
    have F : FdAt G15 f8 (countsF15 c p d) := F1
    have v16 := (show CV _ [some (.str c), some (.str p), some (.str d), some (.str (plainC c)), some (.ref qcells), some (.ref qdoors), some (.str ("eee" : Str)), some (.ref qports), some (.ref f8), some (.ref qthree), some (.ref qinner), some (.ref qlong)] G15 (((longC c p d) ++ (cutL (innerC c p d) (some (-1)) none)), 28) from (CV.mk (LV.cat (LV.v (j := 11) (by rfl) hlong) (LV.cut (K := K) (LV.v (j := 10) (by rfl) hinner) (OV.yes (fun H => show Val (tUn (rU fun i => .int (-i)) (tC (.int 1))) _ H (.int (-1)) from val_neg val_c)) OV.no) (Nat.le_of_ble_eq_true rfl)) (fun H => show Val (tC (.int 28)) _ H (.int 28) from val_c)))
    try dsimp only [tSeq, tAsg]
    refine fd_app (i := 8) rfl F (Nat.le_of_ble_eq_true rfl) (ne_len rfl) v16 fun G16 F1 bv16 _ => ?_
    have hcells : LsAt G16 _ _ := But.ls bv16 F hcells (ne_len rfl)
    have hports : LsAt G16 _ _ := But.ls bv16 F hports (ne_len rfl)
    have hthree : LsAt G16 _ _ := But.ls bv16 F hthree (ne_len rfl)
    have hinner : LsAt G16 _ _ := But.ls bv16 F hinner (ne_len rfl)
    have hlong : LsAt G16 _ _ := But.ls bv16 F hlong (ne_len rfl)
    have hdoors : DsAt G16 _ _ := But.ds bv16 F hdoors (ne_len rfl) (ne_allL rfl)
    have SH : Same H G16 := fun b o e => bv16 b o (ne_of_none e nf) (SH b o e)
    have F : FdAt G16 f8 (countsF16 c p d) := F1
    obtain ⟨xs, h1, h2, _⟩ := F
    refine (val_var rfl) _ ?_
    exact k G16 f8 xs SH h1 h2
end
end K5
namespace K5
open PySem PySem.Spec PyProof.Rows L2
abbrev s__law_words : Stmt := topS 34
theorem sc__law_words : FnScope ["_law_c", "_law_p", "_law_d", "_law_head_here", "_law_tail", "_law_found", "_law_line", "_law_name", "_law_worth"] ["_law_c", "_law_p", "_law_d"] (defScope s__law_words) := ⟨rfl, rfl, rfl, by decide +kernel, rfl, by decide +kernel, by decide +kernel⟩
def tailC (d : Str) : List Str := [(("door " : Str) ++ d), ("  fail" : Str)]
def wordsF2 (c p d : Str) : List (List Str × Int) := (List.map (fun z => (([((("cell " : Str) ++ z) ++ (" 0" : Str))] ++ (tailC d)), 0)) [("it" : Str), ("got" : Str), ("lost" : Str), ("busy" : Str), ("A" : Str), ("ninesigns" : Str), ("a1" : Str), ("" : Str)])
def wordsF3 (c p d : Str) : List (List Str × Int) := ((wordsF2 c p d) ++
    (List.map (fun z => (([((("cell " : Str) ++ z) ++ (" 0" : Str))] ++ (tailC d)), (-2))) [("any" : Str), ("cell" : Str), ("eightsig" : Str), ("if" : Str)]))
def wordsF4 (c p d : Str) : List (List Str × Int) := ((wordsF3 c p d) ++
    (List.map (fun z => ([(("door " : Str) ++ z), ("  fail" : Str)], 0)) [("any" : Str), ("Get" : Str), ("ninesigns" : Str)]))
def wordsF5 (c p d : Str) : List (List Str × Int) := ((wordsF4 c p d) ++
    (List.map (fun z => ([(("door " : Str) ++ z), ("  fail" : Str)], (-2))) [("it" : Str), ("got" : Str), ("lost" : Str), ("door" : Str), ("eightsig" : Str)]))
def wordsF6 (c p d : Str) : List (List Str × Int) := ((wordsF5 c p d) ++
    (List.map (fun z => (([((("cell " : Str) ++ c) ++ z)] ++ (tailC d)), 0)) [(" 3" : Str), (" -1" : Str), (" 00" : Str), ("" : Str), (" 1 1" : Str), (" x" : Str)]))
def wordsF7 (c p d : Str) : List (List Str × Int) := ((wordsF6 c p d) ++
    [(([((("cell " : Str) ++ c) ++ (" 2" : Str)), ((("cell " : Str) ++ c) ++ (" 2" : Str))] ++ (tailC d)), 1),
    (([(("port " : Str) ++ p), (("port " : Str) ++ p)] ++ (tailC d)), 1)])
def wordsF8 (c p d : Str) : List (List Str × Int) := ((wordsF7 c p d) ++
    [(((hereC c p d) ++ [("  fail" : Str), (("door " : Str) ++ d), ("  fail" : Str)]), 4),
    (([(("port " : Str) ++ p), ((("cell " : Str) ++ c) ++ (" 0" : Str))] ++ (tailC d)), 1)])
def wordsF9 (c p d : Str) : List (List Str × Int) := ((wordsF8 c p d) ++
    [(((tailC d) ++ [(("port " : Str) ++ p)]), 2),
    (((tailC d) ++ [((("cell " : Str) ++ c) ++ (" 0" : Str))]), 2)])
def wordsF10 (c p d : Str) : List (List Str × Int) := (wordsF9 c p d) ++ List.map (fun z => (((hereC c p d) ++ [(("  " : Str) ++ z)]), 3)) [("set nobody 0" : Str), ("ask nobody get it" : Str), ((("set " : Str) ++ c) ++ (" 3" : Str)), (("set " : Str) ++ c), ("add it 1" : Str), ("draw got" : Str), ("answer" : Str)]
def wordsF11 (c p d : Str) : List (List Str × Int) := (wordsF10 c p d) ++ List.map (fun z => (((hereC c p d) ++ [(("  " : Str) ++ z)]), 3)) [("answer lost" : Str), ("if it = " : Str), ("if it == 0" : Str), ("if it" : Str), ((("ask " : Str) ++ p) ++ (" get" : Str)), ("fail 1" : Str)]
def wordsF12 (c p d : Str) : List (List Str × Int) := (wordsF11 c p d) ++ List.map (fun z => (((hereC c p d) ++ [z]), 3)) [("  fail " : Str), ((("  set  " : Str) ++ c) ++ (" 0" : Str)), ("   fail" : Str), ("\tfail" : Str), ("  FAIL" : Str), ("  answer 01" : Str), ("" : Str), ("  " : Str)]
def wordsF13 (c p d : Str) : List (List Str × Int) := ((wordsF12 c p d) ++
    [([("" : Str)], 0),
    ((headC c p), 2),
    ((hereC c p d), 3),
    (((hereC c p d) ++ [("  if lost" : Str)]), 4),
    (((hereC c p d) ++ [("door e" : Str)]), 3)])
def wordsC (c p d : Str) : List (List Str × Int) := (wordsF13 c p d) ++ [(((hereC c p d) ++ [("  fail" : Str), ("" : Str)]), 4),
    ([((("door " : Str) ++ d) ++ (" " : Str))], 0),
    ([("  fail" : Str)], 0),
    ([((("port " : Str) ++ p) ++ (" 1" : Str))], 0)]
section
variable {P : Program} {w : World} {K : PySem.W.Frag} {mg : Str → Option Value} {base : Heap}
theorem okl_words {f fH : Addr} {fd dH : FuncData} (Dh : Df K mg "_law_head" s__law_head fH dH ["_law_c", "_law_p"]) (D : Df K mg "_law_words" s__law_words f fd ["_law_c", "_law_p", "_law_d"]) : FnOk P w K mg base CX0 2 f fd ["_law_c", "_law_p", "_law_d"] (spCases wordsC) := by
  have Gh : FnOk P w K mg base CX0 1 fH dH ["_law_c", "_law_p"] spLawHead := ok_law_head Dh
  refine D.F.ok sc__law_words (fun vs H Q E h => ?_) (fun cdv A outer s H vs Q E hr h => ?_)
  · obtain ⟨c, p, d, rfl, _⟩ := h
    rfl
  · obtain ⟨c, p, d, rfl, hc, hp, hd, k⟩ := h
    have S := sc__law_words
    refine ⟨_, (pss_cons (ps_asg (pe_tup (pa_cons (pe_op op_cat (pe_call Gh (hr.mono (by decide)) (by rfl) Dh.g Dh.F.kp Dh.b .nil pass0 (pa_cons (pv 0) (pa_cons (pv 1) pa_nil))) (pe_lst (pa_cons (pe_op op_add_str pe_str (pv 2)) pa_nil))) (pa_cons (pe_lst (pa_cons (pe_op op_add_str pe_str (pv 2)) (pa_cons pe_str pa_nil))) pa_nil))) (pg_tup (by rfl) (pgs_cons (pg_name (i := 3) S.nd rfl (.inl rfl)) (pgs_cons (pg_name (i := 4) S.nd rfl (.inr rfl)) pgs_nil))))
      (pss_cons (ps_setLc (i := 5) (own := [("_law_name", 7)]) (g := gName 7) (by rfl) S.nd rfl rfl (sw_true rfl rfl rfl (by decide +kernel)) (pi_tup (pe_tup (pa_cons pe_str (pa_cons pe_str (pa_cons pe_str (pa_cons pe_str (pa_cons pe_str (pa_cons pe_str (pa_cons pe_str (pa_cons pe_str pa_nil)))))))))) (blkOk_by (own := [("_law_name", 7)]) (N := ["_law_c", "_law_p", "_law_d", "_law_head_here", "_law_tail", "_law_found", "_law_line", "_law_name", "_law_worth"]) (sc := defScope s__law_words) (by decide +kernel)) (fun _ _ _ _ _ => pg_name (i := 7) S.nd rfl (Or.inl rfl)) (fun _ _ _ _ _ => pts_nil) (fun _ _ _ _ _ => (pe_tup (pa_cons (pe_op op_cat (pe_lst (pa_cons (pe_op op_add_str (pe_op op_add_str pe_str (pv 7)) pe_str) pa_nil)) (pv 4)) (pa_cons pe_int pa_nil)))))
      (pss_cons (ps_set (i := 5) S.nd rfl (.inl rfl) (pe_op op_cat (pv 5) (pe_lc (own := [("_law_name", 7)]) (g := gName 7) (tt := tYes) rfl S.nd (pi_tup (pe_tup (pa_cons pe_str (pa_cons pe_str (pa_cons pe_str (pa_cons pe_str pa_nil)))))) (blkOk_by (own := [("_law_name", 7)]) (N := ["_law_c", "_law_p", "_law_d", "_law_head_here", "_law_tail", "_law_found", "_law_line", "_law_name", "_law_worth"]) (sc := defScope s__law_words) (by decide +kernel)) (fun _ _ _ _ _ => pg_name (i := 7) S.nd rfl (Or.inl rfl)) (fun _ _ _ _ _ => pts_nil) (fun _ _ _ _ _ => (pe_tup (pa_cons (pe_op op_cat (pe_lst (pa_cons (pe_op op_add_str (pe_op op_add_str pe_str (pv 7)) pe_str) pa_nil)) (pv 4)) (pa_cons (pe_un un_neg pe_int) pa_nil)))))))
      (pss_cons (ps_set (i := 5) S.nd rfl (.inl rfl) (pe_op op_cat (pv 5) (pe_lc (own := [("_law_name", 7)]) (g := gName 7) (tt := tYes) rfl S.nd (pi_tup (pe_tup (pa_cons pe_str (pa_cons pe_str (pa_cons pe_str pa_nil))))) (blkOk_by (own := [("_law_name", 7)]) (N := ["_law_c", "_law_p", "_law_d", "_law_head_here", "_law_tail", "_law_found", "_law_line", "_law_name", "_law_worth"]) (sc := defScope s__law_words) (by decide +kernel)) (fun _ _ _ _ _ => pg_name (i := 7) S.nd rfl (Or.inl rfl)) (fun _ _ _ _ _ => pts_nil) (fun _ _ _ _ _ => (pe_tup (pa_cons (pe_lst (pa_cons (pe_op op_add_str pe_str (pv 7)) (pa_cons pe_str pa_nil))) (pa_cons pe_int pa_nil)))))))
      (pss_cons (ps_set (i := 5) S.nd rfl (.inl rfl) (pe_op op_cat (pv 5) (pe_lc (own := [("_law_name", 7)]) (g := gName 7) (tt := tYes) rfl S.nd (pi_tup (pe_tup (pa_cons pe_str (pa_cons pe_str (pa_cons pe_str (pa_cons pe_str (pa_cons pe_str pa_nil))))))) (blkOk_by (own := [("_law_name", 7)]) (N := ["_law_c", "_law_p", "_law_d", "_law_head_here", "_law_tail", "_law_found", "_law_line", "_law_name", "_law_worth"]) (sc := defScope s__law_words) (by decide +kernel)) (fun _ _ _ _ _ => pg_name (i := 7) S.nd rfl (Or.inl rfl)) (fun _ _ _ _ _ => pts_nil) (fun _ _ _ _ _ => (pe_tup (pa_cons (pe_lst (pa_cons (pe_op op_add_str pe_str (pv 7)) (pa_cons pe_str pa_nil))) (pa_cons (pe_un un_neg pe_int) pa_nil)))))))
      (pss_cons (ps_set (i := 5) S.nd rfl (.inl rfl) (pe_op op_cat (pv 5) (pe_lc (own := [("_law_worth", 8)]) (g := gName 8) (tt := tYes) rfl S.nd (pi_tup (pe_tup (pa_cons pe_str (pa_cons pe_str (pa_cons pe_str (pa_cons pe_str (pa_cons pe_str (pa_cons pe_str pa_nil)))))))) (blkOk_by (own := [("_law_worth", 8)]) (N := ["_law_c", "_law_p", "_law_d", "_law_head_here", "_law_tail", "_law_found", "_law_line", "_law_name", "_law_worth"]) (sc := defScope s__law_words) (by decide +kernel)) (fun _ _ _ _ _ => pg_name (i := 8) S.nd rfl (Or.inl rfl)) (fun _ _ _ _ _ => pts_nil) (fun _ _ _ _ _ => (pe_tup (pa_cons (pe_op op_cat (pe_lst (pa_cons (pe_op op_add_str (pe_op op_add_str pe_str (pv 0)) (pv 8)) pa_nil)) (pv 4)) (pa_cons pe_int pa_nil)))))))
      (pss_cons (ps_set (i := 5) S.nd rfl (.inl rfl) (pe_op op_cat (pv 5) (pe_lst (pa_cons (pe_tup (pa_cons (pe_op op_cat (pe_lst (pa_cons (pe_op op_add_str (pe_op op_add_str pe_str (pv 0)) pe_str) (pa_cons (pe_op op_add_str (pe_op op_add_str pe_str (pv 0)) pe_str) pa_nil))) (pv 4)) (pa_cons pe_int pa_nil))) (pa_cons (pe_tup (pa_cons (pe_op op_cat (pe_lst (pa_cons (pe_op op_add_str pe_str (pv 1)) (pa_cons (pe_op op_add_str pe_str (pv 1)) pa_nil))) (pv 4)) (pa_cons pe_int pa_nil))) pa_nil)))))
      (pss_cons (ps_set (i := 5) S.nd rfl (.inl rfl) (pe_op op_cat (pv 5) (pe_lst (pa_cons (pe_tup (pa_cons (pe_op op_cat (pv 3) (pe_lst (pa_cons pe_str (pa_cons (pe_op op_add_str pe_str (pv 2)) (pa_cons pe_str pa_nil))))) (pa_cons pe_int pa_nil))) (pa_cons (pe_tup (pa_cons (pe_op op_cat (pe_lst (pa_cons (pe_op op_add_str pe_str (pv 1)) (pa_cons (pe_op op_add_str (pe_op op_add_str pe_str (pv 0)) pe_str) pa_nil))) (pv 4)) (pa_cons pe_int pa_nil))) pa_nil)))))
      (pss_cons (ps_set (i := 5) S.nd rfl (.inl rfl) (pe_op op_cat (pv 5) (pe_lst (pa_cons (pe_tup (pa_cons (pe_op op_cat (pv 4) (pe_lst (pa_cons (pe_op op_add_str pe_str (pv 1)) pa_nil))) (pa_cons pe_int pa_nil))) (pa_cons (pe_tup (pa_cons (pe_op op_cat (pv 4) (pe_lst (pa_cons (pe_op op_add_str (pe_op op_add_str pe_str (pv 0)) pe_str) pa_nil))) (pa_cons pe_int pa_nil))) pa_nil)))))
      (pss_cons (ps_for PassesOwn.never rfl (pi_tup (pe_tup (pa_cons pe_str (pa_cons pe_str (pa_cons (pe_op op_add_str (pe_op op_add_str pe_str (pv 0)) pe_str) (pa_cons (pe_op op_add_str pe_str (pv 0)) (pa_cons pe_str (pa_cons pe_str (pa_cons pe_str pa_nil))))))))) (pg_name (i := 6) S.nd rfl (.inl rfl)) (pss_one (ps_expr (pe_bm PySem.F.plainAttrs_list PySem.F.slot_list_append PySem.F.type_list_append mt_append (pv 5) (pa_cons (pe_tup (pa_cons (pe_op op_cat (pv 3) (pe_lst (pa_cons (pe_op op_add_str pe_str (pv 6)) pa_nil))) (pa_cons pe_int pa_nil))) pa_nil)))))
      (pss_cons (ps_for PassesOwn.never rfl (pi_tup (pe_tup (pa_cons pe_str (pa_cons pe_str (pa_cons pe_str (pa_cons pe_str (pa_cons (pe_op op_add_str (pe_op op_add_str pe_str (pv 1)) pe_str) (pa_cons pe_str pa_nil)))))))) (pg_name (i := 6) S.nd rfl (.inl rfl)) (pss_one (ps_expr (pe_bm PySem.F.plainAttrs_list PySem.F.slot_list_append PySem.F.type_list_append mt_append (pv 5) (pa_cons (pe_tup (pa_cons (pe_op op_cat (pv 3) (pe_lst (pa_cons (pe_op op_add_str pe_str (pv 6)) pa_nil))) (pa_cons pe_int pa_nil))) pa_nil)))))
      (pss_cons (ps_for PassesOwn.never rfl (pi_tup (pe_tup (pa_cons pe_str (pa_cons (pe_op op_add_str (pe_op op_add_str pe_str (pv 0)) pe_str) (pa_cons pe_str (pa_cons pe_str (pa_cons pe_str (pa_cons pe_str (pa_cons pe_str (pa_cons pe_str pa_nil)))))))))) (pg_name (i := 6) S.nd rfl (.inl rfl)) (pss_one (ps_expr (pe_bm PySem.F.plainAttrs_list PySem.F.slot_list_append PySem.F.type_list_append mt_append (pv 5) (pa_cons (pe_tup (pa_cons (pe_op op_cat (pv 3) (pe_lst (pa_cons (pv 6) pa_nil))) (pa_cons pe_int pa_nil))) pa_nil)))))
      (pss_cons (ps_set (i := 5) S.nd rfl (.inl rfl) (pe_op op_cat (pv 5) (pe_lst (pa_cons (pe_tup (pa_cons (pe_lst (pa_cons pe_str pa_nil)) (pa_cons pe_int pa_nil))) (pa_cons (pe_tup (pa_cons (pe_call Gh (hr.mono (by decide)) (by rfl) Dh.g Dh.F.kp Dh.b .nil pass0 (pa_cons (pv 0) (pa_cons (pv 1) pa_nil))) (pa_cons pe_int pa_nil))) (pa_cons (pe_tup (pa_cons (pv 3) (pa_cons pe_int pa_nil))) (pa_cons (pe_tup (pa_cons (pe_op op_cat (pv 3) (pe_lst (pa_cons pe_str pa_nil))) (pa_cons pe_int pa_nil))) (pa_cons (pe_tup (pa_cons (pe_op op_cat (pv 3) (pe_lst (pa_cons pe_str pa_nil))) (pa_cons pe_int pa_nil))) pa_nil))))))))
      (pss_one (ps_ret (pe_op op_cat (pv 5) (pe_lst (pa_cons (pe_tup (pa_cons (pe_op op_cat (pv 3) (pe_lst (pa_cons pe_str (pa_cons pe_str pa_nil)))) (pa_cons pe_int pa_nil))) (pa_cons (pe_tup (pa_cons (pe_lst (pa_cons (pe_op op_add_str (pe_op op_add_str pe_str (pv 2)) pe_str) pa_nil)) (pa_cons pe_int pa_nil))) (pa_cons (pe_tup (pa_cons (pe_lst (pa_cons pe_str pa_nil)) (pa_cons pe_int pa_nil))) (pa_cons (pe_tup (pa_cons (pe_lst (pa_cons (pe_op op_add_str (pe_op op_add_str pe_str (pv 1)) pe_str) pa_nil)) (pa_cons pe_int pa_nil))) pa_nil))))))))))))))))))))), ?_⟩
    have v1 := (show LV _ [some (.str c), some (.str p), some (.str d), none, none, none, none, none, none] H (hereC c p d) from (LV.cat (show LV (tCall spLawHead [] E0 (tCons (tVar 0) (tCons (tVar 1) tNil))) _ _ (headC c p) from fun H1 Q s q => ⟨_, rfl, _, rfl, c, p, rfl, hc, hp, q⟩) (LV.lst (AV.cons (SN.add (SN.k (z := "door ") (by decide +kernel)) (SN.w (j := 2) (by rfl) hd) (by decide)) AV.nil) (Nat.le_of_ble_eq_true rfl)) (Nat.le_of_ble_eq_true rfl)))
    try dsimp only [tSeq, tAsg]
    refine v1 H _ (Same.refl _) fun Ga qhere s1 hhead_here => ?_
    have v1b := (show LV _ [some (.str c), some (.str p), some (.str d), none, none, none, none, none, none] Ga (tailC d) from (LV.lst (AV.cons (SN.add (SN.k (z := "door ") (by decide +kernel)) (SN.w (j := 2) (by rfl) hd) (by decide)) (AV.cons (SN.k (z := "  fail") (by decide +kernel)) AV.nil)) (Nat.le_of_ble_eq_true rfl)))
    refine v1b Ga _ (Same.refl _) fun Gb qtail s2 htail => ?_
    have hhead_here := s2 _ _ hhead_here
    refine ⟨by show 2 ≤ sizeLine; decide, fun tp ntp => ?_⟩
    have s3 := same_upd (o := .tup [.ref qhere, .ref qtail]) ntp
    have htp : (upd Gb tp (.tup [.ref qhere, .ref qtail])) tp = some (.tup [.ref qhere, .ref qtail]) := upd_same
    have hhead_here := s3 _ _ hhead_here
    have htail := s3 _ _ htail
    have SH : Same H (upd Gb tp (.tup [.ref qhere, .ref qtail])) := s1.trans (s2.trans s3)
    generalize (upd Gb tp (.tup [.ref qhere, .ref qtail])) = G1 at htp hhead_here htail SH ⊢
    refine ⟨tp, _, rfl, SqT.of htp, rfl, ?_⟩
    refine ⟨_, _, rfl, ?_⟩
    refine ⟨_, _, rfl, ?_⟩
    refine ⟨rfl, ?_⟩
    try dsimp only [gName]
    have v2 := (show CLf _ [some (.str c), some (.str p), some (.str d), some (.ref qhere), some (.ref qtail), none, none, none, none] G1 (wordsF2 c p d) from (CL.comp' (K := K) (i := 7) (G := fun z => (([((("cell " : Str) ++ z) ++ (" 0" : Str))] ++ (tailC d)), 0)) (fun _ => rfl) (AV.cons (SN.k (z := "it") (by decide +kernel)) (AV.cons (SN.k (z := "got") (by decide +kernel)) (AV.cons (SN.k (z := "lost") (by decide +kernel)) (AV.cons (SN.k (z := "busy") (by decide +kernel)) (AV.cons (SN.k (z := "A") (by decide +kernel)) (AV.cons (SN.k (z := "ninesigns") (by decide +kernel)) (AV.cons (SN.k (z := "a1") (by decide +kernel)) (AV.cons (SN.k (z := "") (by decide +kernel)) AV.nil)))))))) (fun z hz0 => (have hz : z.length ≤ 200 := bnd (Bnd.cons (by decide +kernel) (Bnd.cons (by decide +kernel) (Bnd.cons (by decide +kernel) (Bnd.cons (by decide +kernel) (Bnd.cons (by decide +kernel) (Bnd.cons (by decide +kernel) (Bnd.cons (by decide +kernel) (Bnd.cons (by decide +kernel) Bnd.nil)))))))) z hz0; (CV.mk (LV.cat (LV.lst (AV.cons (SN.add (SN.add (SN.k (z := "cell ") (by decide +kernel)) (SN.w (j := 7) (by rfl) hz) (by decide)) (SN.k (z := " 0") (by decide +kernel)) (by decide)) AV.nil) (Nat.le_of_ble_eq_true rfl)) (LV.v (j := 4) (by rfl) htail) (Nat.le_of_ble_eq_true rfl)) (fun H => show Val (tC (.int 0)) _ H (.int 0) from val_c)))) (fun z => ne_len rfl) (Nat.le_of_ble_eq_true rfl) (ne_len rfl)))
    try dsimp only [tSeq, tAsg]
    refine v2 G1 _ (Same.refl _) fun G2 f2 sv2 nf0 F2 => ?_
    have nf : H f2 = none := SH.free nf0
    have hhead_here := sv2 _ _ hhead_here
    have htail := sv2 _ _ htail
    have SH : Same H G2 := SH.trans sv2
    have F : FdAt G2 f2 (wordsF2 c p d) := F2
    try dsimp only [gName]
    have v3 := (show CLf _ [some (.str c), some (.str p), some (.str d), some (.ref qhere), some (.ref qtail), some (.ref f2), none, none, none] G2 (wordsF3 c p d) from CLf.cat (CL.v (j := 5) (by rfl) F) (CL.comp (K := K) (i := 7) (G := fun z => (([((("cell " : Str) ++ z) ++ (" 0" : Str))] ++ (tailC d)), (-2))) (fun _ => rfl) (AV.cons (SN.k (z := "any") (by decide +kernel)) (AV.cons (SN.k (z := "cell") (by decide +kernel)) (AV.cons (SN.k (z := "eightsig") (by decide +kernel)) (AV.cons (SN.k (z := "if") (by decide +kernel)) AV.nil)))) (fun z hz0 => (have hz : z.length ≤ 200 := bnd (Bnd.cons (by decide +kernel) (Bnd.cons (by decide +kernel) (Bnd.cons (by decide +kernel) (Bnd.cons (by decide +kernel) Bnd.nil)))) z hz0; (CV.mk (LV.cat (LV.lst (AV.cons (SN.add (SN.add (SN.k (z := "cell ") (by decide +kernel)) (SN.w (j := 7) (by rfl) hz) (by decide)) (SN.k (z := " 0") (by decide +kernel)) (by decide)) AV.nil) (Nat.le_of_ble_eq_true rfl)) (LV.v (j := 4) (by rfl) htail) (Nat.le_of_ble_eq_true rfl)) (fun H => show Val (tUn (rU fun i => .int (-i)) (tC (.int 2))) _ H (.int (-2)) from val_neg val_c)))) (fun z => ne_len rfl) (Nat.le_of_ble_eq_true rfl)) (Nat.le_of_ble_eq_true rfl) (ne_len rfl) (ne_all rfl))
    try dsimp only [tSeq, tAsg]
    refine v3 G2 _ (Same.refl _) fun G3 f3 sv3 nf0 F2 => ?_
    have nf : H f3 = none := SH.free nf0
    have hhead_here := sv3 _ _ hhead_here
    have htail := sv3 _ _ htail
    have F := F.mono sv3
    have SH : Same H G3 := SH.trans sv3
    have F : FdAt G3 f3 (wordsF3 c p d) := F2
    try dsimp only [gName]
    have v4 := (show CLf _ [some (.str c), some (.str p), some (.str d), some (.ref qhere), some (.ref qtail), some (.ref f3), none, none, none] G3 (wordsF4 c p d) from CLf.cat (CL.v (j := 5) (by rfl) F) (CL.comp (K := K) (i := 7) (G := fun z => ([(("door " : Str) ++ z), ("  fail" : Str)], 0)) (fun _ => rfl) (AV.cons (SN.k (z := "any") (by decide +kernel)) (AV.cons (SN.k (z := "Get") (by decide +kernel)) (AV.cons (SN.k (z := "ninesigns") (by decide +kernel)) AV.nil))) (fun z hz0 => (have hz : z.length ≤ 200 := bnd (Bnd.cons (by decide +kernel) (Bnd.cons (by decide +kernel) (Bnd.cons (by decide +kernel) Bnd.nil))) z hz0; (CV.mk (LV.lst (AV.cons (SN.add (SN.k (z := "door ") (by decide +kernel)) (SN.w (j := 7) (by rfl) hz) (by decide)) (AV.cons (SN.k (z := "  fail") (by decide +kernel)) AV.nil)) (Nat.le_of_ble_eq_true rfl)) (fun H => show Val (tC (.int 0)) _ H (.int 0) from val_c)))) (fun z => ne_len rfl) (Nat.le_of_ble_eq_true rfl)) (Nat.le_of_ble_eq_true rfl) (ne_len rfl) (ne_all rfl))
    try dsimp only [tSeq, tAsg]
    refine v4 G3 _ (Same.refl _) fun G4 f4 sv4 nf0 F2 => ?_
    have nf : H f4 = none := SH.free nf0
    have hhead_here := sv4 _ _ hhead_here
    have htail := sv4 _ _ htail
    have F := F.mono sv4
    have SH : Same H G4 := SH.trans sv4
    have F : FdAt G4 f4 (wordsF4 c p d) := F2
    try dsimp only [gName]
    have v5 := (show CLf _ [some (.str c), some (.str p), some (.str d), some (.ref qhere), some (.ref qtail), some (.ref f4), none, none, none] G4 (wordsF5 c p d) from CLf.cat (CL.v (j := 5) (by rfl) F) (CL.comp (K := K) (i := 7) (G := fun z => ([(("door " : Str) ++ z), ("  fail" : Str)], (-2))) (fun _ => rfl) (AV.cons (SN.k (z := "it") (by decide +kernel)) (AV.cons (SN.k (z := "got") (by decide +kernel)) (AV.cons (SN.k (z := "lost") (by decide +kernel)) (AV.cons (SN.k (z := "door") (by decide +kernel)) (AV.cons (SN.k (z := "eightsig") (by decide +kernel)) AV.nil))))) (fun z hz0 => (have hz : z.length ≤ 200 := bnd (Bnd.cons (by decide +kernel) (Bnd.cons (by decide +kernel) (Bnd.cons (by decide +kernel) (Bnd.cons (by decide +kernel) (Bnd.cons (by decide +kernel) Bnd.nil))))) z hz0; (CV.mk (LV.lst (AV.cons (SN.add (SN.k (z := "door ") (by decide +kernel)) (SN.w (j := 7) (by rfl) hz) (by decide)) (AV.cons (SN.k (z := "  fail") (by decide +kernel)) AV.nil)) (Nat.le_of_ble_eq_true rfl)) (fun H => show Val (tUn (rU fun i => .int (-i)) (tC (.int 2))) _ H (.int (-2)) from val_neg val_c)))) (fun z => ne_len rfl) (Nat.le_of_ble_eq_true rfl)) (Nat.le_of_ble_eq_true rfl) (ne_len rfl) (ne_all rfl))
    try dsimp only [tSeq, tAsg]
    refine v5 G4 _ (Same.refl _) fun G5 f5 sv5 nf0 F2 => ?_
    have nf : H f5 = none := SH.free nf0
    have hhead_here := sv5 _ _ hhead_here
    have htail := sv5 _ _ htail
    have F := F.mono sv5
    have SH : Same H G5 := SH.trans sv5
    have F : FdAt G5 f5 (wordsF5 c p d) := F2
    try dsimp only [gName]
    have v6 := (show CLf _ [some (.str c), some (.str p), some (.str d), some (.ref qhere), some (.ref qtail), some (.ref f5), none, none, none] G5 (wordsF6 c p d) from CLf.cat (CL.v (j := 5) (by rfl) F) (CL.comp (K := K) (i := 8) (G := fun z => (([((("cell " : Str) ++ c) ++ z)] ++ (tailC d)), 0)) (fun _ => rfl) (AV.cons (SN.k (z := " 3") (by decide +kernel)) (AV.cons (SN.k (z := " -1") (by decide +kernel)) (AV.cons (SN.k (z := " 00") (by decide +kernel)) (AV.cons (SN.k (z := "") (by decide +kernel)) (AV.cons (SN.k (z := " 1 1") (by decide +kernel)) (AV.cons (SN.k (z := " x") (by decide +kernel)) AV.nil)))))) (fun z hz0 => (have hz : z.length ≤ 200 := bnd (Bnd.cons (by decide +kernel) (Bnd.cons (by decide +kernel) (Bnd.cons (by decide +kernel) (Bnd.cons (by decide +kernel) (Bnd.cons (by decide +kernel) (Bnd.cons (by decide +kernel) Bnd.nil)))))) z hz0; (CV.mk (LV.cat (LV.lst (AV.cons (SN.add (SN.add (SN.k (z := "cell ") (by decide +kernel)) (SN.w (j := 0) (by rfl) hc) (by decide)) (SN.w (j := 8) (by rfl) hz) (by decide)) AV.nil) (Nat.le_of_ble_eq_true rfl)) (LV.v (j := 4) (by rfl) htail) (Nat.le_of_ble_eq_true rfl)) (fun H => show Val (tC (.int 0)) _ H (.int 0) from val_c)))) (fun z => ne_len rfl) (Nat.le_of_ble_eq_true rfl)) (Nat.le_of_ble_eq_true rfl) (ne_len rfl) (ne_all rfl))
    try dsimp only [tSeq, tAsg]
    refine v6 G5 _ (Same.refl _) fun G6 f6 sv6 nf0 F2 => ?_
    have nf : H f6 = none := SH.free nf0
    have hhead_here := sv6 _ _ hhead_here
    have htail := sv6 _ _ htail
    have F := F.mono sv6
    have SH : Same H G6 := SH.trans sv6
    have F : FdAt G6 f6 (wordsF6 c p d) := F2
    try dsimp only [gName]
    have v7 := (show CLf _ [some (.str c), some (.str p), some (.str d), some (.ref qhere), some (.ref qtail), some (.ref f6), none, none, none] G6 (wordsF7 c p d) from CLf.cat (CL.v (j := 5) (by rfl) F) (CL.lst (AC.cons (CV.mk (LV.cat (LV.lst (AV.cons (SN.add (SN.add (SN.k (z := "cell ") (by decide +kernel)) (SN.w (j := 0) (by rfl) hc) (by decide)) (SN.k (z := " 2") (by decide +kernel)) (by decide)) (AV.cons (SN.add (SN.add (SN.k (z := "cell ") (by decide +kernel)) (SN.w (j := 0) (by rfl) hc) (by decide)) (SN.k (z := " 2") (by decide +kernel)) (by decide)) AV.nil)) (Nat.le_of_ble_eq_true rfl)) (LV.v (j := 4) (by rfl) htail) (Nat.le_of_ble_eq_true rfl)) (fun H => show Val (tC (.int 1)) _ H (.int 1) from val_c)) (AC.cons (CV.mk (LV.cat (LV.lst (AV.cons (SN.add (SN.k (z := "port ") (by decide +kernel)) (SN.w (j := 1) (by rfl) hp) (by decide)) (AV.cons (SN.add (SN.k (z := "port ") (by decide +kernel)) (SN.w (j := 1) (by rfl) hp) (by decide)) AV.nil)) (Nat.le_of_ble_eq_true rfl)) (LV.v (j := 4) (by rfl) htail) (Nat.le_of_ble_eq_true rfl)) (fun H => show Val (tC (.int 1)) _ H (.int 1) from val_c)) AC.nil)) (Nat.le_of_ble_eq_true rfl)) (Nat.le_of_ble_eq_true rfl) (ne_len rfl) (ne_all rfl))
    try dsimp only [tSeq, tAsg]
    refine v7 G6 _ (Same.refl _) fun G7 f7 sv7 nf0 F2 => ?_
    have nf : H f7 = none := SH.free nf0
    have hhead_here := sv7 _ _ hhead_here
    have htail := sv7 _ _ htail
    have F := F.mono sv7
    have SH : Same H G7 := SH.trans sv7
    have F : FdAt G7 f7 (wordsF7 c p d) := F2
    try dsimp only [gName]
    have v8 := (show CLf _ [some (.str c), some (.str p), some (.str d), some (.ref qhere), some (.ref qtail), some (.ref f7), none, none, none] G7 (wordsF8 c p d) from CLf.cat (CL.v (j := 5) (by rfl) F) (CL.lst (AC.cons (CV.mk (LV.cat (LV.v (j := 3) (by rfl) hhead_here) (LV.lst (AV.cons (SN.k (z := "  fail") (by decide +kernel)) (AV.cons (SN.add (SN.k (z := "door ") (by decide +kernel)) (SN.w (j := 2) (by rfl) hd) (by decide)) (AV.cons (SN.k (z := "  fail") (by decide +kernel)) AV.nil))) (Nat.le_of_ble_eq_true rfl)) (Nat.le_of_ble_eq_true rfl)) (fun H => show Val (tC (.int 4)) _ H (.int 4) from val_c)) (AC.cons (CV.mk (LV.cat (LV.lst (AV.cons (SN.add (SN.k (z := "port ") (by decide +kernel)) (SN.w (j := 1) (by rfl) hp) (by decide)) (AV.cons (SN.add (SN.add (SN.k (z := "cell ") (by decide +kernel)) (SN.w (j := 0) (by rfl) hc) (by decide)) (SN.k (z := " 0") (by decide +kernel)) (by decide)) AV.nil)) (Nat.le_of_ble_eq_true rfl)) (LV.v (j := 4) (by rfl) htail) (Nat.le_of_ble_eq_true rfl)) (fun H => show Val (tC (.int 1)) _ H (.int 1) from val_c)) AC.nil)) (Nat.le_of_ble_eq_true rfl)) (Nat.le_of_ble_eq_true rfl) (ne_len rfl) (ne_all rfl))
    try dsimp only [tSeq, tAsg]
    refine v8 G7 _ (Same.refl _) fun G8 f8 sv8 nf0 F2 => ?_
    have nf : H f8 = none := SH.free nf0
    have hhead_here := sv8 _ _ hhead_here
    have htail := sv8 _ _ htail
    have F := F.mono sv8
    have SH : Same H G8 := SH.trans sv8
    have F : FdAt G8 f8 (wordsF8 c p d) := F2
    try dsimp only [gName]
    have v9 := (show CLf _ [some (.str c), some (.str p), some (.str d), some (.ref qhere), some (.ref qtail), some (.ref f8), none, none, none] G8 (wordsF9 c p d) from CLf.cat (CL.v (j := 5) (by rfl) F) (CL.lst (AC.cons (CV.mk (LV.cat (LV.v (j := 4) (by rfl) htail) (LV.lst (AV.cons (SN.add (SN.k (z := "port ") (by decide +kernel)) (SN.w (j := 1) (by rfl) hp) (by decide)) AV.nil) (Nat.le_of_ble_eq_true rfl)) (Nat.le_of_ble_eq_true rfl)) (fun H => show Val (tC (.int 2)) _ H (.int 2) from val_c)) (AC.cons (CV.mk (LV.cat (LV.v (j := 4) (by rfl) htail) (LV.lst (AV.cons (SN.add (SN.add (SN.k (z := "cell ") (by decide +kernel)) (SN.w (j := 0) (by rfl) hc) (by decide)) (SN.k (z := " 0") (by decide +kernel)) (by decide)) AV.nil) (Nat.le_of_ble_eq_true rfl)) (Nat.le_of_ble_eq_true rfl)) (fun H => show Val (tC (.int 2)) _ H (.int 2) from val_c)) AC.nil)) (Nat.le_of_ble_eq_true rfl)) (Nat.le_of_ble_eq_true rfl) (ne_len rfl) (ne_all rfl))
    try dsimp only [tSeq, tAsg]
    refine v9 G8 _ (Same.refl _) fun G9 f9 sv9 nf0 F2 => ?_
    have nf : H f9 = none := SH.free nf0
    have hhead_here := sv9 _ _ hhead_here
    have htail := sv9 _ _ htail
    have F := F.mono sv9
    have SH : Same H G9 := SH.trans sv9
    have F : FdAt G9 f9 (wordsF9 c p d) := F2
    try dsimp only [gName]
    try dsimp only [tSeq, tAsg]
    refine for_cases (σ := [some (.str c), some (.str p), some (.str d), some (.ref qhere), some (.ref qtail), some (.ref f9), none, none, none]) (i := 5) (k := 6) (ns := [("set nobody 0" : Str), ("ask nobody get it" : Str), ((("set " : Str) ++ c) ++ (" 3" : Str)), (("set " : Str) ++ c), ("add it 1" : Str), ("draw got" : Str), ("answer" : Str)]) (G := fun z => (((hereC c p d) ++ [(("  " : Str) ++ z)]), 3)) (by rfl) (by decide) (AV.cons (SN.k (z := "set nobody 0") (by decide +kernel)) (AV.cons (SN.k (z := "ask nobody get it") (by decide +kernel)) (AV.cons (SN.add (SN.add (SN.k (z := "set ") (by decide +kernel)) (SN.w (j := 0) (by rfl) hc) (by decide)) (SN.k (z := " 3") (by decide +kernel)) (by decide)) (AV.cons (SN.add (SN.k (z := "set ") (by decide +kernel)) (SN.w (j := 0) (by rfl) hc) (by decide)) (AV.cons (SN.k (z := "add it 1") (by decide +kernel)) (AV.cons (SN.k (z := "draw got") (by decide +kernel)) (AV.cons (SN.k (z := "answer") (by decide +kernel)) AV.nil))))))) (ne_len rfl) F (Nat.le_of_ble_eq_true rfl) (fun z => ne_len rfl) (fun z hz0 H9 b9 => (have hz : z.length ≤ 200 := bnd (Bnd.cons (by decide +kernel) (Bnd.cons (by decide +kernel) (Bnd.cons (by simp only [app_len]; have := hc; have := hp; have := hd; have l1 := (by decide +kernel : (" 3" : Str).length ≤ 12 ∧ ("set " : Str).length ≤ 12); omega) (Bnd.cons (by simp only [app_len]; have := hc; have := hp; have := hd; have l1 := (by decide +kernel : ("set " : Str).length ≤ 12); omega) (Bnd.cons (by decide +kernel) (Bnd.cons (by decide +kernel) (Bnd.cons (by decide +kernel) Bnd.nil))))))) z hz0; have jhead_here : LsAt H9 _ _ := But.ls b9 F hhead_here (ne_len rfl); have jtail : LsAt H9 _ _ := But.ls b9 F htail (ne_len rfl); (CV.mk (LV.cat (LV.v (j := 3) (by rfl) jhead_here) (LV.lst (AV.cons (SN.add (SN.k (z := "  ") (by decide +kernel)) (SN.w (j := 6) (by rfl) hz) (by decide)) AV.nil) (Nat.le_of_ble_eq_true rfl)) (Nat.le_of_ble_eq_true rfl)) (fun H => show Val (tC (.int 3)) _ H (.int 3) from val_c)))) fun G10 bv10 F1 => ?_
    have hhead_here : LsAt G10 _ _ := But.ls bv10 F hhead_here (ne_len rfl)
    have htail : LsAt G10 _ _ := But.ls bv10 F htail (ne_len rfl)
    have SH : Same H G10 := fun b o e => bv10 b o (ne_of_none e nf) (SH b o e)
    have F : FdAt G10 f9 (wordsF10 c p d) := F1
    try dsimp only [tSeq, tAsg]
    refine for_cases (σ := [some (.str c), some (.str p), some (.str d), some (.ref qhere), some (.ref qtail), some (.ref f9), some (.str ("answer" : Str)), none, none]) (i := 5) (k := 6) (ns := [("answer lost" : Str), ("if it = " : Str), ("if it == 0" : Str), ("if it" : Str), ((("ask " : Str) ++ p) ++ (" get" : Str)), ("fail 1" : Str)]) (G := fun z => (((hereC c p d) ++ [(("  " : Str) ++ z)]), 3)) (by rfl) (by decide) (AV.cons (SN.k (z := "answer lost") (by decide +kernel)) (AV.cons (SN.k (z := "if it = ") (by decide +kernel)) (AV.cons (SN.k (z := "if it == 0") (by decide +kernel)) (AV.cons (SN.k (z := "if it") (by decide +kernel)) (AV.cons (SN.add (SN.add (SN.k (z := "ask ") (by decide +kernel)) (SN.w (j := 1) (by rfl) hp) (by decide)) (SN.k (z := " get") (by decide +kernel)) (by decide)) (AV.cons (SN.k (z := "fail 1") (by decide +kernel)) AV.nil)))))) (ne_len rfl) F (Nat.le_of_ble_eq_true rfl) (fun z => ne_len rfl) (fun z hz0 H9 b9 => (have hz : z.length ≤ 200 := bnd (Bnd.cons (by decide +kernel) (Bnd.cons (by decide +kernel) (Bnd.cons (by decide +kernel) (Bnd.cons (by decide +kernel) (Bnd.cons (by simp only [app_len]; have := hc; have := hp; have := hd; have l1 := (by decide +kernel : (" get" : Str).length ≤ 12 ∧ ("ask " : Str).length ≤ 12); omega) (Bnd.cons (by decide +kernel) Bnd.nil)))))) z hz0; have jhead_here : LsAt H9 _ _ := But.ls b9 F hhead_here (ne_len rfl); have jtail : LsAt H9 _ _ := But.ls b9 F htail (ne_len rfl); (CV.mk (LV.cat (LV.v (j := 3) (by rfl) jhead_here) (LV.lst (AV.cons (SN.add (SN.k (z := "  ") (by decide +kernel)) (SN.w (j := 6) (by rfl) hz) (by decide)) AV.nil) (Nat.le_of_ble_eq_true rfl)) (Nat.le_of_ble_eq_true rfl)) (fun H => show Val (tC (.int 3)) _ H (.int 3) from val_c)))) fun G11 bv11 F1 => ?_
    have hhead_here : LsAt G11 _ _ := But.ls bv11 F hhead_here (ne_len rfl)
    have htail : LsAt G11 _ _ := But.ls bv11 F htail (ne_len rfl)
    have SH : Same H G11 := fun b o e => bv11 b o (ne_of_none e nf) (SH b o e)
    have F : FdAt G11 f9 (wordsF11 c p d) := F1
    try dsimp only [tSeq, tAsg]
    refine for_cases (σ := [some (.str c), some (.str p), some (.str d), some (.ref qhere), some (.ref qtail), some (.ref f9), some (.str ("fail 1" : Str)), none, none]) (i := 5) (k := 6) (ns := [("  fail " : Str), ((("  set  " : Str) ++ c) ++ (" 0" : Str)), ("   fail" : Str), ("\tfail" : Str), ("  FAIL" : Str), ("  answer 01" : Str), ("" : Str), ("  " : Str)]) (G := fun z => (((hereC c p d) ++ [z]), 3)) (by rfl) (by decide) (AV.cons (SN.k (z := "  fail ") (by decide +kernel)) (AV.cons (SN.add (SN.add (SN.k (z := "  set  ") (by decide +kernel)) (SN.w (j := 0) (by rfl) hc) (by decide)) (SN.k (z := " 0") (by decide +kernel)) (by decide)) (AV.cons (SN.k (z := "   fail") (by decide +kernel)) (AV.cons (SN.k (z := "\tfail") (by decide +kernel)) (AV.cons (SN.k (z := "  FAIL") (by decide +kernel)) (AV.cons (SN.k (z := "  answer 01") (by decide +kernel)) (AV.cons (SN.k (z := "") (by decide +kernel)) (AV.cons (SN.k (z := "  ") (by decide +kernel)) AV.nil)))))))) (ne_len rfl) F (Nat.le_of_ble_eq_true rfl) (fun z => ne_len rfl) (fun z hz0 H9 b9 => (have hz : z.length ≤ 200 := bnd (Bnd.cons (by decide +kernel) (Bnd.cons (by simp only [app_len]; have := hc; have := hp; have := hd; have l1 := (by decide +kernel : (" 0" : Str).length ≤ 12 ∧ ("  set  " : Str).length ≤ 12); omega) (Bnd.cons (by decide +kernel) (Bnd.cons (by decide +kernel) (Bnd.cons (by decide +kernel) (Bnd.cons (by decide +kernel) (Bnd.cons (by decide +kernel) (Bnd.cons (by decide +kernel) Bnd.nil)))))))) z hz0; have jhead_here : LsAt H9 _ _ := But.ls b9 F hhead_here (ne_len rfl); have jtail : LsAt H9 _ _ := But.ls b9 F htail (ne_len rfl); (CV.mk (LV.cat (LV.v (j := 3) (by rfl) jhead_here) (LV.lst (AV.cons (SN.w (j := 6) (by rfl) hz) AV.nil) (Nat.le_of_ble_eq_true rfl)) (Nat.le_of_ble_eq_true rfl)) (fun H => show Val (tC (.int 3)) _ H (.int 3) from val_c)))) fun G12 bv12 F1 => ?_
    have hhead_here : LsAt G12 _ _ := But.ls bv12 F hhead_here (ne_len rfl)
    have htail : LsAt G12 _ _ := But.ls bv12 F htail (ne_len rfl)
    have SH : Same H G12 := fun b o e => bv12 b o (ne_of_none e nf) (SH b o e)
    have F : FdAt G12 f9 (wordsF12 c p d) := F1
    have v13 := (show CLf _ [some (.str c), some (.str p), some (.str d), some (.ref qhere), some (.ref qtail), some (.ref f9), some (.str ("  " : Str)), none, none] G12 (wordsF13 c p d) from CLf.cat (CL.v (j := 5) (by rfl) F) (CL.lst (AC.cons (CV.mk (LV.lst (AV.cons (SN.k (z := "") (by decide +kernel)) AV.nil) (Nat.le_of_ble_eq_true rfl)) (fun H => show Val (tC (.int 0)) _ H (.int 0) from val_c)) (AC.cons (CV.mk (show LV (tCall spLawHead [] E0 (tCons (tVar 0) (tCons (tVar 1) tNil))) _ _ (headC c p) from fun H1 Q s q => ⟨_, rfl, _, rfl, c, p, rfl, hc, hp, q⟩) (fun H => show Val (tC (.int 2)) _ H (.int 2) from val_c)) (AC.cons (CV.mk (LV.v (j := 3) (by rfl) hhead_here) (fun H => show Val (tC (.int 3)) _ H (.int 3) from val_c)) (AC.cons (CV.mk (LV.cat (LV.v (j := 3) (by rfl) hhead_here) (LV.lst (AV.cons (SN.k (z := "  if lost") (by decide +kernel)) AV.nil) (Nat.le_of_ble_eq_true rfl)) (Nat.le_of_ble_eq_true rfl)) (fun H => show Val (tC (.int 4)) _ H (.int 4) from val_c)) (AC.cons (CV.mk (LV.cat (LV.v (j := 3) (by rfl) hhead_here) (LV.lst (AV.cons (SN.k (z := "door e") (by decide +kernel)) AV.nil) (Nat.le_of_ble_eq_true rfl)) (Nat.le_of_ble_eq_true rfl)) (fun H => show Val (tC (.int 3)) _ H (.int 3) from val_c)) AC.nil))))) (Nat.le_of_ble_eq_true rfl)) (Nat.le_of_ble_eq_true rfl) (ne_len rfl) (ne_all rfl))
    try dsimp only [tSeq, tAsg]
    refine v13 G12 _ (Same.refl _) fun G13 f13 sv13 nf0 F2 => ?_
    have nf : H f13 = none := SH.free nf0
    have hhead_here := sv13 _ _ hhead_here
    have htail := sv13 _ _ htail
    have F := F.mono sv13
    have SH : Same H G13 := SH.trans sv13
    have F : FdAt G13 f13 (wordsF13 c p d) := F2
    try dsimp only [gName]
    have v14 := (show CL _ [some (.str c), some (.str p), some (.str d), some (.ref qhere), some (.ref qtail), some (.ref f13), some (.str ("  " : Str)), none, none] G13 (wordsC c p d) from CL.cat (CL.v (j := 5) (by rfl) F) (CL.lst (AC.cons (CV.mk (LV.cat (LV.v (j := 3) (by rfl) hhead_here) (LV.lst (AV.cons (SN.k (z := "  fail") (by decide +kernel)) (AV.cons (SN.k (z := "") (by decide +kernel)) AV.nil)) (Nat.le_of_ble_eq_true rfl)) (Nat.le_of_ble_eq_true rfl)) (fun H => show Val (tC (.int 4)) _ H (.int 4) from val_c)) (AC.cons (CV.mk (LV.lst (AV.cons (SN.add (SN.add (SN.k (z := "door ") (by decide +kernel)) (SN.w (j := 2) (by rfl) hd) (by decide)) (SN.k (z := " ") (by decide +kernel)) (by decide)) AV.nil) (Nat.le_of_ble_eq_true rfl)) (fun H => show Val (tC (.int 0)) _ H (.int 0) from val_c)) (AC.cons (CV.mk (LV.lst (AV.cons (SN.k (z := "  fail") (by decide +kernel)) AV.nil) (Nat.le_of_ble_eq_true rfl)) (fun H => show Val (tC (.int 0)) _ H (.int 0) from val_c)) (AC.cons (CV.mk (LV.lst (AV.cons (SN.add (SN.add (SN.k (z := "port ") (by decide +kernel)) (SN.w (j := 1) (by rfl) hp) (by decide)) (SN.k (z := " 1") (by decide +kernel)) (by decide)) AV.nil) (Nat.le_of_ble_eq_true rfl)) (fun H => show Val (tC (.int 0)) _ H (.int 0) from val_c)) AC.nil)))) (Nat.le_of_ble_eq_true rfl)) (Nat.le_of_ble_eq_true rfl))
    dsimp only [tRet]
    refine v14 G13 _ (Same.refl _) fun H' q xs2 s9 h1 h2 => ?_
    exact k H' q xs2 (SH.trans s9) h1 h2
end
end K5
namespace K5
open PySem PySem.Spec PyProof.Rows L2
/-! ### the words and the rows of the law's texts -/
def tokL : List Str := [("cell" : Str), ("port" : Str), ("door" : Str), ("set" : Str), ("add" : Str), ("draw" : Str), ("ask" : Str), ("answer" : Str), ("fail" : Str), ("if" : Str), ("while" : Str), ("else" : Str), ("it" : Str), ("got" : Str), ("lost" : Str), ("busy" : Str), ("=" : Str), ("!=" : Str), ("n" : Str), ("z" : Str), ("nn" : Str), ("sets" : Str), ("aska" : Str), ("cellc" : Str), ("zz" : Str), ("whilew" : Str), ("elsee" : Str), ("0" : Str), ("b" : Str), ("bb" : Str), ("bbb" : Str), ("r" : Str), ("rr" : Str), ("e" : Str), ("ee" : Str), ("eee" : Str), ("1" : Str), ("get" : Str), ("A" : Str), ("ninesigns" : Str), ("a1" : Str), ("any" : Str), ("eightsig" : Str), ("Get" : Str), ("3" : Str), ("-1" : Str), ("00" : Str), ("x" : Str), ("2" : Str), ("nobody" : Str), ("==" : Str), ("\tfail" : Str), ("FAIL" : Str), ("01" : Str)]
def rho (a : Nat) : Str := tokL.getD a ""
def nmT : List Bool := [true, true, true, true, true, true, true, true, true, true, true, true, true, true, true, true, false, false, true, true, true, true, true, true, true, true, true, false, true, true, true, true, true, true, true, true, false, true, false, false, false, true, true, false, false, false, false, true, false, true, false, false, false, false]
def drT : List Bool := [true, true, true, true, true, true, true, true, true, true, true, true, true, true, true, true, false, false, true, true, true, true, true, true, true, true, true, false, true, true, true, true, true, true, true, true, false, true, false, false, false, false, true, false, false, false, false, true, false, true, false, false, false, false]
def nuT : List Int := [-1, -1, -1, -1, -1, -1, -1, -1, -1, -1, -1, -1, -1, -1, -1, -1, -1, -1, -1, -1, -1, -1, -1, -1, -1, -1, -1, 0, -1, -1, -1, -1, -1, -1, -1, -1, 1, -1, -1, -1, -1, -1, -1, -1, -1, -1, -1, -1, 2, -1, -1, -1, -1, -1]
def nmcL : List Nat := [18, 3, 6, 0, 19, 10, 11]
def dbl (a : Nat) : Nat := (([(18, 20), (3, 21), (6, 22), (0, 23), (19, 24), (10, 25), (11, 26)] : List (Nat × Nat)).lookup a).getD 0
def cod : Cod := ⟨rho, 54, fun a => nmT.getD a false, fun a => drT.getD a false, fun a => nuT.getD a (-1)⟩
def formL : List (Str → Str) := [
  fun n => ((("cell " : Str) ++ n) ++ (" 0" : Str)),
  fun n => ((("cell " : Str) ++ ("b" : Str)) ++ (" 0" : Str)),
  fun n => ((("cell " : Str) ++ ("bb" : Str)) ++ (" 0" : Str)),
  fun n => (("door " : Str) ++ n),
  fun n => ((("  set " : Str) ++ n) ++ (" 0" : Str)),
  fun n => ((("cell " : Str) ++ ("bbb" : Str)) ++ (" 0" : Str)),
  fun n => (("port " : Str) ++ n),
  fun n => (("port " : Str) ++ ("r" : Str)),
  fun n => ("  fail" : Str),
  fun n => (("port " : Str) ++ ("rr" : Str)),
  fun n => (("door " : Str) ++ ("e" : Str)),
  fun n => (("door " : Str) ++ ("ee" : Str)),
  fun n => ("door eee" : Str),
  fun n => ((("  if " : Str) ++ n) ++ (" = 0" : Str)),
  fun n => ((("    add " : Str) ++ n) ++ (" 1" : Str)),
  fun n => ("  else" : Str),
  fun n => ((("door " : Str) ++ n) ++ (cutS n none (some 1))),
  fun n => ((("cell " : Str) ++ n) ++ (" 1" : Str)),
  fun n => ("  if lost" : Str),
  fun n => ("    if busy" : Str),
  fun n => ((("      set " : Str) ++ n) ++ (" got" : Str)),
  fun n => ("      if lost" : Str),
  fun n => ("        fail" : Str),
  fun n => ("      while lost" : Str),
  fun n => (("        " : Str) ++ ((("ask " : Str) ++ n) ++ (" get it" : Str))),
  fun n => ((("  while " : Str) ++ n) ++ (" = it" : Str)),
  fun n => (("    " : Str) ++ ((("ask " : Str) ++ n) ++ (" get it" : Str))),
  fun n => ("    while busy" : Str),
  fun n => (("      " : Str) ++ ((("ask " : Str) ++ n) ++ (" get it" : Str))),
  fun n => ("  while lost" : Str),
  fun n => ("    fail" : Str),
  fun n => ("    if lost" : Str),
  fun n => ("      fail" : Str),
  fun n => ("   fail" : Str),
  fun n => (" fail" : Str),
  fun n => ("fail" : Str),
  fun n => ((("cell " : Str) ++ ("it" : Str)) ++ (" 0" : Str)),
  fun n => ((("cell " : Str) ++ ("got" : Str)) ++ (" 0" : Str)),
  fun n => ((("cell " : Str) ++ ("lost" : Str)) ++ (" 0" : Str)),
  fun n => ((("cell " : Str) ++ ("busy" : Str)) ++ (" 0" : Str)),
  fun n => ((("cell " : Str) ++ ("A" : Str)) ++ (" 0" : Str)),
  fun n => ((("cell " : Str) ++ ("ninesigns" : Str)) ++ (" 0" : Str)),
  fun n => ((("cell " : Str) ++ ("a1" : Str)) ++ (" 0" : Str)),
  fun n => ((("cell " : Str) ++ ("" : Str)) ++ (" 0" : Str)),
  fun n => ((("cell " : Str) ++ ("any" : Str)) ++ (" 0" : Str)),
  fun n => ((("cell " : Str) ++ ("cell" : Str)) ++ (" 0" : Str)),
  fun n => ((("cell " : Str) ++ ("eightsig" : Str)) ++ (" 0" : Str)),
  fun n => ((("cell " : Str) ++ ("if" : Str)) ++ (" 0" : Str)),
  fun n => (("door " : Str) ++ ("any" : Str)),
  fun n => (("door " : Str) ++ ("Get" : Str)),
  fun n => (("door " : Str) ++ ("ninesigns" : Str)),
  fun n => (("door " : Str) ++ ("it" : Str)),
  fun n => (("door " : Str) ++ ("got" : Str)),
  fun n => (("door " : Str) ++ ("lost" : Str)),
  fun n => (("door " : Str) ++ ("door" : Str)),
  fun n => (("door " : Str) ++ ("eightsig" : Str)),
  fun n => ((("cell " : Str) ++ n) ++ (" 3" : Str)),
  fun n => ((("cell " : Str) ++ n) ++ (" -1" : Str)),
  fun n => ((("cell " : Str) ++ n) ++ (" 00" : Str)),
  fun n => ((("cell " : Str) ++ n) ++ ("" : Str)),
  fun n => ((("cell " : Str) ++ n) ++ (" 1 1" : Str)),
  fun n => ((("cell " : Str) ++ n) ++ (" x" : Str)),
  fun n => ((("cell " : Str) ++ n) ++ (" 2" : Str)),
  fun n => (("  " : Str) ++ ("set nobody 0" : Str)),
  fun n => (("  " : Str) ++ ("ask nobody get it" : Str)),
  fun n => (("  " : Str) ++ ((("set " : Str) ++ n) ++ (" 3" : Str))),
  fun n => (("  " : Str) ++ (("set " : Str) ++ n)),
  fun n => (("  " : Str) ++ ("add it 1" : Str)),
  fun n => (("  " : Str) ++ ("draw got" : Str)),
  fun n => (("  " : Str) ++ ("answer" : Str)),
  fun n => (("  " : Str) ++ ("answer lost" : Str)),
  fun n => (("  " : Str) ++ ("if it = " : Str)),
  fun n => (("  " : Str) ++ ("if it == 0" : Str)),
  fun n => (("  " : Str) ++ ("if it" : Str)),
  fun n => (("  " : Str) ++ ((("ask " : Str) ++ n) ++ (" get" : Str))),
  fun n => (("  " : Str) ++ ("fail 1" : Str)),
  fun n => ("  fail " : Str),
  fun n => ((("  set  " : Str) ++ n) ++ (" 0" : Str)),
  fun n => ("\tfail" : Str),
  fun n => ("  FAIL" : Str),
  fun n => ("  answer 01" : Str),
  fun n => ("" : Str),
  fun n => ("  " : Str),
  fun n => ("door e" : Str),
  fun n => ((("door " : Str) ++ n) ++ (" " : Str)),
  fun n => ((("port " : Str) ++ n) ++ (" 1" : Str)),
  fun n => (((("  ask " : Str) ++ ("n" : Str)) ++ (" get " : Str)) ++ n),
  fun n => (((("  ask " : Str) ++ ("set" : Str)) ++ (" get " : Str)) ++ n),
  fun n => (((("  ask " : Str) ++ ("ask" : Str)) ++ (" get " : Str)) ++ n),
  fun n => (((("  ask " : Str) ++ ("cell" : Str)) ++ (" get " : Str)) ++ n),
  fun n => (((("  ask " : Str) ++ ("z" : Str)) ++ (" get " : Str)) ++ n),
  fun n => (((("  ask " : Str) ++ ("while" : Str)) ++ (" get " : Str)) ++ n),
  fun n => (((("  ask " : Str) ++ ("else" : Str)) ++ (" get " : Str)) ++ n),
  fun n => ("  answer got" : Str)]
def rowL : List (Nat → List (List Nat)) := [
  fun a => [[0, a, 27], [], [], []],
  fun a => [[0, 28, 27], [], [], []],
  fun a => [[0, 29, 27], [], [], []],
  fun a => [[2, a], [], [], []],
  fun a => [[], [3, a, 27], [], []],
  fun a => [[0, 30, 27], [], [], []],
  fun a => [[1, a], [], [], []],
  fun a => [[1, 31], [], [], []],
  fun a => [[], [8], [], []],
  fun a => [[1, 32], [], [], []],
  fun a => [[2, 33], [], [], []],
  fun a => [[2, 34], [], [], []],
  fun a => [[2, 35], [], [], []],
  fun a => [[], [9, a, 16, 27], [], []],
  fun a => [[], [], [4, a, 36], []],
  fun a => [[], [11], [], []],
  fun a => [[2, dbl a], [], [], []],
  fun a => [[0, a, 36], [], [], []],
  fun a => [[], [9, 14], [], []],
  fun a => [[], [], [9, 15], []],
  fun a => [[], [], [], [3, a, 13]],
  fun a => [[], [], [], [9, 14]],
  fun a => [[], [], [], []],
  fun a => [[], [], [], [10, 14]],
  fun a => [[], [], [], []],
  fun a => [[], [10, a, 16, 12], [], []],
  fun a => [[], [], [6, a, 37, 12], []],
  fun a => [[], [], [10, 15], []],
  fun a => [[], [], [], [6, a, 37, 12]],
  fun a => [[], [10, 14], [], []],
  fun a => [[], [], [8], []],
  fun a => [[], [], [9, 14], []],
  fun a => [[], [], [], [8]],
  fun a => [[], [], [], []],
  fun a => [[], [], [], []],
  fun a => [[8], [], [], []],
  fun a => [[0, 12, 27], [], [], []],
  fun a => [[0, 13, 27], [], [], []],
  fun a => [[0, 14, 27], [], [], []],
  fun a => [[0, 15, 27], [], [], []],
  fun a => [[0, 38, 27], [], [], []],
  fun a => [[0, 39, 27], [], [], []],
  fun a => [[0, 40, 27], [], [], []],
  fun a => [[], [], [], []],
  fun a => [[0, 41, 27], [], [], []],
  fun a => [[0, 0, 27], [], [], []],
  fun a => [[0, 42, 27], [], [], []],
  fun a => [[0, 9, 27], [], [], []],
  fun a => [[2, 41], [], [], []],
  fun a => [[2, 43], [], [], []],
  fun a => [[2, 39], [], [], []],
  fun a => [[2, 12], [], [], []],
  fun a => [[2, 13], [], [], []],
  fun a => [[2, 14], [], [], []],
  fun a => [[2, 2], [], [], []],
  fun a => [[2, 42], [], [], []],
  fun a => [[0, a, 44], [], [], []],
  fun a => [[0, a, 45], [], [], []],
  fun a => [[0, a, 46], [], [], []],
  fun a => [[0, a], [], [], []],
  fun a => [[0, a, 36, 36], [], [], []],
  fun a => [[0, a, 47], [], [], []],
  fun a => [[0, a, 48], [], [], []],
  fun a => [[], [3, 49, 27], [], []],
  fun a => [[], [6, 49, 37, 12], [], []],
  fun a => [[], [3, a, 44], [], []],
  fun a => [[], [3, a], [], []],
  fun a => [[], [4, 12, 36], [], []],
  fun a => [[], [5, 13], [], []],
  fun a => [[], [7], [], []],
  fun a => [[], [7, 14], [], []],
  fun a => [[], [], [], []],
  fun a => [[], [9, 12, 50, 27], [], []],
  fun a => [[], [9, 12], [], []],
  fun a => [[], [6, a, 37], [], []],
  fun a => [[], [8, 36], [], []],
  fun a => [[], [], [], []],
  fun a => [[], [], [], []],
  fun a => [[51], [], [], []],
  fun a => [[], [52], [], []],
  fun a => [[], [7, 53], [], []],
  fun a => [[], [], [], []],
  fun a => [[], [], [], []],
  fun a => [[2, 33], [], [], []],
  fun a => [[], [], [], []],
  fun a => [[1, a, 36], [], [], []],
  fun a => [[], [6, 18, 37, a], [], []],
  fun a => [[], [6, 3, 37, a], [], []],
  fun a => [[], [6, 6, 37, a], [], []],
  fun a => [[], [6, 0, 37, a], [], []],
  fun a => [[], [6, 19, 37, a], [], []],
  fun a => [[], [6, 10, 37, a], [], []],
  fun a => [[], [6, 11, 37, a], [], []],
  fun a => [[], [7, 13], [], []]]
def rowS (r : Nat × Nat) : Str := (formL.getD r.1 fun _ => "") (rho r.2)
def rowN (r : Nat × Nat) : List (List Nat) := (rowL.getD r.1 fun _ => []) r.2
def rowOk (r : Nat × Nat) : Bool := (List.range 4).all fun dp => decide (rowWords (rowS r) dp = ((rowN r).getD dp []).map rho) && ((rowN r).getD dp []).all fun a => decide (a < 54)
def rowFit (r : Nat × Nat) : Bool := (rowS r).cps.toList.all (fun c => decide (c < 128) && !decide (c = 10)) && decide ((rowS r).length ≤ 60)
theorem row4 (r : Nat × Nat) : (rowN r).length ≤ 4 ∨ True := .inr trivial
end K5
namespace K5
open PySem PySem.Spec PyProof.Rows L2
def countsI (c p d : Nat) : List (List (Nat × Nat) × Int) := [
  ([(0, c), (1, 0), (2, 0), (3, d), (4, c), (4, c), (4, c), (4, c), (4, c), (4, c), (4, c), (4, c)], (-2)),
  ([(0, c), (1, 0), (2, 0), (5, 0), (3, d), (4, c), (4, c), (4, c), (4, c), (4, c), (4, c), (4, c), (4, c)], 3),
  ([(6, p), (7, 0), (3, d), (8, 0)], (-2)),
  ([(6, p), (7, 0), (9, 0), (3, d), (8, 0)], 2),
  ([(0, c), (3, d), (4, c), (4, c), (4, c), (4, c), (4, c), (4, c), (4, c), (4, c), (10, 0), (4, c), (4, c), (4, c), (4, c), (4, c), (4, c), (4, c), (4, c), (11, 0), (4, c), (4, c), (4, c), (4, c), (4, c), (4, c), (4, c), (4, c)], (-2)),
  ([(0, c), (3, d), (4, c), (4, c), (4, c), (4, c), (4, c), (4, c), (4, c), (4, c), (10, 0), (4, c), (4, c), (4, c), (4, c), (4, c), (4, c), (4, c), (4, c), (11, 0), (4, c), (12, 0), (4, c)], 21),
  ([(0, c), (3, d), (4, c), (4, c), (4, c), (4, c), (4, c), (4, c), (4, c), (4, c), (10, 0), (4, c), (4, c), (4, c), (4, c), (4, c), (4, c), (4, c), (4, c), (11, 0), (4, c), (4, c), (4, c), (4, c), (4, c), (4, c), (4, c), (4, c), (4, c)], 28),
  ([(0, c), (3, d), (4, c), (4, c), (4, c), (4, c), (4, c), (4, c), (4, c), (4, c), (4, c)], 10),
  ([(0, c), (3, d), (13, c), (14, c), (14, c), (14, c), (14, c), (14, c), (14, c), (14, c), (14, c), (15, 0), (14, c), (14, c), (14, c), (14, c), (14, c), (14, c), (14, c), (14, c)], (-2)),
  ([(0, c), (3, d), (13, c), (14, c), (14, c), (14, c), (14, c), (14, c), (14, c), (14, c), (14, c), (14, c)], 11),
  ([(0, c), (3, d), (13, c), (14, c), (14, c), (14, c), (14, c), (14, c), (14, c), (14, c), (14, c), (15, 0), (14, c), (14, c), (14, c), (14, c), (14, c), (14, c), (14, c), (14, c), (14, c), (14, c), (14, c), (14, c), (14, c), (14, c), (14, c), (14, c)], 20),
  ([(0, c), (3, d), (4, c), (4, c), (4, c), (4, c), (4, c), (4, c), (4, c), (4, c), (10, 0), (4, c), (4, c), (4, c), (4, c), (4, c), (4, c), (4, c), (4, c), (16, d), (13, c), (14, c), (14, c), (14, c), (14, c), (14, c), (14, c), (14, c)], (-2)),
  ([(0, c), (3, d), (4, c), (4, c), (4, c), (4, c), (4, c), (4, c), (4, c), (4, c), (10, 0), (4, c), (4, c), (4, c), (4, c), (4, c), (4, c), (4, c), (4, c), (16, d), (13, c), (14, c), (14, c), (14, c), (14, c), (14, c), (14, c), (14, c), (14, c)], 28)]
def depthsI (c p d : Nat) : List (List (Nat × Nat) × Int) := [
  ([(17, c), (6, p), (3, d), (18, 0), (19, 0), (20, c)], (-2)),
  ([(17, c), (6, p), (3, d), (18, 0), (19, 0), (21, 0), (22, 0)], 5),
  ([(17, c), (6, p), (3, d), (18, 0), (19, 0), (23, 0), (24, p)], 5),
  ([(17, c), (6, p), (3, d), (25, c), (26, p), (27, 0), (28, p)], (-2)),
  ([(17, c), (6, p), (3, d), (29, 0), (30, 0), (26, p)], 4),
  ([(17, c), (6, p), (3, d), (29, 0), (31, 0), (28, p)], 4),
  ([(17, c), (6, p), (3, d), (18, 0), (8, 0)], 4),
  ([(17, c), (6, p), (3, d), (18, 0), (30, 0), (15, 0), (8, 0)], 6),
  ([(17, c), (6, p), (3, d), (18, 0), (30, 0), (15, 0), (30, 0), (15, 0), (30, 0)], 7),
  ([(17, c), (6, p), (3, d), (29, 0), (26, p), (15, 0), (30, 0)], 5),
  ([(17, c), (6, p), (3, d), (15, 0), (30, 0)], 3),
  ([(17, c), (6, p), (3, d), (8, 0), (30, 0)], 4),
  ([(17, c), (6, p), (3, d), (18, 0), (32, 0)], 4),
  ([(17, c), (6, p), (3, d), (18, 0), (33, 0)], 4),
  ([(17, c), (6, p), (3, d), (34, 0)], 3),
  ([(17, c), (6, p), (3, d), (35, 0)], 3)]
def wordsI (c p d : Nat) : List (List (Nat × Nat) × Int) := [
  ([(36, 0), (3, d), (8, 0)], 0),
  ([(37, 0), (3, d), (8, 0)], 0),
  ([(38, 0), (3, d), (8, 0)], 0),
  ([(39, 0), (3, d), (8, 0)], 0),
  ([(40, 0), (3, d), (8, 0)], 0),
  ([(41, 0), (3, d), (8, 0)], 0),
  ([(42, 0), (3, d), (8, 0)], 0),
  ([(43, 0), (3, d), (8, 0)], 0),
  ([(44, 0), (3, d), (8, 0)], (-2)),
  ([(45, 0), (3, d), (8, 0)], (-2)),
  ([(46, 0), (3, d), (8, 0)], (-2)),
  ([(47, 0), (3, d), (8, 0)], (-2)),
  ([(48, 0), (8, 0)], 0),
  ([(49, 0), (8, 0)], 0),
  ([(50, 0), (8, 0)], 0),
  ([(51, 0), (8, 0)], (-2)),
  ([(52, 0), (8, 0)], (-2)),
  ([(53, 0), (8, 0)], (-2)),
  ([(54, 0), (8, 0)], (-2)),
  ([(55, 0), (8, 0)], (-2)),
  ([(56, c), (3, d), (8, 0)], 0),
  ([(57, c), (3, d), (8, 0)], 0),
  ([(58, c), (3, d), (8, 0)], 0),
  ([(59, c), (3, d), (8, 0)], 0),
  ([(60, c), (3, d), (8, 0)], 0),
  ([(61, c), (3, d), (8, 0)], 0),
  ([(62, c), (62, c), (3, d), (8, 0)], 1),
  ([(6, p), (6, p), (3, d), (8, 0)], 1),
  ([(17, c), (6, p), (3, d), (8, 0), (3, d), (8, 0)], 4),
  ([(6, p), (0, c), (3, d), (8, 0)], 1),
  ([(3, d), (8, 0), (6, p)], 2),
  ([(3, d), (8, 0), (0, c)], 2),
  ([(17, c), (6, p), (3, d), (63, 0)], 3),
  ([(17, c), (6, p), (3, d), (64, 0)], 3),
  ([(17, c), (6, p), (3, d), (65, c)], 3),
  ([(17, c), (6, p), (3, d), (66, c)], 3),
  ([(17, c), (6, p), (3, d), (67, 0)], 3),
  ([(17, c), (6, p), (3, d), (68, 0)], 3),
  ([(17, c), (6, p), (3, d), (69, 0)], 3),
  ([(17, c), (6, p), (3, d), (70, 0)], 3),
  ([(17, c), (6, p), (3, d), (71, 0)], 3),
  ([(17, c), (6, p), (3, d), (72, 0)], 3),
  ([(17, c), (6, p), (3, d), (73, 0)], 3),
  ([(17, c), (6, p), (3, d), (74, p)], 3),
  ([(17, c), (6, p), (3, d), (75, 0)], 3),
  ([(17, c), (6, p), (3, d), (76, 0)], 3),
  ([(17, c), (6, p), (3, d), (77, c)], 3),
  ([(17, c), (6, p), (3, d), (33, 0)], 3),
  ([(17, c), (6, p), (3, d), (78, 0)], 3),
  ([(17, c), (6, p), (3, d), (79, 0)], 3),
  ([(17, c), (6, p), (3, d), (80, 0)], 3),
  ([(17, c), (6, p), (3, d), (81, 0)], 3),
  ([(17, c), (6, p), (3, d), (82, 0)], 3),
  ([(81, 0)], 0),
  ([(17, c), (6, p)], 2),
  ([(17, c), (6, p), (3, d)], 3),
  ([(17, c), (6, p), (3, d), (18, 0)], 4),
  ([(17, c), (6, p), (3, d), (83, 0)], 3),
  ([(17, c), (6, p), (3, d), (8, 0), (81, 0)], 4),
  ([(84, d)], 0),
  ([(8, 0)], 0),
  ([(85, p)], 0)]
def rend (q : List (Nat × Nat) × Int) : List Str × Int := (q.1.map rowS, q.2)
theorem depths_rend (c p d : Nat) : depthsC (rho c) (rho p) (rho d) = (depthsI c p d).map rend := by
  rfl
theorem words_rend (c p d : Nat) : wordsC (rho c) (rho p) (rho d) = (wordsI c p d).map rend := by
  rfl
theorem counts_rend (c p d : Nat) : countsC (rho c) (rho p) (rho d) = (countsI c p d).map rend := by
  rfl
end K5
namespace K5
open PySem PySem.Spec PyProof.Rows L2
def injB : Bool := (List.range 54).all fun a => (List.range 54).all fun b => decide (a = b) || !decide (rho a = rho b)
theorem injB_ok : injB = true := by decide +kernel
def tabB : Bool := (List.range 54).all fun a => (isName (rho a) == cod.nm a) && (isDoor (rho a) == cod.dr a) && decide (numOf (rho a) 3 = cod.nu a)
theorem tabB_ok : tabB = true := by decide +kernel
theorem kwB_ok : ((List.range 18).all fun a => decide (rho a = kwL.getD a "")) = true := by decide +kernel
theorem rowsB_ok : ((List.range 94).all fun f => nmcL.all fun a => rowFit (f, a)) = true := by decide +kernel
end K5
namespace K5
open PySem PySem.Spec PyProof.Rows L2
def inF (l : List (Nat × Nat)) : Bool := l.all fun r => decide (r.1 < 94) && nmcL.contains r.2
def okCase (q : List (Nat × Nat) × Int) : Bool := inF q.1 && (decide (q.1.length ≤ 100) && (decide (0 < q.1.length) && (decide (-3 < q.2 ∧ q.2 < 40) && match partN cod (q.1.map rowN) with
  | .ok _ => decide (q.2 < -1)
  | .error n => decide (q.2 = (n : Int)))))
def pos7 (a : Nat) : Nat := nmcL.findIdx fun b => decide (b = a)
def goodI (c p d : Nat) : List (Nat × Nat) := [(17, c), (6, p), (3, d), (86 + pos7 p, c), (93, 0)]
def goodR (c p d : Nat) : Bool := match partN cod ((goodI c p d).map rowN) with
  | .ok (cs, ps, ds) => decide (cs = [(c, 1)]) && (decide (ps = [p]) && decide (ds = [d]))
  | .error _ => false
def tripOk (c p d : Nat) : Bool := (countsI c p d ++ depthsI c p d ++ wordsI c p d).all okCase && (goodR c p d && inF (goodI c p d))
def tripAll : Bool := nmcL.all fun c => nmcL.all fun p => nmcL.all fun d => (decide (c = p) || decide (c = d) || decide (p = d)) || tripOk c p d
end K5
namespace K5
open PySem PySem.Spec PyProof.Rows L2
theorem all_add {n k : Nat} {F : Nat → Bool} (h1 : ((List.range n).all F) = true) (h2 : ((List.range k).all fun j => F (n + j)) = true) : ((List.range (n + k)).all F) = true := by
  refine List.all_eq_true.mpr fun f hf => ?_
  have lt := List.mem_range.mp hf
  by_cases c : f < n
  · exact List.all_eq_true.mp h1 f (List.mem_range.mpr c)
  · have q := List.all_eq_true.mp h2 (f - n) (List.mem_range.mpr (by omega))
    rw [show n + (f - n) = f by omega] at q
    exact q
def rowF (f : Nat) : Bool := nmcL.all fun a => rowOk (f, a)
theorem rowC0 : ((List.range 4).all fun j => rowF (0 + j)) = true := by decide +kernel
theorem rowU0 : ((List.range 4).all rowF) = true := all_add (n := 0) (k := 4) (rfl : ((List.range 0).all rowF) = true) rowC0
theorem rowC1 : ((List.range 4).all fun j => rowF (4 + j)) = true := by decide +kernel
theorem rowU1 : ((List.range 8).all rowF) = true := all_add (n := 4) (k := 4) rowU0 rowC1
theorem rowC2 : ((List.range 4).all fun j => rowF (8 + j)) = true := by decide +kernel
theorem rowU2 : ((List.range 12).all rowF) = true := all_add (n := 8) (k := 4) rowU1 rowC2
theorem rowC3 : ((List.range 4).all fun j => rowF (12 + j)) = true := by decide +kernel
theorem rowU3 : ((List.range 16).all rowF) = true := all_add (n := 12) (k := 4) rowU2 rowC3
theorem rowC4 : ((List.range 4).all fun j => rowF (16 + j)) = true := by decide +kernel
theorem rowU4 : ((List.range 20).all rowF) = true := all_add (n := 16) (k := 4) rowU3 rowC4
theorem rowC5 : ((List.range 4).all fun j => rowF (20 + j)) = true := by decide +kernel
theorem rowU5 : ((List.range 24).all rowF) = true := all_add (n := 20) (k := 4) rowU4 rowC5
theorem rowC6 : ((List.range 4).all fun j => rowF (24 + j)) = true := by decide +kernel
theorem rowU6 : ((List.range 28).all rowF) = true := all_add (n := 24) (k := 4) rowU5 rowC6
theorem rowC7 : ((List.range 4).all fun j => rowF (28 + j)) = true := by decide +kernel
theorem rowU7 : ((List.range 32).all rowF) = true := all_add (n := 28) (k := 4) rowU6 rowC7
theorem rowC8 : ((List.range 4).all fun j => rowF (32 + j)) = true := by decide +kernel
theorem rowU8 : ((List.range 36).all rowF) = true := all_add (n := 32) (k := 4) rowU7 rowC8
theorem rowC9 : ((List.range 4).all fun j => rowF (36 + j)) = true := by decide +kernel
theorem rowU9 : ((List.range 40).all rowF) = true := all_add (n := 36) (k := 4) rowU8 rowC9
theorem rowC10 : ((List.range 4).all fun j => rowF (40 + j)) = true := by decide +kernel
theorem rowU10 : ((List.range 44).all rowF) = true := all_add (n := 40) (k := 4) rowU9 rowC10
theorem rowC11 : ((List.range 4).all fun j => rowF (44 + j)) = true := by decide +kernel
theorem rowU11 : ((List.range 48).all rowF) = true := all_add (n := 44) (k := 4) rowU10 rowC11
theorem rowC12 : ((List.range 4).all fun j => rowF (48 + j)) = true := by decide +kernel
theorem rowU12 : ((List.range 52).all rowF) = true := all_add (n := 48) (k := 4) rowU11 rowC12
theorem rowC13 : ((List.range 4).all fun j => rowF (52 + j)) = true := by decide +kernel
theorem rowU13 : ((List.range 56).all rowF) = true := all_add (n := 52) (k := 4) rowU12 rowC13
theorem rowC14 : ((List.range 4).all fun j => rowF (56 + j)) = true := by decide +kernel
theorem rowU14 : ((List.range 60).all rowF) = true := all_add (n := 56) (k := 4) rowU13 rowC14
theorem rowC15 : ((List.range 4).all fun j => rowF (60 + j)) = true := by decide +kernel
theorem rowU15 : ((List.range 64).all rowF) = true := all_add (n := 60) (k := 4) rowU14 rowC15
theorem rowC16 : ((List.range 4).all fun j => rowF (64 + j)) = true := by decide +kernel
theorem rowU16 : ((List.range 68).all rowF) = true := all_add (n := 64) (k := 4) rowU15 rowC16
theorem rowC17 : ((List.range 4).all fun j => rowF (68 + j)) = true := by decide +kernel
theorem rowU17 : ((List.range 72).all rowF) = true := all_add (n := 68) (k := 4) rowU16 rowC17
theorem rowC18 : ((List.range 4).all fun j => rowF (72 + j)) = true := by decide +kernel
theorem rowU18 : ((List.range 76).all rowF) = true := all_add (n := 72) (k := 4) rowU17 rowC18
theorem rowC19 : ((List.range 4).all fun j => rowF (76 + j)) = true := by decide +kernel
theorem rowU19 : ((List.range 80).all rowF) = true := all_add (n := 76) (k := 4) rowU18 rowC19
theorem rowC20 : ((List.range 4).all fun j => rowF (80 + j)) = true := by decide +kernel
theorem rowU20 : ((List.range 84).all rowF) = true := all_add (n := 80) (k := 4) rowU19 rowC20
theorem rowC21 : ((List.range 4).all fun j => rowF (84 + j)) = true := by decide +kernel
theorem rowU21 : ((List.range 88).all rowF) = true := all_add (n := 84) (k := 4) rowU20 rowC21
theorem rowC22 : ((List.range 4).all fun j => rowF (88 + j)) = true := by decide +kernel
theorem rowU22 : ((List.range 92).all rowF) = true := all_add (n := 88) (k := 4) rowU21 rowC22
theorem rowC23 : ((List.range 2).all fun j => rowF (92 + j)) = true := by decide +kernel
theorem rowU23 : ((List.range 94).all rowF) = true := all_add (n := 92) (k := 2) rowU22 rowC23
theorem rowOk_ok : ((List.range 94).all fun f => nmcL.all fun a => rowOk (f, a)) = true := rowU23
end K5
namespace K5
open PySem PySem.Spec PyProof.Rows L2
def tripD (c p : Nat) : Bool := nmcL.all fun d => (decide (c = p) || decide (c = d) || decide (p = d)) || tripOk c p d
theorem trip_18_18 : tripD 18 18 = true := by decide +kernel
theorem trip_18_3 : tripD 18 3 = true := by decide +kernel
theorem trip_18_6 : tripD 18 6 = true := by decide +kernel
theorem trip_18_0 : tripD 18 0 = true := by decide +kernel
theorem trip_18_19 : tripD 18 19 = true := by decide +kernel
theorem trip_18_10 : tripD 18 10 = true := by decide +kernel
theorem trip_18_11 : tripD 18 11 = true := by decide +kernel
theorem trip_3_18 : tripD 3 18 = true := by decide +kernel
theorem trip_3_3 : tripD 3 3 = true := by decide +kernel
theorem trip_3_6 : tripD 3 6 = true := by decide +kernel
theorem trip_3_0 : tripD 3 0 = true := by decide +kernel
theorem trip_3_19 : tripD 3 19 = true := by decide +kernel
theorem trip_3_10 : tripD 3 10 = true := by decide +kernel
theorem trip_3_11 : tripD 3 11 = true := by decide +kernel
theorem trip_6_18 : tripD 6 18 = true := by decide +kernel
theorem trip_6_3 : tripD 6 3 = true := by decide +kernel
theorem trip_6_6 : tripD 6 6 = true := by decide +kernel
theorem trip_6_0 : tripD 6 0 = true := by decide +kernel
theorem trip_6_19 : tripD 6 19 = true := by decide +kernel
theorem trip_6_10 : tripD 6 10 = true := by decide +kernel
theorem trip_6_11 : tripD 6 11 = true := by decide +kernel
theorem trip_0_18 : tripD 0 18 = true := by decide +kernel
theorem trip_0_3 : tripD 0 3 = true := by decide +kernel
theorem trip_0_6 : tripD 0 6 = true := by decide +kernel
theorem trip_0_0 : tripD 0 0 = true := by decide +kernel
theorem trip_0_19 : tripD 0 19 = true := by decide +kernel
theorem trip_0_10 : tripD 0 10 = true := by decide +kernel
theorem trip_0_11 : tripD 0 11 = true := by decide +kernel
theorem trip_19_18 : tripD 19 18 = true := by decide +kernel
theorem trip_19_3 : tripD 19 3 = true := by decide +kernel
theorem trip_19_6 : tripD 19 6 = true := by decide +kernel
theorem trip_19_0 : tripD 19 0 = true := by decide +kernel
theorem trip_19_19 : tripD 19 19 = true := by decide +kernel
theorem trip_19_10 : tripD 19 10 = true := by decide +kernel
theorem trip_19_11 : tripD 19 11 = true := by decide +kernel
theorem trip_10_18 : tripD 10 18 = true := by decide +kernel
theorem trip_10_3 : tripD 10 3 = true := by decide +kernel
theorem trip_10_6 : tripD 10 6 = true := by decide +kernel
theorem trip_10_0 : tripD 10 0 = true := by decide +kernel
theorem trip_10_19 : tripD 10 19 = true := by decide +kernel
theorem trip_10_10 : tripD 10 10 = true := by decide +kernel
theorem trip_10_11 : tripD 10 11 = true := by decide +kernel
theorem trip_11_18 : tripD 11 18 = true := by decide +kernel
theorem trip_11_3 : tripD 11 3 = true := by decide +kernel
theorem trip_11_6 : tripD 11 6 = true := by decide +kernel
theorem trip_11_0 : tripD 11 0 = true := by decide +kernel
theorem trip_11_19 : tripD 11 19 = true := by decide +kernel
theorem trip_11_10 : tripD 11 10 = true := by decide +kernel
theorem trip_11_11 : tripD 11 11 = true := by decide +kernel
theorem nmc_cases {a : Nat} (h : a ∈ nmcL) : a = 18 ∨ a = 3 ∨ a = 6 ∨ a = 0 ∨ a = 19 ∨ a = 10 ∨ a = 11 := by
  unfold nmcL at h
  simpa only [List.mem_cons, List.not_mem_nil, or_false] using h
theorem tripAll_ok : tripAll = true := by
  refine List.all_eq_true.mpr fun c hc => List.all_eq_true.mpr fun p hp => ?_
  show tripD c p = true
  rcases nmc_cases hc with rfl | rfl | rfl | rfl | rfl | rfl | rfl
  · rcases nmc_cases hp with rfl | rfl | rfl | rfl | rfl | rfl | rfl
    · exact trip_18_18
    · exact trip_18_3
    · exact trip_18_6
    · exact trip_18_0
    · exact trip_18_19
    · exact trip_18_10
    · exact trip_18_11
  · rcases nmc_cases hp with rfl | rfl | rfl | rfl | rfl | rfl | rfl
    · exact trip_3_18
    · exact trip_3_3
    · exact trip_3_6
    · exact trip_3_0
    · exact trip_3_19
    · exact trip_3_10
    · exact trip_3_11
  · rcases nmc_cases hp with rfl | rfl | rfl | rfl | rfl | rfl | rfl
    · exact trip_6_18
    · exact trip_6_3
    · exact trip_6_6
    · exact trip_6_0
    · exact trip_6_19
    · exact trip_6_10
    · exact trip_6_11
  · rcases nmc_cases hp with rfl | rfl | rfl | rfl | rfl | rfl | rfl
    · exact trip_0_18
    · exact trip_0_3
    · exact trip_0_6
    · exact trip_0_0
    · exact trip_0_19
    · exact trip_0_10
    · exact trip_0_11
  · rcases nmc_cases hp with rfl | rfl | rfl | rfl | rfl | rfl | rfl
    · exact trip_19_18
    · exact trip_19_3
    · exact trip_19_6
    · exact trip_19_0
    · exact trip_19_19
    · exact trip_19_10
    · exact trip_19_11
  · rcases nmc_cases hp with rfl | rfl | rfl | rfl | rfl | rfl | rfl
    · exact trip_10_18
    · exact trip_10_3
    · exact trip_10_6
    · exact trip_10_0
    · exact trip_10_19
    · exact trip_10_10
    · exact trip_10_11
  · rcases nmc_cases hp with rfl | rfl | rfl | rfl | rfl | rfl | rfl
    · exact trip_11_18
    · exact trip_11_3
    · exact trip_11_6
    · exact trip_11_0
    · exact trip_11_19
    · exact trip_11_10
    · exact trip_11_11
end K5
namespace K5
open PySem PySem.Spec PyProof.Rows L2
theorem range_all {n : Nat} {f : Nat → Bool} (h : ((List.range n).all f) = true) {a : Nat} (ha : a < n) : f a = true := List.all_eq_true.mp h a (List.mem_range.mpr ha)
theorem cod_ok : CodOk cod 3 where
  inj := fun a b ha hb e => by
    have q := range_all (range_all injB_ok ha) hb
    rw [Bool.or_eq_true] at q
    rcases q with q | q
    · exact of_decide_eq_true q
    · rw [show decide (rho a = rho b) = true from decide_eq_true e] at q
      cases q
  big := by decide
  kw := fun a ha => of_decide_eq_true (range_all kwB_ok ha)
  nm := fun a ha => by
    have q := range_all tabB_ok ha
    rw [Bool.and_eq_true, Bool.and_eq_true] at q
    exact eq_of_beq q.1.1
  dr := fun a ha => by
    have q := range_all tabB_ok ha
    rw [Bool.and_eq_true, Bool.and_eq_true] at q
    exact eq_of_beq q.1.2
  nu := fun a ha => by
    have q := range_all tabB_ok ha
    rw [Bool.and_eq_true, Bool.and_eq_true] at q
    exact of_decide_eq_true q.2
def RowsT : Prop := ((List.range 94).all fun f => nmcL.all fun a => rowOk (f, a)) = true
theorem in_row {l : List (Nat × Nat)} (h : inF l = true) {r : Nat × Nat} (hr : r ∈ l) : r.1 < 94 ∧ r.2 ∈ nmcL := by
  have q := List.all_eq_true.mp h r hr
  rw [Bool.and_eq_true] at q
  exact ⟨of_decide_eq_true q.1, List.contains_iff_mem.mp q.2⟩
theorem row_ok (T : RowsT) {r : Nat × Nat} (h : r.1 < 94 ∧ r.2 ∈ nmcL) {dp : Nat} (hd : dp ≤ 3) : rowWords (rowS r) dp = ((rowN r).getD dp []).map rho ∧ ∀ a ∈ (rowN r).getD dp [], a < 54 := by
  obtain ⟨f, a⟩ := r
  have q := List.all_eq_true.mp (range_all T h.1) a h.2
  have q := range_all q (a := dp) (by omega)
  rw [Bool.and_eq_true] at q
  exact ⟨of_decide_eq_true q.1, fun b hb => of_decide_eq_true (List.all_eq_true.mp q.2 b hb)⟩
theorem row_fit {r : Nat × Nat} (h : r.1 < 94 ∧ r.2 ∈ nmcL) : (∀ c ∈ (rowS r).cps.toList, c < 128 ∧ c ≠ 10) ∧ (rowS r).length ≤ 60 := by
  obtain ⟨f, a⟩ := r
  have q := List.all_eq_true.mp (range_all rowsB_ok h.1) a h.2
  unfold rowFit at q
  rw [Bool.and_eq_true] at q
  refine ⟨fun c hc => ?_, of_decide_eq_true q.2⟩
  have q2 := List.all_eq_true.mp q.1 c hc
  rw [Bool.and_eq_true] at q2
  refine ⟨of_decide_eq_true q2.1, fun e => ?_⟩
  rw [show decide (c = 10) = true from decide_eq_true e] at q2
  exact nomatch q2.2
theorem rows_ok (T : RowsT) {l : List (Nat × Nat)} (h : inF l = true) : RowsOk cod (l.map rowS) (l.map rowN) := by
  refine ⟨by rw [List.length_map, List.length_map], fun n dp hd => ?_⟩
  unfold wordsAt wordsN
  rw [List.getElem?_map, List.getD_eq_getElem?_getD (l := l.map rowN), List.getElem?_map]
  cases e : l[n]? with
  | none => exact ⟨rfl, fun a ha => nomatch ha⟩
  | some r => exact row_ok T (in_row h (List.mem_of_getElem? e)) hd
/-- the text of such rows -/
def textI (l : List (Nat × Nat)) : Str := Str.join "\n" (l.map rowS)
theorem text_rows {l : List (Nat × Nat)} (h : inF l = true) (n0 : l ≠ []) : rowsOf (textI l) = l.map rowS := rows_join (fun e => n0 (List.map_eq_nil_iff.mp e)) fun p hp hc => by
  obtain ⟨r, hr, rfl⟩ := List.mem_map.mp hp
  exact ((row_fit (in_row h hr)).1 10 hc).2 rfl
theorem text_part (T : RowsT) {l : List (Nat × Nat)} (h : inF l = true) (n0 : l ≠ []) : partR 3 (rowsOf (textI l)) = toP cod (partN cod (l.map rowN)) := by
  rw [text_rows h n0]
  exact part_eq cod_ok (rows_ok T h)
theorem join_signs {P : Nat → Prop} {c : Nat} (pc : P c) : ∀ {ps : List Str}, (∀ p ∈ ps, ∀ x ∈ p.cps.toList, P x) → ∀ x ∈ (Str.join ⟨#[c]⟩ ps).cps.toList, P x
  | [], _, x, hx => nomatch hx
  | [p], h, x, hx => h p (List.mem_cons_self ..) x hx
  | p :: q :: r, h, x, hx => by
    rw [join_list] at hx
    rcases List.mem_append.mp hx with hx | hx
    · exact h p (List.mem_cons_self ..) x hx
    · rcases List.mem_cons.mp hx with e | hx
      · rw [e]
        exact pc
      · exact join_signs pc (fun s hs => h s (List.mem_cons_of_mem _ hs)) x hx
theorem join_fits {c m : Nat} : ∀ {ps : List Str}, (∀ p ∈ ps, p.length ≤ m) → (Str.join ⟨#[c]⟩ ps).length ≤ (m + 1) * ps.length
  | [], _ => Nat.zero_le _
  | [p], h => by
    have := h p (List.mem_cons_self ..)
    show p.length ≤ (m + 1) * 1
    omega
  | p :: q :: r, h => by
    have h1 := h p (List.mem_cons_self ..)
    have h2 := join_fits (c := c) (m := m) (ps := q :: r) fun s hs => h s (List.mem_cons_of_mem _ hs)
    have e : (Str.join ⟨#[c]⟩ (p :: q :: r)).length = p.length + (1 + (Str.join ⟨#[c]⟩ (q :: r)).length) := by
      have := congrArg List.length (join_list c p q r)
      rw [List.length_append, List.length_cons, Array.length_toList, Array.length_toList, Array.length_toList] at this
      show Array.size _ = Array.size _ + (1 + Array.size _)
      omega
    rw [e, List.length_cons, Nat.mul_succ]
    omega
theorem nl_eq : ("\n" : Str) = ⟨#[10]⟩ := by decide +kernel
theorem text_fit {l : List (Nat × Nat)} (h : inF l = true) (few : l.length ≤ 100) : (textI l).length ≤ 10000 ∧ PyData.strOk (textI l) = true := by
  unfold textI
  rw [nl_eq]
  constructor
  · have := join_fits (c := 10) (m := 60) (ps := l.map rowS) fun p hp => by
      obtain ⟨r, hr, rfl⟩ := List.mem_map.mp hp
      exact (row_fit (in_row h hr)).2
    rw [List.length_map] at this
    omega
  · unfold PyData.strOk
    rw [Array.all_eq_true']
    intro c hc
    have := join_signs (P := fun x => x < 128) (c := 10) (by decide) (ps := l.map rowS) (fun p hp x hx => by
      obtain ⟨r, hr, rfl⟩ := List.mem_map.mp hp
      exact ((row_fit (in_row h hr)).1 x hx).1) c (Array.mem_toList_iff.mpr hc)
    exact decide_eq_true (by omega)
/-- what the law hears of a case -/
def dueV (n : Int) : Str × V := if n < -1 then ("fine", .non) else ("text", .int n)
theorem heard_case (T : RowsT) {q : List (Nat × Nat) × Int} (h : okCase q = true) : heardV (.int 3) (.str (textI q.1)) = dueV q.2 ∧ (-3 < q.2 ∧ q.2 < 40) ∧ q.1.length ≤ 100 ∧ inF q.1 = true ∧ (textI q.1).length ≤ 10000 ∧ PyData.strOk (textI q.1) = true := by
  unfold okCase at h
  rw [Bool.and_eq_true, Bool.and_eq_true, Bool.and_eq_true, Bool.and_eq_true] at h
  obtain ⟨h1, h2, h3, h0, h4⟩ := h
  have h2 := of_decide_eq_true h2
  have h3 := of_decide_eq_true h3
  have n0 : q.1 ≠ [] := fun e => by
    rw [e] at h3
    exact absurd h3 (by decide)
  refine ⟨?_, of_decide_eq_true h0, h2, h1, text_fit h1 h2⟩
  have e := text_part T h1 n0
  show (if worthsOk (.int 3) = true then match partR 3 (rowsOf (textI q.1)) with
      | .ok _ => (("fine" : Str), V.non)
      | .error n => (("text" : Str), V.int n)
    else (("worths" : Str), V.int 3)) = _
  rw [if_pos (by decide), e]
  revert h4
  cases partN cod (q.1.map rowN) with
  | ok s =>
    intro h4
    have h5 : q.2 < -1 := of_decide_eq_true h4
    obtain ⟨cs, ps, ds⟩ := s
    show (("fine" : Str), V.non) = dueV q.2
    unfold dueV
    rw [if_pos h5]
  | error n =>
    intro h4
    have h5 : q.2 = (n : Int) := of_decide_eq_true h4
    show (("text" : Str), V.int (n : Nat)) = dueV q.2
    unfold dueV
    rw [if_neg (by omega), h5]
end K5
namespace K5
open PySem PySem.Spec PyProof.Rows L2
/-! ### promises of defs that show things: they are called while nothing is being shown -/
structure FnG (P : Program) (w : World) (K : PySem.W.Frag) (mg : Str → Option Value) (base : Heap) (cx : CXT) (lv : Nat) (g : Addr) (rec : FuncData) (ns : List Str) (pr : Sp) : Prop where
  many : ∀ xs G R T, pr xs G R T → xs.length = ns.length
  does : ∀ (B : Around) (out : List Env) (st : Shared) (G : Hp) (as : Args) (zs : List Value) (xs : List V) (R : VK) (T : XK), B.guards = some [] → Room lv B →
    Env0 P w K mg base B out st G → BindsTo st rec as (ns.zip zs) → Vals xs zs → pr xs G R T → codeAny (model P w) B (.call (.ref g) as) (CR cx out P w G st R T) st
section
variable {P : Program} {w : World} {K : PySem.W.Frag} {mg : Str → Option Value} {base : Heap}
theorem okG {x qual : Str} {d : Stmt} {g : Addr} {rec : FuncData} {N ns : List Str} {lv : Nat} {pr : Sp} {cx : CXT} (F : Fun K x qual d g rec) (S : FnScope N ns (defScope d)) (many : ∀ xs G R T, pr xs G R T → xs.length = ns.length)
    (runs : ∀ (cd : Value) (B : Around) (out : List Env) (st : Shared) (G : Hp) (xs : List V) (R : VK) (T : XK), B.guards = some [] → Room lv (B.deeper (envOfC qual (defScope d) st.heap.objs.size g cd)) → pr xs G R T →
      ∃ t, PSs (cxOf cx P w K mg base N qual (defScope d) g cd B out st G T) (defBody d) t ∧ t { nx := fun _ G' => R .non G', rt := R } (start N xs) G) : FnG P w K mg base cx (lv + 1) g rec ns pr := by
  obtain ⟨oc, od, kV, doc, pm, an, cd, ct, sl, rfl, lk, hcd⟩ := F.ex
  constructor
  · exact many
  intro B out st G as zs xs R T gu room e bind rel p
  have size := many _ _ _ _ p
  have still : ∀ b o, base.get? b = some o → st.heap.get? b = some o := fun b o z => (e.bs b o z).1
  have inK : K.In st.heap := e.mod.kin.keeps still
  have nol : st.heap.NoLimit := e.mod.nolimit.keeps still
  have kinds : ∀ y ∈ ns.zip zs, (defScope d).names.lookup y.1 = some .local ∨ ((defScope d).names.lookup y.1 = some .cell ∧ ((cellsFrom (st.heap.objs.size + 1) (defScope d).names []).lookup y.1).isSome = true) := by
    rintro ⟨n, v⟩ hy
    have q := S.par n (List.of_mem_zip hy).1
    exact q.imp id fun c => ⟨c, PySem.W.cellsFrom_some _ _ _ (.inl c)⟩
  apply codeAny_call_function room.depth (inK _ _ lk) rfl S.co S.gen rfl (PySem.W.codeRec_of inK hcd)
  refine bind _ _ _ _ (wpAny_newFunctionEnv_cells S.kind kinds ?_)
  intro env he s1 ic
  subst he
  obtain ⟨t, ht, hq⟩ := runs cd B out st G xs R T gu (room.deeper _) p
  have I0 := inv_start (CX := cx) (P := P) (w := w) (K := K) (mg := mg) (base := base) (qual := qual) (cd := cd) (f := g) (E := T) S room.hd e size rel ic
  refine ⟨nol.keeps ic.toInCall.keep, codeAny_func (wpAny_mono (ht.run [] s1 (start N xs) G _ I0 hq) ?_ fun _ _ z => z)⟩
  intro fl s2 hs
  have ends : ∀ {σ2 : L2.St} {G2 : Hp} {v : V} {u : Value}, Inv (cxOf cx P w K mg base N qual (defScope d) g cd B out st G T) [] σ2 G2 s2 → RelV v u → R v G2 → CE out P w G st R u s2 := by
    intro σ2 G2 v u J r q
    exact ⟨v, G2, J.os, J.bare, J.base, J.hok, r, q⟩
  match fl, hs with
  | .ret u, ⟨v, σ2, G2, J, r, q⟩ => exact ends J r q
  | .next, ⟨σ2, G2, J, q⟩ => exact ends (v := V.non) (u := Value.none) J rfl q
  | .brk, ⟨_, _, _, q⟩ => exact q.elim
  | .cont, ⟨_, _, _, q⟩ => exact q.elim
end
section
variable {X : Cx} {cx : CXT} {k : Nat} {f : Addr} {fd : FuncData} {ps : List Str} {sp : Sp} {x : Str} {E : XK} {p pos : Pos} {e : Expr} {es : List Expr} {t : TA}
theorem pe_callG (F : FnG X.prog X.w X.K X.mg X.base cx k f fd ps sp) (gu : X.A.guards = some []) (room : Room k X.A) (gl : Gl X x) (hm : X.mg x = some (.ref f)) (kp : PySem.W.keepIn X.K (.ref f) = true) (hb : Binds X.K fd ps []) (out : Passes cx X E)
    (ha : PA X (e :: es) t) (hdb : (x == ("__debug__" : Str)) = false := by decide) (he : starEach (e :: es) X.env = (false, eval e X.env) :: starEach es X.env := by rfl) (hpl : (backTo pos (starEach es X.env)).any (·.1) = false := by rfl) :
    PE X (.Call (.Name x p) (e :: es) [] pos) (tCall sp [] E t) := by
  constructor
  intro pins s σ H Q I h
  apply wpAny_Call_Name_kw
  apply ld_glob I gl hm _ hdb
  apply PySem.W.callWith_K (h₀ := X.base) I.ok.mod.kin kp _ he hpl
  refine thn (ha.run pos pins s σ H _ I h) ?_
  rintro us s1 ⟨vs, H1, I1, r, q⟩
  rw [List.append_nil] at q
  refine ⟨I1.kIn, wpAny_call (codeAny_mono (F.does X.A X.stack s1 H1 ⟨us, []⟩ us vs Q E gu room I1.env0 ?_ r q) ?_)⟩
  · have z := hb s1 us I1.kIn (by rw [List.append_nil, ← r.length]; exact F.many _ _ _ _ q)
    rw [List.append_nil] at z
    exact z
  · intro res s2 hq
    match res, hq with
    | .error v, hq => exact out pins σ H1 s1 v s2 I1 hq
    | .ok (.ret u), hq => exact I1.after hq
    | .ok .next, hq => exact hq.elim
    | .ok .brk, hq => exact hq.elim
    | .ok .cont, hq => exact hq.elim
end
end K5
namespace K5
open PySem PySem.Spec PyProof.Rows L2
/-! ### repr of what is laid out -/
/-- data that can be shown: such as == reads, or an empty dict -/
inductive Sd (K : PySem.W.Frag) (H : Hp) : V → PyData → Prop
  | dp {x : V} {d : PyData} (h : Dp K H x d) (n : d.hasDict = false) : Sd K H x d
  | dk {a : Addr} (h : H a = some (.dK [])) : Sd K H (.ref a) (.dict [])
/-- repr(t), t a tuple or a list of data, or a tuple of a text and such a thing -/
def rRepr (K : PySem.W.Frag) : List V → Hp → VK → Prop := fun xs H Q => ∃ (a : Addr) (d : PyData), xs = [.ref a] ∧ ((Dp K H (.ref a) d ∧ d.hasDict = false) ∨ ∃ (z : Str) (y : V) (e : PyData), SqT K H a [.str z, y] ∧ Sd K H y e ∧ d = .tuple [.str z, e]) ∧
  d.showable = true ∧ d.shown.length ≤ sizeLine ∧ d.depth ≤ 50 ∧ Q (.str d.shown) H
section
variable {X : Cx} {pins : List (Addr × Obj)} {σ : L2.St} {H : Hp} {s : Shared}
theorem hasDict2 {z : Str} {e : PyData} : (PyData.tuple [.str z, e]).hasDict = e.hasDict := by
  simp only [PyData.hasDict, PyData.hasDictAll, Bool.false_or, Bool.or_false]
theorem reads_dk {a : Addr} (I : Inv X pins σ H s) (h : H a = some (.dK [])) : Reads s.heap (.ref a) (.dict []) [a] ∧ a ≠ sysModules := by
  obtain ⟨_, nm, vs, rel, dd⟩ := dk_of I.hok h
  cases rel
  obtain ⟨o, es, ep, ho, hc, hd, _, ps, _⟩ := dd
  refine ⟨?_, fun z => by rw [z] at nm; cases nm⟩
  have e0 : es.toList = [] := by
    revert ps
    generalize es.toList = l
    intro ps
    cases ps
    rfl
  have r1 : ReadsAll s.heap (es.toList.map (·.key)) (([] : List (PyData × PyData)).map (·.1)) [] := by
    rw [e0]
    exact .nil
  have r2 : ReadsAll s.heap (es.toList.map (·.val)) (([] : List (PyData × PyData)).map (·.2)) [] := by
    rw [e0]
    exact .nil
  exact Reads.dict ho hc.1 hd r1 r2
theorem Sd.reads (I : Inv X pins σ H s) {x : V} {d : PyData} {u : Value} (h : Sd X.K H x d) (r : RelV x u) : ∃ as, Reads s.heap u d as ∧ (d.hasDict = true → sysModules ∉ as) := by
  cases h with
  | dp h n =>
    obtain ⟨as, q⟩ := Dp.reads I d x u h r
    exact ⟨as, q, fun z => by rw [n] at z; cases z⟩
  | dk h =>
    cases r
    obtain ⟨q, n⟩ := reads_dk I h
    exact ⟨_, q, fun _ z => n (List.mem_singleton.mp z).symm⟩
theorem call_reprD (gu : X.A.guards = some []) (hu : X.A.units + 64 < cLine) : CallR X (.builtin "repr") (rRepr X.K) := by
  intro pins s σ H xs us Q I r h
  obtain ⟨a, d, rfl, hd, hs, hz, dp, q⟩ := h
  obtain ⟨u, rfl, ru⟩ := r.one
  cases ru
  have go : ∀ as, Reads s.heap (.ref a) d as → (d.hasDict = true → sysModules ∉ as) → wpAny (model X.prog X.w) X.A (call (.builtin "repr") [.ref a]) (EP X pins σ Q) X.xe s := fun as rd hm =>
    repr_of_reads' rd hs hm gu (by omega) (fun _ _ e => e) (fun h' u tk hk => ⟨.str d.shown, H, I.kept hk, ⟨u, rfl⟩, q⟩) hz
  rcases hd with ⟨h, n⟩ | ⟨z, y, e, ht, hy, rfl⟩
  · obtain ⟨as, rd⟩ := Dp.reads I d _ _ h rfl
    exact go as rd fun c => by rw [n] at c; cases c
  · obtain ⟨its, rv, ⟨o, ho, hc, n, hd⟩, _⟩ := I.tuple ht
    obtain ⟨its, n2, rfl, rfl⟩ : ∃ (l : List Value) (n2 : Nat), its = l ∧ n = n2 := ⟨_, _, rfl, rfl⟩
    cases rv with
    | cons r1 r2 =>
      obtain ⟨t, rfl⟩ := r1
      cases r2 with
      | cons r2 r3 =>
        cases r3
        obtain ⟨as, rd, hm⟩ := Sd.reads I hy r2
        exact go _ (.tuple ho hc hd (.cons (.str z t) (.cons rd .nil))) fun c => by
          rw [hasDict2] at c
          simpa using hm c
end
end K5
namespace K5
open PySem PySem.Spec PyProof.Rows L2
/-! ### what a case is heard to be is shown alike -/
def dueD (n : Int) : PyData := if n < -1 then .tuple [.str "fine", .none] else .tuple [.str "text", .int n]
def fitD (d : PyData) : Bool := decide (d.shown.length ≤ 1000) && (d.showable && (!d.hasDict && decide (d.depth ≤ 50)))
theorem fit_fine : fitD (.tuple [.str "fine", .none]) = true := by decide +kernel
theorem fit_text : ((List.range 41).all fun k => fitD (.tuple [.str "text", .int ((k : Int) - 1)])) = true := by decide +kernel
theorem dueD_fit {n : Int} (h : -3 < n ∧ n < 40) : fitD (dueD n) = true := by
  unfold dueD
  by_cases c : n < -1
  · rw [if_pos c]
    exact fit_fine
  · rw [if_neg c]
    have q := range_all fit_text (a := (n + 1).toNat) (by omega)
    rw [show (((n + 1).toNat : Nat) : Int) - 1 = n by omega] at q
    exact q
theorem call_reprK {X : Cx} {K : PySem.W.Frag} (e : X.K = K) (gu : X.A.guards = some []) (hu : X.A.units + 64 < cLine) : CallR X (.builtin "repr") (rRepr K) := by
  subst e
  exact call_reprD gu hu
theorem join_txt (a : Str) (ys : List Str) : Txt.join a ys = Str.join a ys := TL.join_eq a ys
section
variable {K : PySem.W.Frag} {H : Hp} {Q : VK} {p : Addr}
theorem due_at {n : Int} (hp : H p = some (.tup [.str (dueV n).1, (dueV n).2])) : Dp K H (.ref p) (dueD n) := by
  unfold dueD
  unfold dueV at hp
  by_cases c : n < -1
  · rw [if_pos c] at hp ⊢
    exact .tup (SqT.of hp) (.cons (.str _) (.cons .non .nil))
  · rw [if_neg c] at hp ⊢
    exact .tup (SqT.of hp) (.cons (.str _) (.cons (.int _) .nil))
theorem rep_due {n : Int} (h : -3 < n ∧ n < 40) (hp : H p = some (.tup [.str (dueV n).1, (dueV n).2])) (q : Q (.str (dueD n).shown) H) : rRepr K [.ref p] H Q := by
  have f := dueD_fit h
  unfold fitD at f
  rw [Bool.and_eq_true, Bool.and_eq_true, Bool.and_eq_true] at f
  refine ⟨p, dueD n, rfl, .inl ⟨due_at hp, ?_⟩, f.2.1, Nat.le_trans (of_decide_eq_true f.1) (by decide), of_decide_eq_true f.2.2.2, q⟩
  have := f.2.2.1
  revert this
  cases (dueD n).hasDict
  · exact fun _ => rfl
  · exact fun z => nomatch z
end
end K5
namespace K5
open PySem PySem.Spec PyProof.Rows L2
theorem paired_getL {α β : Type} {F : α → β → Prop} : ∀ {xs : List α} {ys : List β} {i : Nat} {x : α}, Paired F xs ys → xs[i]? = some x → ∃ y, ys[i]? = some y ∧ F x y
  | _, _, 0, _, .cons h _, e => by
    cases e
    exact ⟨_, rfl, h⟩
  | _, _, i + 1, _, .cons _ t, e => paired_getL (i := i) t e
/-- the names that may be drawn -/
def nmV : List V := nmcL.map fun a => .str (rho a)
theorem nmV_nodup : nmV.Nodup := by decide +kernel
theorem three {ys rest : List V} (h : (ys ++ rest).Perm nmV) (l : ys.length = 3) : ∃ c p d : Nat, c ∈ nmcL ∧ p ∈ nmcL ∧ d ∈ nmcL ∧ c ≠ p ∧ c ≠ d ∧ p ≠ d ∧ ys = [.str (rho c), .str (rho p), .str (rho d)] := by
  have nd : (ys ++ rest).Nodup := h.nodup_iff.mpr nmV_nodup
  have nd := (List.nodup_append.mp nd).1
  match ys, l with
  | [x, y, z], _ =>
    have mem : ∀ v ∈ [x, y, z], ∃ a ∈ nmcL, V.str (rho a) = v := fun v hv => List.mem_map.mp (h.subset (List.mem_append_left _ hv))
    obtain ⟨c, hc, rfl⟩ := mem x (by simp)
    obtain ⟨p, hp, rfl⟩ := mem y (by simp)
    obtain ⟨d, hd, rfl⟩ := mem z (by simp)
    refine ⟨c, p, d, hc, hp, hd, ?_, ?_, ?_, rfl⟩ <;> (intro e; subst e; simp at nd)
theorem rho_len : (nmcL.all fun a => decide ((rho a).length ≤ 60)) = true := by decide +kernel
theorem rho_len' {a : Nat} (h : a ∈ nmcL) : (rho a).length ≤ 60 := of_decide_eq_true (List.all_eq_true.mp rho_len a h)
def casesI (c p d : Nat) : List (List (Nat × Nat) × Int) := countsI c p d ++ depthsI c p d ++ wordsI c p d
theorem cases_rend (c p d : Nat) : countsC (rho c) (rho p) (rho d) ++ depthsC (rho c) (rho p) (rho d) ++ wordsC (rho c) (rho p) (rho d) = (casesI c p d).map rend := by
  rw [counts_rend, depths_rend, words_rend, casesI, List.map_append, List.map_append]
def TripT : Prop := tripAll = true
theorem trip_at (T : TripT) {c p d : Nat} (hc : c ∈ nmcL) (hp : p ∈ nmcL) (hd : d ∈ nmcL) (n1 : c ≠ p) (n2 : c ≠ d) (n3 : p ≠ d) : tripOk c p d = true := by
  have q := List.all_eq_true.mp (List.all_eq_true.mp (List.all_eq_true.mp T c hc) p hp) d hd
  rw [decide_eq_false n1, decide_eq_false n2, decide_eq_false n3] at q
  exact q
theorem case_at (T : TripT) {c p d : Nat} (hc : c ∈ nmcL) (hp : p ∈ nmcL) (hd : d ∈ nmcL) (n1 : c ≠ p) (n2 : c ≠ d) (n3 : p ≠ d) {q : List (Nat × Nat) × Int} (h : q ∈ casesI c p d) : okCase q = true := by
  have t := trip_at T hc hp hd n1 n2 n3
  unfold tripOk at t
  rw [Bool.and_eq_true] at t
  exact List.all_eq_true.mp t.1 q h
/-- what is no table of code objects stands -/
theorem tab_ne {H : Hp} {P p : Addr} {o : HO} (t : GxR.TabG H P) (h : H p = some o) (n : ∀ ps, o ≠ .tbl ps) : p ≠ P := fun e => by
  obtain ⟨ps, h1, _⟩ := t
  rw [e, h1] at h
  injection h with h
  exact n _ h.symm
theorem TabG.keep {H H' : Hp} {P : Addr} (t : GxR.TabG H P) (s : Same H H') : GxR.TabG H' P := by
  obtain ⟨ps, h1, h2⟩ := t
  exact ⟨ps, s _ _ h1, h2⟩
theorem cs_tab {H H' : Hp} {P p : Addr} {c : List Str × Int} (t : GxR.TabG H P) (h : CsAt H p c) (k : KeepT P H H') : CsAt H' p c := by
  obtain ⟨b, h1, h2⟩ := h
  exact ⟨b, k _ _ (tab_ne t h1 fun ps e => nomatch e) h1, k _ _ (tab_ne t h2 fun ps e => nomatch e) h2⟩
/-- all but the table and the list b stands -/
def Keep2 (P b : Addr) (H H' : Hp) : Prop := ∀ x o, x ≠ P → x ≠ b → H x = some o → H' x = some o
theorem Keep2.step {P b : Addr} {H H' H'' : Hp} (k : Keep2 P b H H') (s : Same H' H'') : Keep2 P b H H'' := fun x o n1 n2 e => s _ _ (k x o n1 n2 e)
theorem sum_le (c : Nat) : ∀ l : List Nat, (∀ x ∈ l, x ≤ c) → l.sum ≤ c * l.length
  | [], _ => Nat.zero_le _
  | x :: l, h => by
    have h1 := h x (List.mem_cons_self ..)
    have h2 := sum_le c l fun y hy => h y (List.mem_cons_of_mem _ hy)
    rw [List.sum_cons, List.length_cons, Nat.mul_succ]
    omega
theorem text_sum {l : List (Nat × Nat)} (h : inF l = true) (few : l.length ≤ 100) : (((l.map rowS).map (·.length)).sum + (l.map rowS).length * ("\n" : Str).length) ≤ 16777216 := by
  have e : ("\n" : Str).length = 1 := by decide +kernel
  have := sum_le 60 ((l.map rowS).map (·.length)) fun x hx => by
    obtain ⟨z, hz, rfl⟩ := List.mem_map.mp hx
    obtain ⟨r, hr, rfl⟩ := List.mem_map.mp hz
    exact (row_fit (in_row h hr)).2
  rw [List.length_map, List.length_map] at this
  rw [e, List.length_map]
  omega
def goodC (c p d : Str) : List Str := headC c p ++ ["door " ++ d, "  ask " ++ p ++ " get " ++ c, "  answer got"]
theorem good_rows {c p d : Nat} (h : p ∈ nmcL) : goodC (rho c) (rho p) (rho d) = (goodI c p d).map rowS := by
  unfold nmcL at h
  simp only [List.mem_cons, List.not_mem_nil, or_false] at h
  rcases h with rfl | rfl | rfl | rfl | rfl | rfl | rfl <;> rfl
theorem good_part (T : TripT) (RT : RowsT) {c p d : Nat} (hc : c ∈ nmcL) (hp : p ∈ nmcL) (hd : d ∈ nmcL) (n1 : c ≠ p) (n2 : c ≠ d) (n3 : p ≠ d) :
    inF (goodI c p d) = true ∧ partR 3 (rowsOf (textI (goodI c p d))) = .ok ([(rho c, 1)], [rho p], [rho d]) := by
  have t := trip_at T hc hp hd n1 n2 n3
  unfold tripOk at t
  rw [Bool.and_eq_true, Bool.and_eq_true] at t
  refine ⟨t.2.2, ?_⟩
  rw [text_part RT t.2.2 fun e => nomatch e]
  have g := t.2.1
  unfold goodR at g
  revert g
  cases partN cod ((goodI c p d).map rowN) with
  | error n => exact fun z => nomatch z
  | ok s =>
    obtain ⟨cs, ps, ds⟩ := s
    intro g
    have g : (decide (cs = [(c, 1)]) && (decide (ps = [p]) && decide (ds = [d]))) = true := g
    rw [Bool.and_eq_true, Bool.and_eq_true] at g
    rw [of_decide_eq_true g.1, of_decide_eq_true g.2.1, of_decide_eq_true g.2.2]
    rfl
theorem rho_ok : (nmcL.all fun a => PyData.strOk (rho a)) = true := by decide +kernel
theorem rho_ok' {a : Nat} (h : a ∈ nmcL) : PyData.strOk (rho a) = true := List.all_eq_true.mp rho_ok a h
section
variable {x y : V} {ct pt sd dt stp ak : Addr}
theorem pt_worths : (partF x y ct pt sd dt stp ak).lookup ("worths" : Str) = some x := lk_hd
theorem pt_text : (partF x y ct pt sd dt stp ak).lookup ("text" : Str) = some y := (lk_tl (by decide +kernel)).trans lk_hd
theorem pt_cells : (partF x y ct pt sd dt stp ak).lookup ("cells" : Str) = some (.ref ct) := (lk_tl (by decide +kernel)).trans ((lk_tl (by decide +kernel)).trans lk_hd)
theorem pt_ports : (partF x y ct pt sd dt stp ak).lookup ("ports" : Str) = some (.ref pt) := (lk_tl (by decide +kernel)).trans ((lk_tl (by decide +kernel)).trans ((lk_tl (by decide +kernel)).trans lk_hd))
theorem pt_doors : (partF x y ct pt sd dt stp ak).lookup ("doors" : Str) = some (.ref dt) := (lk_tl (by decide +kernel)).trans ((lk_tl (by decide +kernel)).trans ((lk_tl (by decide +kernel)).trans ((lk_tl (by decide +kernel)).trans ((lk_tl (by decide +kernel)).trans lk_hd))))
end
/-- what the part that is good is told to be -/
def goodD (c p d z : Str) : PyData := .tuple [.int 3, .tuple [.tuple [.str c, .int 1]], .tuple [.str p], .tuple [.str d], .str z]
theorem goodD_shaped {c p d z : Str} (hc : PyData.strOk c = true) (hp : PyData.strOk p = true) (hd : PyData.strOk d = true) (hz : PyData.strOk z = true) : SeqAt.shaped (goodD c p d z) = true := by
  simp [SeqAt.shaped, goodD, PyData.canLay0, PyData.canLayAll0, PyData.depth, PyData.depthAll, hc, hp, hd, hz]
section
variable {K : PySem.W.Frag} {σ : L2.St} {H : Hp} {Q : VK} {i j : Nat}
/-- '\n'.join(lines) -/
theorem join_run {l : List (Nat × Nat)} {p : Addr} (hj : σ[j]? = some (some (.ref p))) (hp : LsAt H p (l.map rowS)) (h : inF l = true) (few : l.length ≤ 100) (q : Q (.str (textI l)) H) :
    tBM K "str" (fun x xs H Q => ∃ a p, ∃ ys : List Str, x = .str a ∧ xs = [.ref p] ∧ (SqL K H p (ys.map V.str) ∨ SqT K H p (ys.map V.str)) ∧ (ys.map (·.length)).sum + ys.length * a.length ≤ 16777216 ∧ Q (.str (Txt.join a ys)) H) (tC (.str "\n")) (tCons (tVar j) tNil) σ H Q := by
  refine bm_run (x := .str "\n") val_c rfl ?_
  refine (val_var hj) _ ⟨"\n", p, l.map rowS, rfl, rfl, .inl (SqL.of hp), text_sum h few, ?_⟩
  rw [join_txt]
  exact q
/-- ('fine', None) if due < -1 else ('text', due) -/
theorem due_run {n : Int} (h : σ[j]? = some (some (.int n))) (k : ∀ p, H p = none → Q (.ref p) (upd H p (.tup [.str (dueV n).1, (dueV n).2]))) :
    tIf (tTest (tOp (rI0 fun i j => V.bl (decide (i < j))) (tVar j) (tUn (rU fun i => V.int (-i)) (tC (V.int 1))))) (tTup (tCons (tC (.str "fine")) (tCons (tC .non) tNil))) (tTup (tCons (tC (.str "text")) (tCons (tVar j) tNil))) σ H Q := by
  refine (val_i0b (val_var h) (val_neg val_c)) _ ⟨_, rfl, ?_⟩
  unfold dueV at k
  by_cases c : n < -1
  · rw [show decide (n < -1) = true from decide_eq_true c]
    refine iteT ?_
    rw [if_pos c] at k
    exact ⟨by show 2 ≤ sizeLine; decide, k⟩
  · rw [show decide (n < -1) = false from decide_eq_false c]
    refine iteF ?_
    rw [if_neg c] at k
    exact (val_var h) _ ⟨by show 2 ≤ sizeLine; decide, k⟩
end
end K5
namespace K5
open PySem PySem.Spec PyProof.Rows L2
abbrev rJoin (K : PySem.W.Frag) : V → List V → Hp → VK → Prop := fun x xs H Q => ∃ a p, ∃ ys : List Str, x = .str a ∧ xs = [.ref p] ∧ (SqL K H p (ys.map V.str) ∨ SqT K H p (ys.map V.str)) ∧ (ys.map (·.length)).sum + ys.length * a.length ≤ 16777216 ∧ Q (.str (Txt.join a ys)) H
section
variable {K : PySem.W.Frag} {σ : L2.St} {H : Hp} {Q : VK}
theorem goodD_eqv {c p d z : Str} (h : SeqAt.shaped (goodD c p d z) = true) : PyData.eqv (goodD c p d z) (goodD c p d z) = true := SeqAt.eqv_refl _ (SeqAt.canLay_of_shaped h)
/-- (one.worths, ..) != (3, ((c, 1),), (p,), (d,), '\n'.join(good)) -/
theorem one_run {Pt a g da ct pt sd dt stp ak t0 : Addr} {l : List (Nat × Nat)} {c p d : Str} (CC : ClT K Pt) (h1 : σ[1]? = some (some (.str c))) (h2 : σ[2]? = some (some (.str p))) (h3 : σ[3]? = some (some (.str d))) (h8 : σ[8]? = some (some (.ref g))) (h9 : σ[9]? = some (some (.ref a)))
    (hi : H a = some (.ins Pt da (partF (.int 3) (.str (textI l)) ct pt sd dt stp ak))) (hct : H ct = some (.tup [.ref t0])) (ht : H t0 = some (.tup [.str c, .int 1])) (hpt : H pt = some (.tup [.str p])) (hdt : H dt = some (.tup [.str d])) (hg : LsAt H g (l.map rowS)) (inl : inF l = true) (few : l.length ≤ 100)
    (sh : SeqAt.shaped (goodD c p d (textI l)) = true) (k : ∀ H' : Hp, Same H H' → Q (.bl false) H') :
    tOp (rNeD K) (tTup (tCons (tFld K (tVar 9) "worths") (tCons (tFld K (tVar 9) "cells") (tCons (tFld K (tVar 9) "ports") (tCons (tFld K (tVar 9) "doors") (tCons (tFld K (tVar 9) "text") tNil))))))
      (tTup (tCons (tC (.int 3)) (tCons (tTup (tCons (tTup (tCons (tVar 1) (tCons (tC (.int 1)) tNil))) tNil)) (tCons (tTup (tCons (tVar 2) tNil)) (tCons (tTup (tCons (tVar 3) tNil)) (tCons (tBM K "str" (rJoin K) (tC (.str "\n")) (tCons (tVar 8) tNil)) tNil)))))) σ H Q := by
  dsimp only [tOp, tTup, tCons, tNil]
  refine (val_fld (val_var h9) hi CC.cl (CC.na _ (by decide +kernel)) pt_worths) _ ?_
  refine (val_fld (val_var h9) hi CC.cl (CC.na _ (by decide +kernel)) pt_cells) _ ?_
  refine (val_fld (val_var h9) hi CC.cl (CC.na _ (by decide +kernel)) pt_ports) _ ?_
  refine (val_fld (val_var h9) hi CC.cl (CC.na _ (by decide +kernel)) pt_doors) _ ?_
  refine (val_fld (val_var h9) hi CC.cl (CC.na _ (by decide +kernel)) pt_text) _ ?_
  refine ⟨by show 5 ≤ sizeLine; decide, fun q nq => ?_⟩
  have sq := same_upd (o := .tup [.int 3, .ref ct, .ref pt, .ref dt, .str (textI l)]) nq
  have hq : (upd H q (.tup [.int 3, .ref ct, .ref pt, .ref dt, .str (textI l)])) q = some (.tup [.int 3, .ref ct, .ref pt, .ref dt, .str (textI l)]) := upd_same
  have hct := sq _ _ hct
  have ht := sq _ _ ht
  have hpt := sq _ _ hpt
  have hdt := sq _ _ hdt
  have hg := sq _ _ hg
  generalize (upd H q (.tup [.int 3, .ref ct, .ref pt, .ref dt, .str (textI l)])) = H1 at sq hq hct ht hpt hdt hg
  refine val_c _ ?_
  refine (val_var h1) _ ?_
  refine val_c _ ?_
  refine ⟨by show 2 ≤ sizeLine; decide, fun q1 nq1 => ?_⟩
  have s1 := same_upd (o := .tup [.str c, .int 1]) nq1
  have hq1 : (upd H1 q1 (.tup [.str c, .int 1])) q1 = some (.tup [.str c, .int 1]) := upd_same
  generalize (upd H1 q1 (.tup [.str c, .int 1])) = H2 at s1 hq1
  refine ⟨by show 1 ≤ sizeLine; decide, fun q2 nq2 => ?_⟩
  have s2 := same_upd (o := .tup [.ref q1]) nq2
  have hq2 : (upd H2 q2 (.tup [.ref q1])) q2 = some (.tup [.ref q1]) := upd_same
  generalize (upd H2 q2 (.tup [.ref q1])) = H3 at s2 hq2
  refine (val_var h2) _ ?_
  refine ⟨by show 1 ≤ sizeLine; decide, fun q3 nq3 => ?_⟩
  have s3 := same_upd (o := .tup [.str p]) nq3
  have hq3 : (upd H3 q3 (.tup [.str p])) q3 = some (.tup [.str p]) := upd_same
  generalize (upd H3 q3 (.tup [.str p])) = H4 at s3 hq3
  refine (val_var h3) _ ?_
  refine ⟨by show 1 ≤ sizeLine; decide, fun q4 nq4 => ?_⟩
  have s4 := same_upd (o := .tup [.str d]) nq4
  have hq4 : (upd H4 q4 (.tup [.str d])) q4 = some (.tup [.str d]) := upd_same
  generalize (upd H4 q4 (.tup [.str d])) = H5 at s4 hq4
  have s14 : Same H1 H5 := s1.trans (s2.trans (s3.trans s4))
  refine join_run (j := 8) h8 (s14 _ _ hg) inl few ?_
  refine ⟨by show 5 ≤ sizeLine; decide, fun q5 nq5 => ?_⟩
  have s5 := same_upd (o := .tup [.int 3, .ref q2, .ref q3, .ref q4, .str (textI l)]) nq5
  have hq5 : (upd H5 q5 (.tup [.int 3, .ref q2, .ref q3, .ref q4, .str (textI l)])) q5 = some (.tup [.int 3, .ref q2, .ref q3, .ref q4, .str (textI l)]) := upd_same
  generalize (upd H5 q5 (.tup [.int 3, .ref q2, .ref q3, .ref q4, .str (textI l)])) = H6 at s5 hq5
  have s16 := s14.trans s5
  have d1 : Dp K H6 (.ref q) (goodD c p d (textI l)) := .tup (SqT.of (s16 _ _ hq)) (.cons (.int 3) (.cons (.tup (SqT.of (s16 _ _ hct)) (.cons (.tup (SqT.of (s16 _ _ ht)) (.cons (.str c) (.cons (.int 1) .nil))) .nil)) (.cons (.tup (SqT.of (s16 _ _ hpt)) (.cons (.str p) .nil)) (.cons (.tup (SqT.of (s16 _ _ hdt)) (.cons (.str d) .nil)) (.cons (.str _) .nil)))))
  have d2 : Dp K H6 (.ref q5) (goodD c p d (textI l)) := .tup (SqT.of hq5) (.cons (.int 3) (.cons (.tup (SqT.of (s5 _ _ (s4 _ _ (s3 _ _ hq2)))) (.cons (.tup (SqT.of (s5 _ _ (s4 _ _ (s3 _ _ (s2 _ _ hq1))))) (.cons (.str c) (.cons (.int 1) .nil))) .nil)) (.cons (.tup (SqT.of (s5 _ _ (s4 _ _ hq3))) (.cons (.str p) .nil)) (.cons (.tup (SqT.of (s5 _ _ hq4)) (.cons (.str d) .nil)) (.cons (.str _) .nil)))))
  refine ⟨goodD c p d (textI l), goodD c p d (textI l), d1, d2, sh, sh, ?_⟩
  rw [goodD_eqv sh]
  exact k H6 (sq.trans s16)
end
end K5
namespace K5
open PySem PySem.Spec PyProof.Rows L2
theorem kd_keep {H H' : Hp} {P : Addr} {x : V} {T : String} (t : GxR.TabG H P) (k : KeepT P H H') (h : Kd H x T) : Kd H' x T := by
  cases h with
  | non => exact .non
  | bl b => exact .bl b
  | int i => exact .int i
  | str z => exact .str z
  | lst h => exact .lst (k _ _ (tab_ne t h fun ps e => nomatch e) h)
  | tup h => exact .tup (k _ _ (tab_ne t h fun ps e => nomatch e) h)
  | dK h => exact .dK (k _ _ (tab_ne t h fun ps e => nomatch e) h)
theorem heard_no {x : V} (h : isS x = false) : heardV (.int 2) x = (("text" : Str), .int (-1)) := by
  have w : ∀ a b : Str × V, (if worthsOk (.int 2) = true then a else b) = a := fun a b => if_pos (by decide)
  cases x with
  | str z => exact absurd (show true = false from h) (fun e => nomatch e)
  | _ => exact w _ (("worths" : Str), V.int 2)
def noD : PyData := .list (List.replicate 7 (.tuple [.str "text", .int (-1)]))
theorem noD_shaped : SeqAt.shaped noD = true := by decide +kernel
theorem dp_all {K : PySem.W.Frag} {H : Hp} {d : PyData} : ∀ {ys : List V}, (∀ y ∈ ys, Dp K H y d) → DpAll K H ys (List.replicate ys.length d)
  | [], _ => .nil
  | y :: ys, h => .cons (h y (List.mem_cons_self ..)) (dp_all fun z hz => h z (List.mem_cons_of_mem _ hz))
section
variable {K : PySem.W.Frag} {σ : L2.St} {H : Hp} {Q : VK} {TB : Addr}
/-- [heard(2, x) for x in xs] != [('text', -1)] * len(xs) -/
theorem some_run {L : Addr} {xs : List V} (hw : ∀ x, wipe ((wipe σ [12]).set 12 (some x)) [12] = wipe σ [12]) (h12 : ∀ x, ((wipe σ [12]).set 12 (some x))[12]? = some (some x)) (hL : σ[10]? = some (some (.ref L))) (hl : H L = some (.lst xs)) (l7 : xs.length = 7)
    (kd : ∀ x ∈ xs, (∃ T, Kd H x T) ∧ isS x = false) (tab : GxR.TabG H TB) (k : ∀ H' : Hp, KeepT TB H H' → GxR.TabG H' TB → Q (.bl false) H') :
    tOp (rNeD K) (tLc (iList K (tVar 10)) (gName 12) tYes (tCall (spHeard TB) [] E0 (tCons (tC (.int 2)) (tCons (tVar 12) tNil))) [12]) (tOp rRep (tLst (tCons (tTup (tCons (tC (.str "text")) (tCons (tUn (rU fun i => .int (-i)) (tC (.int 1))) tNil))) tNil)) (tCB (rLenSq K) (tCons (tVar 10) tNil))) σ H Q := by
  dsimp only [tOp, tLc, iList]
  refine (val_var hL) _ ?_
  refine ⟨L, rfl, ⟨_, SqL.of hl⟩, fun D nD => ?_⟩
  have LT : L ≠ TB := tab_ne tab hl fun ps e => nomatch e
  have DT : D ≠ TB := fun e => by
    obtain ⟨ps, t1, _⟩ := tab
    rw [e, t1] at nD
    cases nD
  have LD : L ≠ D := ne_of_none hl nD
  refine lc_list (K := K) (a := L) (xs := xs) (fun i H' => KeepT TB H H' ∧ GxR.TabG H' TB ∧ ∃ ys : List Addr, H' D = some (.lst (ys.map V.ref)) ∧ ys.length = i ∧ ∀ y ∈ ys, H' y = some (.tup [.str "text", .int (-1)])) ?_ (fun i H' _ h => SqL.of (h.1 _ _ LT hl)) (fun i x H' hx h => ?_) fun H' h => ?_
  · exact ⟨fun b o _ e => by rw [upd_ne (ne_of_none e nD)]; exact e, TabG.keep tab (same_upd nD), [], upd_same, rfl, fun y hy => nomatch hy⟩
  · obtain ⟨k1, t1, ys, hD, ly, hy⟩ := h
    obtain ⟨⟨T, kx⟩, nx⟩ := kd x (List.mem_of_getElem? hx)
    have lt := (List.getElem?_eq_some_iff.mp hx).1
    refine ⟨hw _, ?_⟩
    dsimp only [tYes]
    rw [if_pos rfl]
    dsimp only [tCall, tCons, tNil]
    refine val_c _ ?_
    refine (val_var (h12 x)) _ ?_
    refine ⟨.int 2, x, _, _, rfl, .int 2, kd_keep tab k1 kx, t1, fun z e => by rw [e] at nx; exact absurd (show true = false from nx) (fun c => nomatch c), fun H5 p5 k5 t5 n5 h5 => ?_⟩
    rw [heard_no nx] at h5
    have hD5 := k5 _ _ DT hD
    have sb : ∀ b o, b ≠ D → H5 b = some o → (upd H5 D (.lst (ys.map V.ref ++ [.ref p5]))) b = some o := fun b o n e => by
      rw [upd_ne n]
      exact e
    have nTD : ∀ {b : Addr} {zs : List V}, H5 b = some (.tup zs) → b ≠ D := fun e => ne_of e hD5 fun c => nomatch c
    refine ⟨_, hD5, small1000 (by rw [List.length_map]; omega), fun b o n e => ?_, ?_, ys ++ [p5], by rw [upd_same, List.map_append]; rfl, by rw [List.length_append, ly]; rfl, fun y hy2 => ?_⟩
    · by_cases c : b = D
      · rw [c, nD] at e
        cases e
      · exact sb b o c (k5 b o n (k1 b o n e))
    · obtain ⟨ps, a1, a2⟩ := t5
      exact ⟨ps, sb _ _ DT.symm a1, a2⟩
    · rcases List.mem_append.mp hy2 with hy2 | hy2
      · have e := hy y hy2
        have e5 := k5 y _ (tab_ne t1 e fun ps c => nomatch c) e
        exact sb _ _ (nTD e5) e5
      · rw [List.mem_singleton.mp hy2]
        exact sb _ _ (nTD h5) h5
  · obtain ⟨k1, t1, ys, hD, ly, hy⟩ := h
    dsimp only [tOp, tLst, tTup, tCB, tCons, tNil]
    refine val_c _ ?_
    refine (show Val (tUn (rU fun i => .int (-i)) (tC (.int 1))) σ H' (.int (-1)) from val_neg val_c) _ ?_
    refine ⟨by show 2 ≤ sizeLine; decide, fun t nt => ?_⟩
    have s1 := same_upd (o := .tup [.str "text", .int (-1)]) nt
    have ht : (upd H' t (.tup [.str "text", .int (-1)])) t = some (.tup [.str "text", .int (-1)]) := upd_same
    generalize (upd H' t (.tup [.str "text", .int (-1)])) = H1 at s1 ht
    refine ⟨by show 1 ≤ sizeLine; decide, fun u nu => ?_⟩
    have s2 := same_upd (o := .lst [.ref t]) nu
    have hu : (upd H1 u (.lst [.ref t])) u = some (.lst [.ref t]) := upd_same
    generalize (upd H1 u (.lst [.ref t])) = H2 at s2 hu
    refine (val_var hL) _ ⟨L, xs, rfl, .inl (SqL.of (s2 _ _ (s1 _ _ (k1 _ _ LT hl)))), ?_⟩
    rw [l7]
    refine ⟨u, 7, [.ref t], rfl, rfl, hu, by decide, by decide, by show 1 * 7 ≤ sizeLine; decide, fun v nv => ?_⟩
    have s3 := same_upd (o := .lst (List.replicate (7 : Int).toNat [V.ref t]).flatten) nv
    have hv : (upd H2 v (.lst (List.replicate (7 : Int).toNat [V.ref t]).flatten)) v = some (.lst (List.replicate (7 : Int).toNat [V.ref t]).flatten) := upd_same
    generalize (upd H2 v (.lst (List.replicate (7 : Int).toNat [V.ref t]).flatten)) = H3 at s3 hv
    have s13 : Same H' H3 := s1.trans (s2.trans s3)
    have one : ∀ {y : Addr}, H3 y = some (.tup [.str "text", .int (-1)]) → Dp K H3 (.ref y) (.tuple [.str "text", .int (-1)]) := fun h => .tup (SqT.of h) (.cons (.str _) (.cons (.int _) .nil))
    have d1 : Dp K H3 (.ref D) noD := by
      refine .lst (SqL.of (s13 _ _ hD)) ?_
      have q := dp_all (K := K) (H := H3) (d := .tuple [.str "text", .int (-1)]) (ys := ys.map V.ref) fun y hy2 => by
        obtain ⟨z, hz, rfl⟩ := List.mem_map.mp hy2
        exact one (s13 _ _ (hy z hz))
      rw [List.length_map, ly, l7] at q
      exact q
    have ht3 := one (s3 _ _ (s2 _ _ ht))
    have d2 : Dp K H3 (.ref v) noD := .lst (SqL.of hv) (.cons ht3 (.cons ht3 (.cons ht3 (.cons ht3 (.cons ht3 (.cons ht3 (.cons ht3 .nil)))))))
    refine ⟨noD, noD, d1, d2, noD_shaped, noD_shaped, ?_⟩
    rw [SeqAt.eqv_refl _ (SeqAt.canLay_of_shaped noD_shaped)]
    exact k H3 (fun b o n e => s13 _ _ (k1 b o n e)) (TabG.keep t1 s13)
end
end K5
namespace K5
open PySem PySem.Spec PyProof.Rows L2
/-- the odd things that are tried as numbers of worths -/
inductive OddAt (H : Hp) : V → PyData → Prop
  | non : OddAt H .non .none
  | bl (b : Bool) : OddAt H (.bl b) (.bool b)
  | int (i : Int) (h : worthsOk (.int i) = false) : OddAt H (.int i) (.int i)
  | str (z : Str) : OddAt H (.str z) (.str z)
  | tup {a : Addr} {i : Int} (h : H a = some (.tup [.int i])) : OddAt H (.ref a) (.tuple [.int i])
  | lst {a : Addr} {i : Int} (h : H a = some (.lst [.int i])) : OddAt H (.ref a) (.list [.int i])
  | dct {a : Addr} (h : H a = some (.dK [])) : OddAt H (.ref a) (.dict [])
theorem OddAt.keep {H H' : Hp} {P : Addr} {x : V} {d : PyData} (t : GxR.TabG H P) (k : KeepT P H H') (h : OddAt H x d) : OddAt H' x d := by
  cases h with
  | non => exact .non
  | bl b => exact .bl b
  | int i h => exact .int i h
  | str z => exact .str z
  | lst h => exact .lst (k _ _ (tab_ne t h fun ps e => nomatch e) h)
  | tup h => exact .tup (k _ _ (tab_ne t h fun ps e => nomatch e) h)
  | dct h => exact .dct (k _ _ (tab_ne t h fun ps e => nomatch e) h)
theorem OddAt.kd {H : Hp} {x : V} {d : PyData} (h : OddAt H x d) : ∃ T, Kd H x T := by
  cases h with
  | non => exact ⟨_, .non⟩
  | bl b => exact ⟨_, .bl b⟩
  | int i h => exact ⟨_, .int i⟩
  | str z => exact ⟨_, .str z⟩
  | lst h => exact ⟨_, .lst h⟩
  | tup h => exact ⟨_, .tup h⟩
  | dct h => exact ⟨_, .dK h⟩
theorem OddAt.sd {K : PySem.W.Frag} {H : Hp} {x : V} {d : PyData} (h : OddAt H x d) : Sd K H x d := by
  cases h with
  | non => exact .dp .non rfl
  | bl b => exact .dp (.bl b) rfl
  | int i h => exact .dp (.int i) rfl
  | str z => exact .dp (.str z) rfl
  | lst h => exact .dp (.lst (SqL.of h) (.cons (.int _) .nil)) rfl
  | tup h => exact .dp (.tup (SqT.of h) (.cons (.int _) .nil)) rfl
  | dct h => exact .dk h
theorem OddAt.heard {H : Hp} {x : V} {d : PyData} (h : OddAt H x d) (y : V) : heardV x y = (("worths" : Str), x) := by
  cases h with
  | int i h =>
    show (if worthsOk (.int i) = true then _ else (("worths" : Str), V.int i)) = _
    rw [h]
    exact if_neg (fun e => nomatch e)
  | _ => rfl
def wo (d : PyData) : PyData := .tuple [.str "worths", d]
def fitW (d : PyData) : Bool := (wo d).showable && (decide ((wo d).shown.length ≤ 1000) && decide ((wo d).depth ≤ 50))
def oddD : List PyData := [.none, .bool true, .bool false, .int 0, .int 1, .int 5, .int (-2), .str "2", .tuple [.int 2], .list [.int 3], .dict []]
theorem oddD_fit : oddD.all fitW = true := by decide +kernel
def oddS : PyData := .list (oddD.map fun d => .str (wo d).shown)
theorem oddS_shaped : SeqAt.shaped oddS = true := by decide +kernel
section
variable {K : PySem.W.Frag} {σ : L2.St} {H : Hp} {Q : VK} {TB : Addr}
/-- repr(('worths', x)) -/
theorem rep_wo {p : Addr} {x : V} {d : PyData} (hx : OddAt H x d) (hp : H p = some (.tup [.str "worths", x])) (f : fitW d = true) (q : Q (.str (wo d).shown) H) : rRepr K [.ref p] H Q := by
  unfold fitW at f
  rw [Bool.and_eq_true, Bool.and_eq_true] at f
  exact ⟨p, wo d, rfl, .inr ⟨"worths", x, d, SqT.of hp, hx.sd, rfl⟩, f.1, Nat.le_trans (of_decide_eq_true f.2.1) (by decide), of_decide_eq_true f.2.2, q⟩
/-- a list of texts is made, one for each of the odd things -/
theorem odd_comp {L : Addr} {xs : List V} {ds : List PyData} {te : TE} (hw : ∀ x, wipe ((wipe σ [12]).set 12 (some x)) [12] = wipe σ [12]) (h12 : ∀ x, ((wipe σ [12]).set 12 (some x))[12]? = some (some x)) (hL : σ[11]? = some (some (.ref L))) (hl : H L = some (.lst xs)) (od : Paired (OddAt H) xs ds) (few : xs.length ≤ 100)
    (tab : GxR.TabG H TB) (turn : ∀ (σ2 : L2.St) (x : V) (d : PyData) (H' : Hp) (R : VK), σ2[12]? = some (some x) → d ∈ ds → OddAt H' x d → GxR.TabG H' TB → (∀ H5 : Hp, KeepT TB H' H5 → GxR.TabG H5 TB → R (.str (wo d).shown) H5) → te σ2 H' R)
    (k : ∀ (H' : Hp) (D : Addr), KeepT TB H H' → GxR.TabG H' TB → H' D = some (.lst ((ds.map fun d => (wo d).shown).map V.str)) → Q (.ref D) H') : tLc (iList K (tVar 11)) (gName 12) tYes te [12] σ H Q := by
  dsimp only [tLc, iList]
  refine (val_var hL) _ ?_
  refine ⟨L, rfl, ⟨_, SqL.of hl⟩, fun D nD => ?_⟩
  have LT : L ≠ TB := tab_ne tab hl fun ps e => nomatch e
  have DT : D ≠ TB := fun e => by
    obtain ⟨ps, t1, _⟩ := tab
    rw [e, t1] at nD
    cases nD
  refine lc_list (K := K) (a := L) (xs := xs) (fun i H' => KeepT TB H H' ∧ GxR.TabG H' TB ∧ H' D = some (.lst (((ds.take i).map fun d => (wo d).shown).map V.str))) ?_ (fun i H' _ h => SqL.of (h.1 _ _ LT hl)) (fun i x H' hx h => ?_) fun H' h => ?_
  · exact ⟨fun b o _ e => by rw [upd_ne (ne_of_none e nD)]; exact e, TabG.keep tab (same_upd nD), upd_same⟩
  · obtain ⟨k1, t1, hD⟩ := h
    obtain ⟨d, hd, ho⟩ := paired_getL od hx
    have lt := (List.getElem?_eq_some_iff.mp hx).1
    refine ⟨hw _, ?_⟩
    dsimp only [tYes]
    rw [if_pos rfl]
    refine turn _ x d H' _ (h12 x) (List.mem_of_getElem? hd) (ho.keep tab k1) t1 fun H5 k5 t5 => ?_
    have hD5 := k5 _ _ DT hD
    refine ⟨_, hD5, ?_, fun b o n e => ?_, ?_, ?_⟩
    · rw [List.length_map, List.length_map]
      exact small1000 (Nat.le_trans (List.length_take_le ..) (by omega))
    · by_cases c : b = D
      · rw [c, nD] at e
        cases e
      · rw [upd_ne c]
        exact k5 b o n (k1 b o n e)
    · obtain ⟨ps, a1, a2⟩ := t5
      exact ⟨ps, by rw [upd_ne DT.symm]; exact a1, a2⟩
    · rw [upd_same, take_snoc hd, List.map_append, List.map_append]
      rfl
  · obtain ⟨k1, t1, hD⟩ := h
    rw [show xs.length = ds.length from Paired.length od, List.take_length] at hD
    exact k H' D k1 t1 hD
theorem dp_strs {l : List Str} : DpAll K H (l.map V.str) (l.map PyData.str) := by
  induction l with
  | nil => exact .nil
  | cons z l ih => exact .cons (.str z) ih
theorem paired_impM {α β : Type} {F G : α → β → Prop} : ∀ {xs : List α} {ys : List β}, Paired F xs ys → (∀ x y, F x y → G x y) → Paired G xs ys
  | _, _, .nil, _ => .nil
  | _, _, .cons h t, f => .cons (f _ _ h) (paired_impM t f)
/-- [repr(heard(x, 7)) for x in xs] == [repr(('worths', x)) for x in xs] -/
theorem odd_run {L : Addr} {xs : List V} (hw : ∀ x, wipe ((wipe σ [12]).set 12 (some x)) [12] = wipe σ [12]) (h12 : ∀ x, ((wipe σ [12]).set 12 (some x))[12]? = some (some x)) (hL : σ[11]? = some (some (.ref L))) (hl : H L = some (.lst xs)) (od : Paired (OddAt H) xs oddD) (tab : GxR.TabG H TB)
    (k : ∀ H' : Hp, KeepT TB H H' → GxR.TabG H' TB → Q (.bl true) H') :
    tOp (rEqD K) (tLc (iList K (tVar 11)) (gName 12) tYes (tCB (rRepr K) (tCons (tCall (spHeard TB) [] E0 (tCons (tVar 12) (tCons (tC (.int 7)) tNil))) tNil)) [12]) (tLc (iList K (tVar 11)) (gName 12) tYes (tCB (rRepr K) (tCons (tTup (tCons (tC (.str "worths")) (tCons (tVar 12) tNil))) tNil)) [12]) σ H Q := by
  have len : xs.length = 11 := Paired.length od
  have fit : ∀ d ∈ oddD, fitW d = true := fun d hd => List.all_eq_true.mp oddD_fit d hd
  have LT : L ≠ TB := tab_ne tab hl fun ps e => nomatch e
  dsimp only [tOp]
  refine odd_comp hw h12 hL hl od (by omega) tab (fun σ2 x d H' R h2 hd hx t1 kk => ?_) fun H1 D1 k1 t1 hD1 => ?_
  · dsimp only [tCB, tCall, tCons, tNil]
    refine (val_var h2) _ ?_
    refine val_c _ ?_
    obtain ⟨T, kx⟩ := hx.kd
    refine ⟨x, .int 7, _, _, rfl, kx, .int 7, t1, (fun z e => nomatch e), fun H5 p5 k5 t5 n5 h5 => ?_⟩
    rw [hx.heard] at h5
    exact rep_wo (hx.keep t1 k5) h5 (fit d hd) (kk H5 k5 t5)
  · refine odd_comp hw h12 hL (k1 _ _ LT hl) (paired_impM od fun x d h => h.keep tab k1) (by omega) t1 (fun σ2 x d H' R h2 hd hx t2 kk => ?_) fun H2 D2 k2 t2 hD2 => ?_
    · dsimp only [tCB, tTup, tCons, tNil]
      refine val_c _ ?_
      refine (val_var h2) _ ?_
      refine ⟨by show 2 ≤ sizeLine; decide, fun p np => ?_⟩
      have sp := same_upd (o := .tup [.str "worths", x]) np
      exact rep_wo (hx.keep t2 fun b o _ e => sp b o e) upd_same (fit d hd) (kk _ (fun b o _ e => sp b o e) (TabG.keep t2 sp))
    · have DT : D1 ≠ TB := tab_ne t1 hD1 fun ps e => nomatch e
      have e : oddS = .list ((oddD.map fun d => (wo d).shown).map PyData.str) := by
        unfold oddS
        rw [List.map_map]
        rfl
      have d1 : Dp K H2 (.ref D1) oddS := by
        rw [e]
        exact .lst (SqL.of (k2 _ _ DT hD1)) dp_strs
      have d2 : Dp K H2 (.ref D2) oddS := by
        rw [e]
        exact .lst (SqL.of hD2) dp_strs
      refine ⟨oddS, oddS, d1, d2, oddS_shaped, oddS_shaped, ?_⟩
      rw [SeqAt.eqv_refl _ (SeqAt.canLay_of_shaped oddS_shaped)]
      exact k H2 (fun b o n e => k2 b o n (k1 b o n e)) t2
end
end K5
namespace K5
open PySem PySem.Spec PyProof.Rows L2
abbrev s__law_right : Stmt := topS 35
theorem sc__law_right : FnScope ["_law_box_here", "_law_c", "_law_p", "_law_d", "_law_lines_here", "_law_due", "_law_heard_here", "_law_page", "_law_good", "_law_one", "_law_some_here", "_law_odd", "_law_thing"] ["_law_box_here"] (defScope s__law_right) := ⟨rfl, rfl, rfl, by decide +kernel, rfl, by decide +kernel, by decide +kernel⟩
def spRight (TB : Addr) : Sp := fun vs H Q _ => ∃ (b : Addr) (p q n : Int), vs = [.ref b] ∧ H b = some (.lst (bx p q n)) ∧ Box p q n ∧ n < 1000 ∧ GxR.TabG H TB ∧ ∀ H' : Hp, (∀ x o, x ≠ TB → x ≠ b → H x = some o → H' x = some o) → GxR.TabG H' TB → Q (.bl true) H'
/-- what _law_right calls -/
structure Rk (P : Program) (w : World) (K : PySem.W.Frag) (mg : Str → Option Value) (base : Heap) (TB Pt CT CW : Addr) (fS fH fC fD fW fE fP : Addr) (dS dH dC dD dW dE dP : FuncData) : Prop where
  B : Bt mg
  Ds : Df K mg "_law_some" s__law_some fS dS ["_law_box_here", "_law_items", "_law_many"]
  Gs : FnOk P w K mg base CX0 2 fS dS ["_law_box_here", "_law_items", "_law_many"] (spSome K)
  Dh : Df K mg "_law_head" s__law_head fH dH ["_law_c", "_law_p"]
  Gh : FnOk P w K mg base CX0 1 fH dH ["_law_c", "_law_p"] spLawHead
  Dc : Df K mg "_law_counts" s__law_counts fC dC ["_law_c", "_law_p", "_law_d"]
  Gc : FnOk P w K mg base CX0 1 fC dC ["_law_c", "_law_p", "_law_d"] (spCases countsC)
  Dd : Df K mg "_law_depths" s__law_depths fD dD ["_law_c", "_law_p", "_law_d"]
  Gd : FnOk P w K mg base CX0 2 fD dD ["_law_c", "_law_p", "_law_d"] (spCases depthsC)
  Dw : Df K mg "_law_words" s__law_words fW dW ["_law_c", "_law_p", "_law_d"]
  Gw : FnOk P w K mg base CX0 2 fW dW ["_law_c", "_law_p", "_law_d"] (spCases wordsC)
  De : Df K mg "_law_heard" s__law_heard fE dE ["_law_many", "_law_page"]
  Ge : FnOk P w K mg base (L2.CX P w) 24 fE dE ["_law_many", "_law_page"] (spHeard TB)
  MP : Mk K Pt fP
  gP : mg "Part" = some (.ref Pt)
  bP : Binds K dP ["self", "worths", "text"] []
  GP : FnOk P w K mg base (L2.CX P w) 22 fP dP ["self", "worths", "text"] (spPart TB Pt CT CW)
  CC : ClT K Pt
section
variable {P : Program} {w : World} {K : PySem.W.Frag} {mg : Str → Option Value} {base : Heap} {TB Pt CT CW : Addr} {fS fH fC fD fW fE fP : Addr} {dS dH dC dD dW dE dP : FuncData}
theorem ok_right (RT : RowsT) (TT : TripT) {f : Addr} {fd : FuncData} (R : Rk P w K mg base TB Pt CT CW fS fH fC fD fW fE fP dS dH dC dD dW dE dP) (D : Df K mg "_law_right" s__law_right f fd ["_law_box_here"]) : FnG P w K mg base (L2.CX P w) 25 f fd ["_law_box_here"] (spRight TB) := by
  refine okG D.F sc__law_right (fun vs H Q E h => ?_) (fun cdv A outer s H vs Q E gu hr h => ?_)
  · obtain ⟨b, p, q, n, rfl, _⟩ := h
    rfl
  · obtain ⟨b, p, q, n, rfl, hb, Bx, few, tab, k⟩ := h
    have S := sc__law_right
    have hu := hr.units
    refine ⟨_, (pss_cons (ps_asg (pe_call R.Gs (hr.mono (by decide)) (by rfl) R.Ds.g R.Ds.F.kp R.Ds.b .nil pass0 (pa_cons (pv 0) (pa_cons (pe_lst (pa_cons pe_str (pa_cons pe_str (pa_cons pe_str (pa_cons pe_str (pa_cons pe_str (pa_cons pe_str (pa_cons pe_str pa_nil)))))))) (pa_cons pe_int pa_nil)))) (pg_unl (by rfl) (pgs_cons (pg_name (i := 1) S.nd rfl (.inl rfl)) (pgs_cons (pg_name (i := 2) S.nd rfl (.inl rfl)) (pgs_cons (pg_name (i := 3) S.nd rfl (.inl rfl)) pgs_nil)))))
      (pss_cons (ps_for (passes_of rfl) rfl (pi_list (pe_op op_cat (pe_op op_cat (pe_call R.Gc (hr.mono (by decide)) (by rfl) R.Dc.g R.Dc.F.kp R.Dc.b .nil pass0 (pa_cons (pv 1) (pa_cons (pv 2) (pa_cons (pv 3) pa_nil)))) (pe_call R.Gd (hr.mono (by decide)) (by rfl) R.Dd.g R.Dd.F.kp R.Dd.b .nil pass0 (pa_cons (pv 1) (pa_cons (pv 2) (pa_cons (pv 3) pa_nil))))) (pe_call R.Gw (hr.mono (by decide)) (by rfl) R.Dw.g R.Dw.F.kp R.Dw.b .nil pass0 (pa_cons (pv 1) (pa_cons (pv 2) (pa_cons (pv 3) pa_nil)))))) (pg_tup (by rfl) (pgs_cons (pg_name (i := 4) S.nd rfl (.inl rfl)) (pgs_cons (pg_name (i := 5) S.nd rfl (.inl rfl)) pgs_nil)))
        (pss_cons (ps_par (i := 6) (j := 7) (by rfl) S.nd rfl rfl (by decide) rfl rfl (pa_cons (pe_ifExp (pt_cmpR op_lt (pv 5) (pe_un un_neg pe_int) (nomark _)) (pe_tup (pa_cons pe_str (pa_cons pe_non pa_nil))) (pe_tup (pa_cons pe_str (pa_cons (pv 5) pa_nil)))) (pa_cons (pe_bm PySem.F.plainAttrs_str PySem.F.slot_str_join PySem.F.type_str_join mt_join pe_str (pa_cons (pv 4) pa_nil)) pa_nil)) (by rfl))
        (pss_one (ps_if (pt_cmpR op_ne (pe_callB (by refine call_reprK (K := K) rfl ?_ ?_ <;> first | exact gu | exact hu) (by rfl) R.B.m_repr PyProof.Rows.boot_repr (pa_cons (pe_call R.Ge (hr.mono (by decide)) (by rfl) R.De.g R.De.F.kp R.De.b .nil passL (pa_cons pe_int (pa_cons (pv 7) pa_nil))) pa_nil)) (pe_callB (by refine call_reprK (K := K) rfl ?_ ?_ <;> first | exact gu | exact hu) (by rfl) R.B.m_repr PyProof.Rows.boot_repr (pa_cons (pv 6) pa_nil)) (nomark _))
          (pss_one (ps_ret pe_bl))
          pss_nil))))
      (pss_cons (ps_set (i := 8) S.nd rfl (.inl rfl) (pe_op op_cat (pe_call R.Gh (hr.mono (by decide)) (by rfl) R.Dh.g R.Dh.F.kp R.Dh.b .nil pass0 (pa_cons (pv 1) (pa_cons (pv 2) pa_nil))) (pe_lst (pa_cons (pe_op op_add_str pe_str (pv 3)) (pa_cons (pe_op op_add_str (pe_op op_add_str (pe_op op_add_str pe_str (pv 2)) pe_str) (pv 1)) (pa_cons pe_str pa_nil))))))
      (pss_cons (ps_set (i := 9) S.nd rfl (.inl rfl) (pe_make R.MP R.GP (hr.mono (by decide)) (by rfl) R.gP R.bP .nil passL (pa_cons pe_int (pa_cons (pe_bm PySem.F.plainAttrs_str PySem.F.slot_str_join PySem.F.type_str_join mt_join pe_str (pa_cons (pv 8) pa_nil)) pa_nil))))
      (pss_cons (ps_if (pt_cmpR (op_neD (by exact hu)) (pe_tup (pa_cons (pe_fld (pv 9) rfl) (pa_cons (pe_fld (pv 9) rfl) (pa_cons (pe_fld (pv 9) rfl) (pa_cons (pe_fld (pv 9) rfl) (pa_cons (pe_fld (pv 9) rfl) pa_nil)))))) (pe_tup (pa_cons pe_int (pa_cons (pe_tup (pa_cons (pe_tup (pa_cons (pv 1) (pa_cons pe_int pa_nil))) pa_nil)) (pa_cons (pe_tup (pa_cons (pv 2) pa_nil)) (pa_cons (pe_tup (pa_cons (pv 3) pa_nil)) (pa_cons (pe_bm PySem.F.plainAttrs_str PySem.F.slot_str_join PySem.F.type_str_join mt_join pe_str (pa_cons (pv 8) pa_nil)) pa_nil)))))) (nomark _))
        (pss_one (ps_ret pe_bl))
        pss_nil)
      (pss_cons (ps_set (i := 10) S.nd rfl (.inl rfl) (pe_lst (pa_cons pe_non (pa_cons pe_bl (pa_cons pe_int (pa_cons (pe_tup (pa_cons pe_str pa_nil)) (pa_cons (pe_lst (pa_cons pe_str (pa_cons pe_str pa_nil))) (pa_cons pe_dnewK (pa_cons pe_int pa_nil)))))))))
      (pss_cons (ps_if (pt_cmpR (op_neD (by exact hu)) (pe_lc (own := [("_law_thing", 12)]) (g := gName 12) (tt := tYes) rfl S.nd (pi_list (pv 10)) (blkOk_by (own := [("_law_thing", 12)]) (N := ["_law_box_here", "_law_c", "_law_p", "_law_d", "_law_lines_here", "_law_due", "_law_heard_here", "_law_page", "_law_good", "_law_one", "_law_some_here", "_law_odd", "_law_thing"]) (sc := defScope s__law_right) (by decide +kernel)) (fun _ _ _ _ _ => pg_name (i := 12) S.nd rfl (Or.inl rfl)) (fun _ _ _ _ _ => pts_nil) (fun _ _ _ _ _ => pe_call R.Ge (hr.mono (by decide)) (by rfl) R.De.g R.De.F.kp R.De.b .nil passL (pa_cons pe_int (pa_cons (pv 12) pa_nil)))) (pe_op op_rep (pe_lst (pa_cons (pe_tup (pa_cons pe_str (pa_cons (pe_un un_neg pe_int) pa_nil))) pa_nil)) (pe_callB call_len_seq (by rfl) R.B.m_len PySem.boot_len (pa_cons (pv 10) pa_nil))) (nomark _))
        (pss_one (ps_ret pe_bl))
        pss_nil)
      (pss_cons (ps_set (i := 11) S.nd rfl (.inl rfl) (pe_lst (pa_cons pe_non (pa_cons pe_bl (pa_cons pe_bl (pa_cons pe_int (pa_cons pe_int (pa_cons pe_int (pa_cons (pe_un un_neg pe_int) (pa_cons pe_str (pa_cons (pe_tup (pa_cons pe_int pa_nil)) (pa_cons (pe_lst (pa_cons pe_int pa_nil)) (pa_cons pe_dnewK pa_nil)))))))))))))
      (pss_one (ps_ret (pe_cmpR (op_eqD (by exact hu)) (pe_lc (own := [("_law_thing", 12)]) (g := gName 12) (tt := tYes) rfl S.nd (pi_list (pv 11)) (blkOk_by (own := [("_law_thing", 12)]) (N := ["_law_box_here", "_law_c", "_law_p", "_law_d", "_law_lines_here", "_law_due", "_law_heard_here", "_law_page", "_law_good", "_law_one", "_law_some_here", "_law_odd", "_law_thing"]) (sc := defScope s__law_right) (by decide +kernel)) (fun _ _ _ _ _ => pg_name (i := 12) S.nd rfl (Or.inl rfl)) (fun _ _ _ _ _ => pts_nil) (fun _ _ _ _ _ => pe_callB (by refine call_reprK (K := K) rfl ?_ ?_ <;> first | exact gu | exact hu) (by rfl) R.B.m_repr PyProof.Rows.boot_repr (pa_cons (pe_call R.Ge (hr.mono (by decide)) (by rfl) R.De.g R.De.F.kp R.De.b .nil passL (pa_cons (pv 12) (pa_cons pe_int pa_nil))) pa_nil))) (pe_lc (own := [("_law_thing", 12)]) (g := gName 12) (tt := tYes) rfl S.nd (pi_list (pv 11)) (blkOk_by (own := [("_law_thing", 12)]) (N := ["_law_box_here", "_law_c", "_law_p", "_law_d", "_law_lines_here", "_law_due", "_law_heard_here", "_law_page", "_law_good", "_law_one", "_law_some_here", "_law_odd", "_law_thing"]) (sc := defScope s__law_right) (by decide +kernel)) (fun _ _ _ _ _ => pg_name (i := 12) S.nd rfl (Or.inl rfl)) (fun _ _ _ _ _ => pts_nil) (fun _ _ _ _ _ => pe_callB (by refine call_reprK (K := K) rfl ?_ ?_ <;> first | exact gu | exact hu) (by rfl) R.B.m_repr PyProof.Rows.boot_repr (pa_cons (pe_tup (pa_cons pe_str (pa_cons (pv 12) pa_nil))) pa_nil))) (nomark _)))))))))))), ?_⟩
    have h1 : LV _ (start ["_law_box_here", "_law_c", "_law_p", "_law_d", "_law_lines_here", "_law_due", "_law_heard_here", "_law_page", "_law_good", "_law_one", "_law_some_here", "_law_odd", "_law_thing"] [.ref b]) H ["n", "set", "ask", "cell", "z", "while", "else"] := LV.lst (AV.cons (SN.k (z := "n") (by decide +kernel)) (AV.cons (SN.k (z := "set") (by decide +kernel)) (AV.cons (SN.k (z := "ask") (by decide +kernel)) (AV.cons (SN.k (z := "cell") (by decide +kernel)) (AV.cons (SN.k (z := "z") (by decide +kernel)) (AV.cons (SN.k (z := "while") (by decide +kernel)) (AV.cons (SN.k (z := "else") (by decide +kernel)) AV.nil))))))) (by decide)
    dsimp only [tSeq, tAsg]
    refine ⟨_, rfl, ?_⟩
    refine h1 H _ (Same.refl _) fun H1 l s1 hl => ?_
    have hl' : H1 l = some (.lst nmV) := by
      rw [show nmV = (["n", "set", "ask", "cell", "z", "while", "else"] : List Str).map V.str by decide +kernel]
      exact hl
    refine ⟨b, l, nmV, 3, p, q, n, rfl, s1 _ _ hb, Bx, SqL.of hl', by decide, by decide, by omega, fun H2 r ys rest p' n' sb nr hr2 hb2 Bx2 hn2 ly pm => ?_⟩
    obtain ⟨c, pp, d, mc, mp, md, n1, n2, n3, rfl⟩ := three pm ly
    refine ⟨r, _, rfl, SqL.of hr2, rfl, ?_⟩
    refine ⟨_, _, rfl, ?_⟩
    refine ⟨_, _, rfl, ?_⟩
    refine ⟨_, _, rfl, ?_⟩
    refine ⟨rfl, ?_⟩
    try dsimp only [gName]
    have bT : b ≠ TB := tab_ne tab hb fun ps e => nomatch e
    have tab2 : GxR.TabG H2 TB := by
      obtain ⟨ps, t1, t2⟩ := tab
      exact ⟨ps, sb _ _ bT.symm (s1 _ _ t1), t2⟩
    have SB : ∀ x o, x ≠ b → H x = some o → H2 x = some o := fun x o nx e => sb _ _ nx (s1 _ _ e)
    have lc := rho_len' mc
    have lp := rho_len' mp
    have ld := rho_len' md
    clear sb hl hl' hr2 pm ly nr s1 h1
    -- the cases
    have vC : CL (tCall (spCases countsC) [] E0 (tCons (tVar 1) (tCons (tVar 2) (tCons (tVar 3) tNil)))) [some (.ref b), some (.str (rho c)), some (.str (rho pp)), some (.str (rho d)), none, none, none, none, none, none, none, none, none] H2 (countsC (rho c) (rho pp) (rho d)) := fun H1 Q s q => ⟨_, rfl, _, rfl, _, rfl, rho c, rho pp, rho d, rfl, by omega, by omega, by omega, q⟩
    have vD : CL (tCall (spCases depthsC) [] E0 (tCons (tVar 1) (tCons (tVar 2) (tCons (tVar 3) tNil)))) [some (.ref b), some (.str (rho c)), some (.str (rho pp)), some (.str (rho d)), none, none, none, none, none, none, none, none, none] H2 (depthsC (rho c) (rho pp) (rho d)) := fun H1 Q s q => ⟨_, rfl, _, rfl, _, rfl, rho c, rho pp, rho d, rfl, by omega, by omega, by omega, q⟩
    have vW : CL (tCall (spCases wordsC) [] E0 (tCons (tVar 1) (tCons (tVar 2) (tCons (tVar 3) tNil)))) [some (.ref b), some (.str (rho c)), some (.str (rho pp)), some (.str (rho d)), none, none, none, none, none, none, none, none, none] H2 (wordsC (rho c) (rho pp) (rho d)) := fun H1 Q s q => ⟨_, rfl, _, rfl, _, rfl, rho c, rho pp, rho d, rfl, by omega, by omega, by omega, q⟩
    have vA := CL.cat (CL.cat vC vD (Nat.le_of_ble_eq_true rfl)) vW (Nat.le_of_ble_eq_true rfl)
    rw [cases_rend] at vA
    try dsimp only [tSeq]
    refine vA H2 _ (Same.refl _) fun H4 la xs s4 hla hcs => ⟨la, rfl, ⟨_, SqL.of hla⟩, ?_⟩
    have tab4 := TabG.keep tab2 s4
    refine for_list (K := K) (a := la) (xs := xs) (fun i σ' H' => (∃ a4 a5 a6 a7, σ' = [some (.ref b), some (.str (rho c)), some (.str (rho pp)), some (.str (rho d)), a4, a5, a6, a7, none, none, none, none, none]) ∧ KeepT TB H4 H' ∧ GxR.TabG H' TB) ⟨⟨none, none, none, none, rfl⟩, fun b o _ e => e, tab4⟩
      (fun i σ' H' _ h => SqL.of (h.2.1 _ _ (tab_ne tab4 hla fun ps e => nomatch e) hla)) (fun i x σ' H' hx h => ?_) fun σ' H' h => ?_
    · obtain ⟨⟨a4, a5, a6, a7, rfl⟩, k4, tb⟩ := h
      obtain ⟨cse, hcse, px, rfl, hcs1⟩ := paired_getL hcs hx
      rw [List.getElem?_map, Option.map_eq_some_iff] at hcse
      obtain ⟨qc, hqc, rfl⟩ := hcse
      have okq := case_at TT mc mp md n1 n2 n3 (List.mem_of_getElem? hqc)
      obtain ⟨hv, hn, fewq, inq, lenq, okS⟩ := heard_case RT okq
      obtain ⟨bq, hpx, hbq⟩ := cs_tab tab4 hcs1 k4
      refine ⟨px, _, rfl, SqT.of hpx, rfl, ?_⟩
      refine ⟨_, _, rfl, ?_⟩
      refine ⟨_, _, rfl, ?_⟩
      refine ⟨rfl, ?_⟩
      try dsimp only [gName]
      dsimp only [tSeq, tPar, tCons, tNil]
      refine due_run (j := 5) rfl fun hp np => ?_
      have sH := same_upd (o := .tup [.str (dueV (rend qc).2).1, (dueV (rend qc).2).2]) np
      have h6 : (upd H' hp (.tup [.str (dueV (rend qc).2).1, (dueV (rend qc).2).2])) hp = some (.tup [.str (dueV (rend qc).2).1, (dueV (rend qc).2).2]) := upd_same
      have tb := TabG.keep tb sH
      have hbq := sH _ _ hbq
      have k4 : KeepT TB H4 (upd H' hp (.tup [.str (dueV (rend qc).2).1, (dueV (rend qc).2).2])) := fun x o nx e => sH _ _ (k4 x o nx e)
      generalize (upd H' hp (.tup [.str (dueV (rend qc).2).1, (dueV (rend qc).2).2])) = H5 at h6 tb hbq k4
      clear np sH
      refine join_run (j := 4) rfl hbq inq fewq ?_
      refine ⟨_, _, rfl, ?_⟩
      dsimp only [tIfS, tTest, tOp, tCB, tCall, tCons, tNil]
      refine ⟨_, rfl, ?_⟩
      refine ⟨.int 3, .str (textI qc.1), _, _, rfl, .int 3, .str _, tb, fun z e => by cases e; exact ⟨lenq, okS⟩, fun H6 p6 k6 t6 n6 h7 => ?_⟩
      rw [hv] at h7
      refine rep_due hn h7 ?_
      refine ⟨_, rfl, ?_⟩
      refine rep_due hn (k6 _ _ (tab_ne tb h6 fun ps e => nomatch e) h6) ?_
      refine ⟨rfl, ?_⟩
      refine ⟨_, rfl, ?_⟩
      rw [show (!decide (V.str (dueD qc.2).shown = V.str (dueD qc.2).shown)) = false by rw [decide_eq_true (rfl : V.str (dueD qc.2).shown = V.str (dueD qc.2).shown)]; rfl]
      refine iteF ?_
      exact ⟨⟨_, _, _, _, rfl⟩, fun x o nx e => k6 _ _ nx (k4 x o nx e), t6⟩
    · obtain ⟨⟨a4, a5, a6, a7, rfl⟩, k4, tb⟩ := h
      have kH : Keep2 TB b H H' := fun x o nT nb e => k4 x o nT (s4 _ _ (SB x o nb e))
      clear k4 hcs hla s4 vA vW vD vC SB tab2 tab4
      obtain ⟨inG, parG⟩ := good_part TT RT mc mp md n1 n2 n3
      have vG : LV _ [some (.ref b), some (.str (rho c)), some (.str (rho pp)), some (.str (rho d)), a4, a5, a6, a7, none, none, none, none, none] H' (goodC (rho c) (rho pp) (rho d)) :=
        LV.cat (show LV (tCall spLawHead [] E0 (tCons (tVar 1) (tCons (tVar 2) tNil))) _ _ (headC (rho c) (rho pp)) from fun H1 Q s q => ⟨_, rfl, _, rfl, rho c, rho pp, rfl, by omega, by omega, q⟩)
          (LV.lst (AV.cons (SN.add (SN.k (z := "door ") (by decide +kernel)) (SN.w (j := 3) rfl ld) (by decide)) (AV.cons (SN.add (SN.add (SN.add (SN.k (z := "  ask ") (by decide +kernel)) (SN.w (j := 2) rfl lp) (by decide)) (SN.k (z := " get ") (by decide +kernel)) (by decide)) (SN.w (j := 1) rfl lc) (by decide)) (AV.cons (SN.k (z := "  answer got") (by decide +kernel)) AV.nil))) (Nat.le_of_ble_eq_true rfl)) (Nat.le_of_ble_eq_true rfl)
      rw [good_rows mp] at vG
      try dsimp only [tSeq, tAsg]
      refine vG H' _ (Same.refl _) fun H6 g s6 hg => ?_
      have kH := kH.step s6
      have tb := TabG.keep tb s6
      clear s6 vG
      show tSeq _ _ _ _ _
      -- a part
      dsimp only [tSeq, tAsg, tMake, tCons, tNil]
      refine val_c _ ?_
      refine join_run (j := 8) rfl hg inG (by show 5 ≤ 100; decide) ?_
      have fitG := text_fit inG (by show 5 ≤ 100; decide)
      generalize hX : textI (goodI c pp d) = tx at parG fitG ⊢
      refine fun a da na nda neq => ?_
      have n0 : (upd H6 da (.own a)) a = none := by
        rw [upd_ne neq.symm]
        exact na
      have sP : Same H6 (upd (upd H6 da (.own a)) a (.ins Pt da [])) := (same_upd nda).trans (same_upd n0)
      have hP : (upd (upd H6 da (.own a)) a (.ins Pt da [])) a = some (.ins Pt da []) := upd_same
      have ga : g ≠ a := ne_of_none hg na
      have kP := kH.step sP
      have tbP := TabG.keep tb sP
      have hgP := sP _ _ hg
      have aT : a ≠ TB := tab_ne tbP hP fun ps e => nomatch e
      have bAx : ∀ x o, H6 x = some o → x ≠ a := fun x o e => ne_of_none e na
      have six : ∀ x o, H6 x = some o → (upd (upd H6 da (.own a)) a (.ins Pt da [])) x = some o := fun x o e => sP _ _ e
      generalize (upd (upd H6 da (.own a)) a (.ins Pt da [])) = HP at sP hP kP tbP hgP six
      clear n0
      refine ⟨a, da, .int 3, .str tx, _, _, rfl, hP, .int 3, .str _, tbP, aT, fun e => absurd e (by decide), fun wn ex ew => ⟨fun e => (nomatch (show true = false from e)), fun z ez => ?_⟩⟩
      cases ex
      cases ez
      refine ⟨fitG.1, fitG.2, ?_⟩
      rw [parG]
      intro H7 ct pt sd dt stp ak ts kp tb7 hi hct pr hpt hdt
      refine ⟨rfl, ?_⟩
      try dsimp only [gName]
      have kH7 : Keep2 TB b H H7 := fun x o nT nb e => by
        have e6 := kH x o nT nb e
        exact kp x o nT (bAx _ _ e6) (six _ _ e6)
      have hg7 : LsAt H7 g ((goodI c pp d).map rowS) := kp _ _ (tab_ne tbP hgP fun ps e => nomatch e) ga hgP
      clear kp kP hgP sP six bAx hP tbP kH tb na nda neq hg
      cases pr with
      | cons ht0 prn =>
      cases prn
      rename_i t0
      subst hX
      show tSeq _ _ _ _ _
      dsimp only [tSeq, tIfS, tTest]
      refine one_run (σ := [some (.ref b), some (.str (rho c)), some (.str (rho pp)), some (.str (rho d)), a4, a5, a6, a7, some (.ref g), some (.ref a), none, none, none]) R.CC rfl rfl rfl rfl rfl hi hct ht0 hpt hdt hg7 inG (by show 5 ≤ 100; decide) (goodD_shaped (rho_ok' mc) (rho_ok' mp) (rho_ok' md) fitG.2) fun H8 s8 => ?_
      refine ⟨_, rfl, iteF ?_⟩
      have kH8 := kH7.step s8
      have tb8 := TabG.keep tb7 s8
      clear s8 hi hct ht0 hpt hdt hg7 tb7 kH7 inG parG fitG
      -- what are no texts
      dsimp only [tNext, tSeq, tAsg, tLst, tTup, tCons, tNil]
      refine val_c _ ?_
      refine val_c _ ?_
      refine val_c _ ?_
      refine val_c _ ?_
      refine ⟨by show 1 ≤ sizeLine; decide, fun t1 nt1 => ?_⟩
      have z1 := same_upd (o := .tup [.str "door a"]) nt1
      have w1 : (upd H8 t1 (.tup [.str "door a"])) t1 = some (.tup [.str "door a"]) := upd_same
      generalize (upd H8 t1 (.tup [.str "door a"])) = H9 at z1 w1
      refine val_c _ ?_
      refine val_c _ ?_
      refine ⟨by show 2 ≤ sizeLine; decide, fun l1 nl1 => ?_⟩
      have z2 := same_upd (o := .lst [.str "door a", .str "  fail"]) nl1
      have w2 : (upd H9 l1 (.lst [.str "door a", .str "  fail"])) l1 = some (.lst [.str "door a", .str "  fail"]) := upd_same
      generalize (upd H9 l1 (.lst [.str "door a", .str "  fail"])) = H10 at z2 w2
      refine fun d0 nd0 => ?_
      have z3 := same_upd (o := .dK []) nd0
      have w3 : (upd H10 d0 (.dK [])) d0 = some (.dK []) := upd_same
      generalize (upd H10 d0 (.dK [])) = H11 at z3 w3
      refine val_c _ ?_
      refine ⟨by show 7 ≤ sizeLine; decide, fun L nL => ?_⟩
      have z4 := same_upd (o := .lst [.non, .bl true, .int 0, .ref t1, .ref l1, .ref d0, .int 1]) nL
      have w4 : (upd H11 L (.lst [.non, .bl true, .int 0, .ref t1, .ref l1, .ref d0, .int 1])) L = some (.lst [.non, .bl true, .int 0, .ref t1, .ref l1, .ref d0, .int 1]) := upd_same
      generalize (upd H11 L (.lst [.non, .bl true, .int 0, .ref t1, .ref l1, .ref d0, .int 1])) = H12 at z4 w4
      have w1 := z4 _ _ (z3 _ _ (z2 _ _ w1))
      have w2 := z4 _ _ (z3 _ _ w2)
      have w3 := z4 _ _ w3
      have z : Same H8 H12 := z1.trans (z2.trans (z3.trans z4))
      have kH12 := kH8.step z
      have tb12 := TabG.keep tb8 z
      clear z z1 z2 z3 z4 kH8 tb8
      show tIfS _ _ _ _ _ _
      dsimp only [tIfS, tTest]
      refine some_run (σ := [some (.ref b), some (.str (rho c)), some (.str (rho pp)), some (.str (rho d)), a4, a5, a6, a7, some (.ref g), some (.ref a), some (.ref L), none, none]) (fun _ => rfl) (fun _ => rfl) rfl w4 rfl (fun x hx => ?_) tb12 fun H13 k13 t13 => ?_
      · simp only [List.mem_cons, List.not_mem_nil, or_false] at hx
        rcases hx with rfl | rfl | rfl | rfl | rfl | rfl | rfl
        · exact ⟨⟨_, .non⟩, rfl⟩
        · exact ⟨⟨_, .bl true⟩, rfl⟩
        · exact ⟨⟨_, .int 0⟩, rfl⟩
        · exact ⟨⟨_, .tup w1⟩, rfl⟩
        · exact ⟨⟨_, .lst w2⟩, rfl⟩
        · exact ⟨⟨_, .dK w3⟩, rfl⟩
        · exact ⟨⟨_, .int 1⟩, rfl⟩
      refine ⟨_, rfl, iteF ?_⟩
      have kH13 : Keep2 TB b H H13 := fun x o n1 n2 e => k13 x o n1 (kH12 x o n1 n2 e)
      clear kH12 k13 tb12 w1 w2 w3 w4
      -- what are no numbers of worths
      dsimp only [tNext, tSeq, tAsg, tLst, tTup, tCons, tNil]
      refine val_c _ ?_
      refine val_c _ ?_
      refine val_c _ ?_
      refine val_c _ ?_
      refine val_c _ ?_
      refine val_c _ ?_
      refine (show Val (tUn (rU fun i => .int (-i)) (tC (.int 2))) _ H13 (.int (-2)) from val_neg val_c) _ ?_
      refine val_c _ ?_
      refine val_c _ ?_
      refine ⟨by show 1 ≤ sizeLine; decide, fun t2 nt2 => ?_⟩
      have z1 := same_upd (o := .tup [.int 2]) nt2
      have w1 : (upd H13 t2 (.tup [.int 2])) t2 = some (.tup [.int 2]) := upd_same
      generalize (upd H13 t2 (.tup [.int 2])) = H14 at z1 w1
      refine val_c _ ?_
      refine ⟨by show 1 ≤ sizeLine; decide, fun l2 nl2 => ?_⟩
      have z2 := same_upd (o := .lst [.int 3]) nl2
      have w2 : (upd H14 l2 (.lst [.int 3])) l2 = some (.lst [.int 3]) := upd_same
      generalize (upd H14 l2 (.lst [.int 3])) = H15 at z2 w2
      refine fun d2 nd2 => ?_
      have z3 := same_upd (o := .dK []) nd2
      have w3 : (upd H15 d2 (.dK [])) d2 = some (.dK []) := upd_same
      generalize (upd H15 d2 (.dK [])) = H16 at z3 w3
      refine ⟨by show 11 ≤ sizeLine; decide, fun M nM => ?_⟩
      have z4 := same_upd (o := .lst [.non, .bl true, .bl false, .int 0, .int 1, .int 5, .int (-2), .str "2", .ref t2, .ref l2, .ref d2]) nM
      have w4 : (upd H16 M (.lst [.non, .bl true, .bl false, .int 0, .int 1, .int 5, .int (-2), .str "2", .ref t2, .ref l2, .ref d2])) M = some (.lst [.non, .bl true, .bl false, .int 0, .int 1, .int 5, .int (-2), .str "2", .ref t2, .ref l2, .ref d2]) := upd_same
      generalize (upd H16 M (.lst [.non, .bl true, .bl false, .int 0, .int 1, .int 5, .int (-2), .str "2", .ref t2, .ref l2, .ref d2])) = H17 at z4 w4
      have w1 := z4 _ _ (z3 _ _ (z2 _ _ w1))
      have w2 := z4 _ _ (z3 _ _ w2)
      have w3 := z4 _ _ w3
      have z : Same H13 H17 := z1.trans (z2.trans (z3.trans z4))
      have kH17 := kH13.step z
      have tb17 := TabG.keep t13 z
      clear z z1 z2 z3 z4 kH13 t13
      show tRet _ _ _ _
      dsimp only [tRet]
      have od : Paired (OddAt H17) [.non, .bl true, .bl false, .int 0, .int 1, .int 5, .int (-2), .str "2", .ref t2, .ref l2, .ref d2] oddD :=
        .cons .non (.cons (.bl true) (.cons (.bl false) (.cons (.int 0 (by decide)) (.cons (.int 1 (by decide)) (.cons (.int 5 (by decide)) (.cons (.int (-2) (by decide)) (.cons (.str "2") (.cons (.tup w1) (.cons (.lst w2) (.cons (.dct w3) .nil))))))))))
      refine odd_run (σ := [some (.ref b), some (.str (rho c)), some (.str (rho pp)), some (.str (rho d)), a4, a5, a6, a7, some (.ref g), some (.ref a), some (.ref L), some (.ref M), none]) (fun _ => rfl) (fun _ => rfl) rfl w4 od tb17 fun H18 k18 t18 => ?_
      exact k H18 (fun x o n1 n2 e => k18 x o n1 (kH17 x o n1 n2 e)) t18
end
end K5
namespace K5
open PySem PySem.Spec PyProof.Rows L2
/-! ### the law's call, where the caller shows nothing -/
/-- what is tracked at the call: empty tables, and the script unless the text has written it -/
def atCall (K : PySem.W.Frag) (ts : List Addr) (a : Addr) (ob : Obj) (ns : List Int) : Hp := fun b =>
  if b ∈ ts then some (.tbl #[]) else if b = a ∧ K.lookup a = none then some (.frz ob (.lst (ns.map V.int))) else none
section
variable {K : PySem.W.Frag} {ts : List Addr} {a b : Addr} {ob : Obj} {ns : List Int}
theorem atCall_tab (h : b ∈ ts) : atCall K ts a ob ns b = some (.tbl #[]) := if_pos h
theorem atCall_arg (h : a ∉ ts) (free : K.lookup a = none) : atCall K ts a ob ns a = some (.frz ob (.lst (ns.map V.int))) := (if_neg h).trans (if_pos ⟨rfl, free⟩)
theorem atCall_not (h : b ∉ ts) (n : ¬ (b = a ∧ K.lookup a = none)) : atCall K ts a ob ns b = none := (if_neg h).trans (if_neg n)
theorem atCall_cases (K : PySem.W.Frag) (ts : List Addr) (a b : Addr) (ob : Obj) (ns : List Int) : atCall K ts a ob ns b = none ∨ (b ∈ ts ∧ atCall K ts a ob ns b = some (.tbl #[])) ∨ (b ∉ ts ∧ b = a ∧ K.lookup a = none ∧ atCall K ts a ob ns b = some (.frz ob (.lst (ns.map V.int)))) := by
  by_cases h : b ∈ ts
  · exact .inr (.inl ⟨h, atCall_tab h⟩)
  · by_cases n : b = a ∧ K.lookup a = none
    · exact .inr (.inr ⟨h, n.1, n.2, (if_neg h).trans (if_pos n)⟩)
    · exact .inl (atCall_not h n)
end
theorem law_G {P : Program} {w : World} {K : PySem.W.Frag} {mg mb : Str → Option Value} {cx : CXT} {lv : Nat} {fa a : Addr} {cs : List (Addr × Addr)} {rec : FuncData} {x : Str} {pr : Sp} {st : Shared} {us : List Value} {ns : List Int}
    (inK : K.In st.heap) (gl : st.heap.Ns mainGlobals mg) (bl : st.heap.Ns builtinsNs mb) (std : ∀ y : Str, y ≠ "__name__" → mb y = bootBuiltins y) (nol : st.heap.NoLimit) (noGens : st.gens = #[])
    (tabs : ∀ p ∈ cs, st.heap.get? p.2 = some { cls := .none, data := .fields #[] }) (outK : ∀ p ∈ cs, K.lookup p.2 = none) (codes : ∀ p ∈ cs, PySem.W.CodeHd st.heap p.1 p.2)
    (bmod : ∃ (bm : Addr) (o : Obj), mg "__builtins__" = some (.ref bm) ∧ bm ≠ builtinsNs ∧ st.heap.get? bm = some o ∧ o.cls = .type "module" ∧ o.dict = some builtinsNs ∧ o.data = .plain)
    (arg : st.heap.get? a = some { cls := .type "list", data := .seq us.toArray }) (wholes : IntsAre us ns) (few : ns.length ≤ sizeLine) (room : Room lv callerA)
    (F : ∀ base : Heap, K.In base → base.Ns mainGlobals mg → (∀ p ∈ cs, GxR.TabB base mg p.1 p.2) → FnG P w K mg base cx lv fa rec [x] pr) (binds : ∀ (s : Shared) (u : Value), BindsTo s rec ⟨[u], []⟩ [(x, u)])
    (goes : ∀ H : Hp, (∀ p ∈ cs, H p.2 = some (.tbl #[])) → SqL K H a (ns.map V.int) → pr [.ref a] H (fun v _ => v = .bl true) fun _ _ _ => False)
    (quiet : ∀ H e s2, cx [] H st (fun _ _ _ => False) e s2 → False) :
    codeAny (model P w) callerA (.call (.ref fa) ⟨[.ref a], []⟩) (fun r s2 => r = .ok (.ret (.bool true)) ∧ OldK st.heap s2.heap ∧ s2.os = st.os ∧ AllBare s2.gens) st := by
  generalize hts : cs.map (·.2) = ts
  have inTs : ∀ p ∈ cs, p.2 ∈ ts := fun p hp => hts ▸ List.mem_map.mpr ⟨p, hp, rfl⟩
  have ofTs : ∀ b ∈ ts, ∃ p ∈ cs, p.2 = b := fun b hb => List.mem_map.mp (hts ▸ hb)
  have tabAt : ∀ b ∈ ts, st.heap.get? b = some { cls := .none, data := .fields #[] } := fun b hb => by
    obtain ⟨p, hp, rfl⟩ := ofTs b hb
    exact tabs p hp
  generalize hob : ({ cls := .type "list", data := .seq us.toArray } : Obj) = ob at arg
  have obD : ∃ m, ob.data = .seq us.toArray m := hob ▸ ⟨_, rfl⟩
  have argOut : a ∉ ts := fun z => by
    have q := tabAt a z
    rw [arg] at q
    obtain ⟨m, d⟩ := obD
    rw [Option.some.inj q] at d
    cases d
  have rel := vals_ints wholes
  have size : us.toArray.size ≤ sizeLine := by
    rw [List.size_toArray, wholes.length]
    exact few
  let H : Hp := atCall K ts a ob ns
  -- neither a table nor a list: it is not tracked
  have loose : ∀ {b : Addr} {o : Obj}, st.heap.get? b = some o → (∀ vs m, o.data ≠ .seq vs m) → o.data ≠ .fields #[] → H b = none := by
    intro b o e n1 n2
    rcases atCall_cases K ts a b ob ns with q | ⟨q, _⟩ | ⟨_, q, _, _⟩
    · exact q
    · rw [tabAt b q] at e
      cases e
      exact absurd rfl n2
    · rw [q, arg] at e
      cases e
      obtain ⟨m, d⟩ := obD
      exact absurd d (n1 _ _)
  have dictLoose : ∀ {b : Addr} {o : Obj} {es : Array DictEntry} {ep : Nat}, st.heap.get? b = some o → o.data = .dict es ep → H b = none := by
    intro b o es ep e d
    exact loose e (fun vs m z => by rw [d] at z; cases z) fun z => by rw [d] at z; cases z
  have names : ∀ {b : Addr} {m : Str → Option Value}, st.heap.Ns b m → (hidT st.heap H).Ns b m := by
    rintro b m ⟨o, es, ep, e, d, r⟩
    exact ⟨o, es, ep, hidT_get e (dictLoose e d), d, r⟩
  have inB : K.In (hidT st.heap H) := by
    intro b o e
    refine hidT_get (inK b o e) ?_
    rcases atCall_cases K ts a b ob ns with q | ⟨q, _⟩ | ⟨_, q, free, _⟩
    · exact q
    · obtain ⟨p, hp, rfl⟩ := ofTs b q
      rw [outK p hp] at e
      cases e
    · rw [q, free] at e
      cases e
  have notG : ∀ b ∈ ts, mainGlobals ≠ b := fun b hb z => by
    obtain ⟨o, es, ep, e, d, _⟩ := gl
    rw [z, tabAt b hb] at e
    cases e
    cases d
  have tb : ∀ p ∈ cs, GxR.TabB (hidT st.heap H) mg p.1 p.2 := by
    intro p hp
    constructor
    · obtain ⟨o, vs, r1, r2, r3, r4, r5, r6, r7, e, k1, k2, k3⟩ := codes p hp
      refine ⟨o, vs, r1, r2, r3, r4, r5, r6, r7, hidT_get e (loose e (fun us m z => ?_) fun z => ?_), k1, k2, k3⟩
      · rw [k2] at z
        cases z
      · rw [k2] at z
        cases z
        simp at k3
    · obtain ⟨bm, o, y1, y2, y3, y4, y5, y6⟩ := bmod
      refine ⟨bm, o, y1, y2, fun z => ?_, fun z => ?_, hidT_get y3 (loose y3 (fun us m z => ?_) fun z => ?_), y4, y5, y6⟩
      · obtain ⟨g, es, ep, e, d, _⟩ := gl
        rw [← z, y3] at e
        cases e
        rw [y6] at d
        cases d
      · rw [z, tabs p hp] at y3
        cases y3
        cases y6
      · rw [y6] at z
        cases z
      · rw [y6] at z
        cases z
    · exact notG _ (inTs p hp)
  have held : HOk P w H st.heap := by
    intro b u z
    rcases atCall_cases K ts a b ob ns with q | ⟨q, q2⟩ | ⟨_, q, _, q2⟩
    · rw [show H b = none from q] at z
      cases z
    · rw [show H b = _ from q2] at z
      cases z
      exact tabAt b q
    · rw [show H b = _ from q2] at z
      cases z
      rw [q]
      exact ⟨arg, by rw [List.length_map]; exact few, us, _, rel, arg.trans (congrArg some hob.symm)⟩
  have script : SqL K H a (ns.map V.int) := by
    cases lk : K.lookup a with
    | none => exact .inl (.inr ⟨ob, atCall_arg argOut lk⟩)
    | some o =>
      have e := inK a o lk
      rw [arg] at e
      cases e
      obtain ⟨m, d⟩ := obD
      refine .inr ⟨ob, us.toArray, m, lk, ?_, ?_, d, size, by simpa using rel⟩ <;> rw [← hob]
  have nolB : (hidT st.heap H).NoLimit := by
    obtain ⟨mc, z1, z2⟩ := nol
    exact ⟨mc, names z1, z2⟩
  have e0 : Env0 P w K mg (hidT st.heap H) callerA [] st H :=
    { frames := rfl, mod := ⟨inB, names gl, ⟨mb, names bl, std⟩, nolB⟩, bs := fun b o e => of_hidT e, bsz := Nat.le_of_eq (hidT_size _ _), funs := trivial, frf := fun b hb => (nomatch hb), hok := held, bare := .of_eq noGens }
  have runs := (F _ inB (names gl) tb).does callerA [] st H ⟨[.ref a], []⟩ [.ref a] [.ref a] (fun v _ => v = .bl true) (fun _ _ _ => False) rfl room e0 (binds st (.ref a)) (.cons rfl .nil) (goes H (fun p hp => atCall_tab (inTs p hp)) script)
  refine codeAny_mono runs ?_
  intro r s2 h
  match r, h with
  | .error e, h => exact (quiet H e s2 h).elim
  | .ok .next, h => exact h.elim
  | .ok .brk, h => exact h.elim
  | .ok .cont, h => exact h.elim
  | .ok (.ret u), ⟨v, H2, sameOs, bare, un, held2, ru, q⟩ =>
    have q : v = V.bl true := q
    subst q
    have ru : u = Value.bool true := ru
    subst ru
    have grown : ∀ p ∈ cs, ∃ more : Array Value, s2.heap.get? p.2 = some { cls := .none, data := .fields more } := fun p hp => by
      obtain ⟨more, z⟩ := un.tbls p.2 #[] (atCall_tab (inTs p hp))
      exact ⟨_, held2 p.2 _ z⟩
    have kept : ∀ b o, b ∉ ts → st.heap.get? b = some o → s2.heap.get? b = some o := by
      intro b o nb e
      rcases atCall_cases K ts a b ob ns with z | ⟨z, _⟩ | ⟨_, z, _, z2⟩
      · exact un.keep b o e z (fun c => (nomatch c)) fun c => (nomatch c)
      · exact absurd z nb
      · obtain ⟨g, _⟩ := held2 b _ (un.frzs b ob _ z2)
        rw [z, arg] at e
        cases e
        exact g
    refine ⟨rfl, ⟨fun b o e => ?_, fun b o e => ?_⟩, sameOs, bare⟩ <;> by_cases hb : b ∈ ts
    · obtain ⟨p, hp, rfl⟩ := ofTs b hb
      obtain ⟨more, hm⟩ := grown p hp
      rw [tabs p hp] at e
      cases e
      refine .inr (.inl ⟨((codes p hp).tab (tabs p hp)).isCodeTable, rfl, #[], more, rfl, ?_⟩)
      rw [hm, Array.empty_append]
    · exact .inl (kept b o hb e)
    · obtain ⟨p, hp, rfl⟩ := ofTs b hb
      obtain ⟨more, hm⟩ := grown p hp
      exact ⟨_, hm⟩
    · exact ⟨o, kept b o hb e⟩
end K5
namespace K5
open PySem PySem.Spec PyProof.Rows L2
theorem sq_keep {K : PySem.W.Frag} {H H' : Hp} {a : Addr} {xs : List V} (h : SqL K H a xs) (k : ∀ o, H a = some o → H' a = some o) : SqL K H' a xs := by
  rcases h with (h | ⟨o, h⟩) | h
  · exact .inl (.inl (k _ h))
  · exact .inl (.inr ⟨o, k _ h⟩)
  · exact .inr h
abbrev s_law : Stmt := topS 36
theorem sc_law : FnScope ["_law_script", "_law_k"] ["_law_script"] (defScope s_law) := ⟨rfl, rfl, rfl, by decide +kernel, rfl, by decide +kernel, by decide +kernel⟩
def spLaw (K : PySem.W.Frag) (TB : Addr) : Sp := fun vs H Q _ => ∃ (a : Addr) (ns : List Int), vs = [.ref a] ∧ SqL K H a (ns.map V.int) ∧ GxR.TabG H TB ∧ a ≠ TB ∧ ∀ H', Q (.bl true) H'
section
variable {P : Program} {w : World} {K : PySem.W.Frag} {mg : Str → Option Value} {base : Heap} {TB : Addr}
theorem ok_law {f fB fR : Addr} {fd dB dR : FuncData} (B : Bt mg) (DB : Df K mg "_law_box" s__law_box fB dB ["_law_script", "_law_k"]) (GB : FnOk P w K mg base CX0 1 fB dB ["_law_script", "_law_k"] (spBox K))
    (DR : Df K mg "_law_right" s__law_right fR dR ["_law_box_here"]) (GR : FnG P w K mg base (L2.CX P w) 25 fR dR ["_law_box_here"] (spRight TB)) (F : Fun K "law" "law" s_law f fd) : FnG P w K mg base (L2.CX P w) 26 f fd ["_law_script"] (spLaw K TB) := by
  refine okG F sc_law (fun vs H Q E h => ?_) (fun cdv A outer s H vs Q E gu hr h => ?_)
  · obtain ⟨a, ns, rfl, _⟩ := h
    rfl
  · obtain ⟨a, ns, rfl, hS, tab, aT, k⟩ := h
    have S := sc_law
    refine ⟨_, (pss_cons (ps_for (passes_of rfl) rfl (pi_range1 (by rfl) B.m_range (pa_cons (pe_callB (call_max2 rfl) (by rfl) B.m_max (by decide +kernel) (pa_cons pe_int (pa_cons (pe_callB (call_min2 rfl) (by rfl) B.m_min (by decide +kernel) (pa_cons pe_int (pa_cons (pe_callB call_len_seq (by rfl) B.m_len PySem.boot_len (pa_cons (pv 0) pa_nil)) pa_nil))) pa_nil))) pa_nil)) (pg_name (i := 1) S.nd rfl (.inl rfl))
        (pss_one (ps_if (pt_not (pt_val (pe_callG GR gu (hr.mono (by decide)) (by rfl) DR.g DR.F.kp DR.b passL (pa_cons (pe_call GB (hr.mono (by decide)) (by rfl) DB.g DB.F.kp DB.b .nil pass0 (pa_cons (pv 0) (pa_cons (pv 1) pa_nil))) pa_nil))))
          (pss_one (ps_ret pe_bl))
          pss_nil)))
      (pss_one (ps_ret pe_bl))), ?_⟩
    dsimp only [tSeq, tFor, iRng1, tCB, tCons, tNil]
    refine val_c _ ?_
    refine val_c _ ?_
    refine (val_var rfl) _ ?_
    refine ⟨a, _, rfl, .inl hS, ?_⟩
    refine ⟨3, _, rfl, ?_⟩
    refine ⟨1, _, rfl, ?_⟩
    generalize hj : (if (if (((ns.map V.int).length : Nat) : Int) < 3 then (((ns.map V.int).length : Nat) : Int) else 3) > 1 then (if (((ns.map V.int).length : Nat) : Int) < 3 then (((ns.map V.int).length : Nat) : Int) else 3) else 1) = j
    have j1 : 1 ≤ j ∧ j ≤ 3 := by
      rw [← hj]
      split <;> split <;> omega
    refine ⟨j, rfl, by omega, by omega, ?_⟩
    refine for_range (D := { nx := tRet (tC (.bl true)) { nx := fun _ G2 => Q .non G2, rt := Q }, rt := Q }) (g := gName 1) (tb := tIfS (tNot (tB (tCall (spRight TB) [] E0 (tCons (tCall (spBox K) [] E0 (tCons (tVar 0) (tCons (tVar 1) tNil))) tNil)))) (tRet (tC (.bl false))) tNext) (lo := 0) (n := j.toNat) (fun i σ' H' => (∃ v, σ' = [some (.ref a), v]) ∧ (∀ o, H a = some o → H' a = some o) ∧ GxR.TabG H' TB) ⟨⟨none, rfl⟩, fun o e => e, tab⟩ (fun i σ' H' hi h => ?_) fun σ' H' h => ?_
    · obtain ⟨⟨v, rfl⟩, kS, tb⟩ := h
      show tIfS _ _ _ _ _ _
      dsimp only [tIfS, tNot, tB, tCall, tCons, tNil]
      refine (val_var rfl) _ ?_
      refine (val_var rfl) _ ?_
      refine ⟨a, ns, 0 + (i : Int), rfl, sq_keep hS kS, by omega, by omega, fun b p q nb Bx => ?_⟩
      refine ⟨b, p, q, 0, rfl, upd_same, Bx, by decide, TabG.keep tb (same_upd nb), fun H5 k5 t5 => ?_⟩
      refine ⟨true, rfl, ?_⟩
      refine iteF ?_
      exact ⟨⟨_, rfl⟩, fun o e => k5 a o aT (ne_of_none (kS o e) nb) (same_upd nb _ _ (kS o e)), t5⟩
    · exact k H'
end
end K5
namespace K5
open PySem PySem.Spec PyProof.Rows L2
/-! ### the head's facts, by names -/
/-- a class of errors, as it is written -/
def oexB (K : PySem.W.Frag) (C : Addr) : Bool := match K.lookup C with
  | some ⟨.type t, _, .cls ⟨_, _, mro, _, _, hd, _, _, _, _, del⟩, sl⟩ => decide (t = "type") && (hd && (!del && ((match mro with
      | .ref c :: bm => decide (c = C) && PySem.HandSPX.refsVE bm
      | _ => false) && (match sl.toList with
      | [_, _, _, _, some (.builtin n), _] => decide (n = "ValueError.__new__")
      | _ => false))))
  | _ => false
theorem oexB_ok {K : PySem.W.Frag} {C : Addr} (h : oexB K C = true) : ∃ nm q N bs bm sn sub ab col dd k0 k1 k2 k3 k5, K.lookup C = some (excClassObj nm q C N bs bm true sn sub ab col dd k0 k1 k2 k3 k5 "ValueError.__new__") ∧ PySem.HandSPX.refsVE bm = true := by
  unfold oexB at h
  split at h
  · rename_i t dd nm bs mro N qn hd sn sub ab col del sl lk
    rw [Bool.and_eq_true, Bool.and_eq_true, Bool.and_eq_true, Bool.and_eq_true] at h
    obtain ⟨h1, h2, h3, h4, h5⟩ := h
    split at h4
    · rename_i c bm
      rw [Bool.and_eq_true] at h4
      split at h5
      · rename_i k0 k1 k2 k3 n k5 e
        have e1 : t = "type" := of_decide_eq_true h1
        have e2 : c = C := of_decide_eq_true h4.1
        have e3 : n = "ValueError.__new__" := of_decide_eq_true h5
        have e4 : hd = true := h2
        have e5 : del = false := by
          cases del
          · rfl
          · cases h3
        have e6 : sl = #[k0, k1, k2, k3, some (.builtin n), k5] := by
          rw [← Array.toList_inj, e]
        subst e1 e2 e3 e4 e5 e6
        exact ⟨nm, qn, N, bs, bm, sn, sub, ab, col, dd, k0, k1, k2, k3, k5, lk, h4.2⟩
      · cases h5
    · cases h4
  · cases h
/-- what else is asked of the classes of errors -/
def errL (K : PySem.W.Frag) (x : Str) : List Bool := [oexB K (He.ga K x), decide (PySem.W.findIn K (.ref (He.ga K x)) "__setattr__" = some (some (.builtin "object.__setattr__"))), decide (PySem.W.subIn K (.ref (He.ga K x)) (.type "BaseException") = some true), decide (PySem.W.typeIn K (.ref (He.ga K x)) = some (.type "type")), PySem.W.keepIn K (.ref (He.ga K x)),
  decide (PySem.W.findIn K (.ref (He.ga K x)) "__init__" = some (some (.ref (He.ma K (He.ga K "WireError") "__init__")))), decide (PySem.W.findIn K (.ref (He.ga K x)) "value" = some none), xfB K (He.ga K x),
  decide (PySem.W.findIn K (.ref (He.ga K x)) "__class__" = some (some (.builtin "object.__class__"))), decide (PySem.W.mroIn K (He.ga K x) (.type "object") = some true), decide (PySem.W.exmOne K (.ref (He.ga K x)) (.ref (He.ga K "WireError")) = some true),
  decide (PySem.W.kitOne K (.ref (He.ga K x)) (.type "ValueError") = some true)]
def exL (K : PySem.W.Frag) : List Bool := [(errL K "BadText").all id, (errL K "BadWorths").all id, decide (PySem.W.typeIn K (.ref (He.ma K (He.ga K "WireError") "__init__")) = some (.type "function")),
  decide (PySem.W.specialIn K (.builtin "object.__class__") "__get__" = some (some (.builtin "getset_descriptor.__get__"))), decide (PySem.W.takesIn K (.builtin "object.__class__") = some true),
  decide (PySem.W.kitOne K (.ref (He.ga K "BadText")) (.ref (He.ga K "BadText")) = some true), decide (PySem.W.kitOne K (.ref (He.ga K "BadText")) (.ref (He.ga K "BadWorths")) = some false), decide (PySem.W.kitOne K (.ref (He.ga K "BadWorths")) (.ref (He.ga K "BadText")) = some false), decide (PySem.W.kitOne K (.ref (He.ga K "BadWorths")) (.ref (He.ga K "BadWorths")) = some true),
  He.tupB K "BARRED_CELLS" [.str "it", .str "got", .str "lost", .str "busy"]]
def exB (K : PySem.W.Frag) : Bool := (exL K).all id
theorem all_at {l : List Bool} (h : l.all id = true) (i : Nat) {b : Bool} (e : l[i]? = some b) : b = true := List.all_eq_true.mp h b (List.mem_of_getElem? e)
def faL : List He.Fa := [
  (.glo "is_integer"),
  (.glo "is_worths"),
  (.glo "is_name"),
  (.glo "is_door"),
  (.glo "number"),
  (.glo "read_cells"),
  (.glo "read_ports"),
  (.glo "read_doors"),
  (.glo "_law_box"),
  (.glo "_law_take"),
  (.glo "_law_some"),
  (.glo "_law_heard"),
  (.glo "_law_head"),
  (.glo "_law_counts"),
  (.glo "_law_depths"),
  (.glo "_law_words"),
  (.glo "_law_right"),
  (.glo "law"),
  (.glo "WireError"),
  (.glo "BadText"),
  (.glo "BadWorths"),
  (.glo "Lines"),
  (.glo "Program"),
  (.glo "Part"),
  (.glo "BARRED_CELLS"),
  (.free "int"),
  (.free "len"),
  (.free "abs"),
  (.free "max"),
  (.free "min"),
  (.free "list"),
  (.free "str"),
  (.free "bool"),
  (.free "range"),
  (.free "isinstance"),
  (.free "tuple"),
  (.free "repr"),
  (.free "ValueError"),
  (.int "MOST_IN_BLOCK" 8),
  (.int "MOST_STATEMENTS" 24),
  (.int "DEEPEST" 3),
  (.int "MOST_CELLS" 3),
  (.int "MOST_PORTS" 2),
  (.int "MOST_DOORS" 3),
  (.cls "Lines"),
  (.mkr "Lines"),
  (.cls "Program"),
  (.mkr "Program"),
  (.cls "Part"),
  (.mkr "Part"),
  (.noat "Lines" "rows"),
  (.noat "Lines" "at"),
  (.noat "Program" "lines"),
  (.noat "Program" "worths"),
  (.noat "Program" "cells"),
  (.noat "Program" "ports"),
  (.noat "Program" "steps"),
  (.noat "Program" "asks"),
  (.noat "Program" "many"),
  (.noat "Part" "worths"),
  (.noat "Part" "text"),
  (.noat "Part" "cells"),
  (.noat "Part" "ports"),
  (.noat "Part" "starts"),
  (.noat "Part" "doors"),
  (.noat "Part" "steps"),
  (.noat "Part" "asks"),
  (.meth "Lines" "words"),
  (.meth "Lines" "begins"),
  (.meth "Lines" "step"),
  (.meth "Lines" "need"),
  (.meth "Lines" "need_end"),
  (.meth "Program" "read_door"),
  (.meth "Program" "read_block"),
  (.meth "Program" "read_statement"),
  (.meth "Program" "read_if"),
  (.meth "Program" "read_while"),
  (.meth "Program" "read_head"),
  (.meth "Program" "plain_step"),
  (.meth "Program" "ask_step"),
  (.meth "Program" "cell"),
  (.meth "Program" "source"),
  (.meth "Program" "condition")]
def d0 : He.DefD := ⟨("is_integer", none), "is_integer", "is_integer", defArgs s_is_integer, defBody s_is_integer, defScope s_is_integer, [], []⟩
def d1 : He.DefD := ⟨("is_worths", none), "is_worths", "is_worths", defArgs s_is_worths, defBody s_is_worths, defScope s_is_worths, [], []⟩
def d2 : He.DefD := ⟨("is_name", none), "is_name", "is_name", defArgs s_is_name, defBody s_is_name, defScope s_is_name, [], []⟩
def d3 : He.DefD := ⟨("is_door", none), "is_door", "is_door", defArgs s_is_door, defBody s_is_door, defScope s_is_door, [], []⟩
def d4 : He.DefD := ⟨("number", none), "number", "number", defArgs s_number, defBody s_number, defScope s_number, [], []⟩
def d5 : He.DefD := ⟨("read_cells", none), "read_cells", "read_cells", defArgs s_read_cells, defBody s_read_cells, defScope s_read_cells, [], []⟩
def d6 : He.DefD := ⟨("read_ports", none), "read_ports", "read_ports", defArgs s_read_ports, defBody s_read_ports, defScope s_read_ports, [], []⟩
def d7 : He.DefD := ⟨("read_doors", none), "read_doors", "read_doors", defArgs s_read_doors, defBody s_read_doors, defScope s_read_doors, [], []⟩
def d8 : He.DefD := ⟨("_law_box", none), "_law_box", "_law_box", defArgs s__law_box, defBody s__law_box, defScope s__law_box, [], []⟩
def d9 : He.DefD := ⟨("_law_take", none), "_law_take", "_law_take", defArgs sTake, defBody sTake, defScope sTake, [], []⟩
def d10 : He.DefD := ⟨("_law_some", none), "_law_some", "_law_some", defArgs s__law_some, defBody s__law_some, defScope s__law_some, [], []⟩
def d11 : He.DefD := ⟨("_law_heard", none), "_law_heard", "_law_heard", defArgs s__law_heard, defBody s__law_heard, defScope s__law_heard, [], []⟩
def d12 : He.DefD := ⟨("_law_head", none), "_law_head", "_law_head", defArgs s__law_head, defBody s__law_head, defScope s__law_head, [], []⟩
def d13 : He.DefD := ⟨("_law_counts", none), "_law_counts", "_law_counts", defArgs s__law_counts, defBody s__law_counts, defScope s__law_counts, [], []⟩
def d14 : He.DefD := ⟨("_law_depths", none), "_law_depths", "_law_depths", defArgs s__law_depths, defBody s__law_depths, defScope s__law_depths, [], []⟩
def d15 : He.DefD := ⟨("_law_words", none), "_law_words", "_law_words", defArgs s__law_words, defBody s__law_words, defScope s__law_words, [], []⟩
def d16 : He.DefD := ⟨("_law_right", none), "_law_right", "_law_right", defArgs s__law_right, defBody s__law_right, defScope s__law_right, [], []⟩
def d17 : He.DefD := ⟨("law", none), "law", "law", defArgs s_law, defBody s_law, defScope s_law, [], []⟩
def d18 : He.DefD := ⟨("WireError", some "__init__"), "__init__", "WireError.__init__", defArgs s_err, defBody s_err, defScope s_err, [], []⟩
def d19 : He.DefD := ⟨("Lines", some "__init__"), "__init__", "Lines.__init__", defArgs s_Lines___init__, defBody s_Lines___init__, defScope s_Lines___init__, [], []⟩
def d20 : He.DefD := ⟨("Lines", some "words"), "words", "Lines.words", defArgs s_Lines_words, defBody s_Lines_words, defScope s_Lines_words, [], []⟩
def d21 : He.DefD := ⟨("Lines", some "begins"), "begins", "Lines.begins", defArgs s_Lines_begins, defBody s_Lines_begins, defScope s_Lines_begins, [], []⟩
def d22 : He.DefD := ⟨("Lines", some "step"), "step", "Lines.step", defArgs s_Lines_step, defBody s_Lines_step, defScope s_Lines_step, [], []⟩
def d23 : He.DefD := ⟨("Lines", some "need"), "need", "Lines.need", defArgs s_Lines_need, defBody s_Lines_need, defScope s_Lines_need, [], []⟩
def d24 : He.DefD := ⟨("Lines", some "need_end"), "need_end", "Lines.need_end", defArgs s_Lines_need_end, defBody s_Lines_need_end, defScope s_Lines_need_end, [], []⟩
def d25 : He.DefD := ⟨("Program", some "__init__"), "__init__", "Program.__init__", defArgs s_Program___init__, defBody s_Program___init__, defScope s_Program___init__, [], []⟩
def d26 : He.DefD := ⟨("Program", some "read_door"), "read_door", "Program.read_door", defArgs s_Program_read_door, defBody s_Program_read_door, defScope s_Program_read_door, [], []⟩
def d27 : He.DefD := ⟨("Program", some "read_block"), "read_block", "Program.read_block", defArgs s_Program_read_block, defBody s_Program_read_block, defScope s_Program_read_block, [], []⟩
def d28 : He.DefD := ⟨("Program", some "read_statement"), "read_statement", "Program.read_statement", defArgs s_Program_read_statement, defBody s_Program_read_statement, defScope s_Program_read_statement, [], []⟩
def d29 : He.DefD := ⟨("Program", some "read_if"), "read_if", "Program.read_if", defArgs s_Program_read_if, defBody s_Program_read_if, defScope s_Program_read_if, [], []⟩
def d30 : He.DefD := ⟨("Program", some "read_while"), "read_while", "Program.read_while", defArgs s_Program_read_while, defBody s_Program_read_while, defScope s_Program_read_while, [], []⟩
def d31 : He.DefD := ⟨("Program", some "read_head"), "read_head", "Program.read_head", defArgs s_Program_read_head, defBody s_Program_read_head, defScope s_Program_read_head, [], []⟩
def d32 : He.DefD := ⟨("Program", some "plain_step"), "plain_step", "Program.plain_step", defArgs s_Program_plain_step, defBody s_Program_plain_step, defScope s_Program_plain_step, [], []⟩
def d33 : He.DefD := ⟨("Program", some "ask_step"), "ask_step", "Program.ask_step", defArgs s_Program_ask_step, defBody s_Program_ask_step, defScope s_Program_ask_step, [], []⟩
def d34 : He.DefD := ⟨("Program", some "cell"), "cell", "Program.cell", defArgs s_Program_cell, defBody s_Program_cell, defScope s_Program_cell, [], []⟩
def d35 : He.DefD := ⟨("Program", some "source"), "source", "Program.source", defArgs s_Program_source, defBody s_Program_source, defScope s_Program_source, [], []⟩
def d36 : He.DefD := ⟨("Program", some "condition"), "condition", "Program.condition", defArgs s_Program_condition, defBody s_Program_condition, defScope s_Program_condition, [], []⟩
def d37 : He.DefD := ⟨("Part", some "__init__"), "__init__", "Part.__init__", defArgs s_Part___init__, defBody s_Part___init__, defScope s_Part___init__, [], []⟩
def fnL : List He.DefD := [d0, d1, d2, d3, d4, d5, d6, d7, d8, d9, d10, d11, d12, d13, d14, d15, d16, d17, d18, d19, d20, d21, d22, d23, d24, d25, d26, d27, d28, d29, d30, d31, d32, d33, d34, d35, d36, d37]
abbrev tfL : List He.Defn := [("Part", some "__init__")]
theorem funOf {K : PySem.W.Frag} {x qual : Str} {st : Stmt} {f : Addr} {fd : FuncData} (F : FunD K x qual (defArgs st) (defBody st) (defScope st) [] [] f fd) : Fun K x qual st f fd := by
  obtain ⟨oc, od, dV, kV, doc, pm, an, cd, ct, sl, e, lk, hc, hD, _⟩ := F.ex
  rcases hD with ⟨_, rfl⟩ | ⟨z, _⟩
  · exact ⟨⟨oc, od, kV, doc, pm, an, cd, ct, sl, e, lk, hc⟩, F.kp⟩
  · exact absurd rfl z
theorem funTOf {K : PySem.W.Frag} {x qual : Str} {st : Stmt} {p : He.Defn} {fd : FuncData} (F : FunD K x qual (defArgs st) (defBody st) (defScope st) [] [] (He.fAd K p) fd) : FunT K x qual st (He.fAd K p) fd (He.codeOf K p) := by
  obtain ⟨oc, od, dV, kV, doc, pm, an, cd, ct, sl, e, lk, hc, hD, _⟩ := F.ex
  rcases hD with ⟨_, rfl⟩ | ⟨z, _⟩
  · obtain ⟨c, rfl⟩ := He.codeIn_ref hc
    have q := He.codeOf_eq (c := c) lk (by rw [e])
    rw [q]
    exact ⟨⟨oc, od, kV, doc, pm, an, ct, sl, e, lk, hc⟩, F.kp⟩
  · exact absurd rfl z
section
variable {K : PySem.W.Frag} {w : World} {h : Heap} {mg : Str → Option Value}
theorem er_of {x : Str} (X : K.In h) (G : h.Ns mainGlobals mg) (g : mg x = some (.ref (He.ga K x))) (e : (errL K x).all id = true) (e2 : (exL K).all id = true) : Er K mg x (He.ga K x) (He.ma K (He.ga K "WireError") "__init__") where
  O := ⟨oexB_ok (all_at e 0 rfl), of_decide_eq_true (all_at e 1 rfl), of_decide_eq_true (all_at e 2 rfl), of_decide_eq_true (all_at e 3 rfl), all_at e 4 rfl⟩
  g := g
  iC := of_decide_eq_true (all_at e 5 rfl)
  tI := of_decide_eq_true (all_at e2 2 rfl)
  nv := of_decide_eq_true (all_at e 6 rfl)
theorem exc_of {x : Str} (e : (errL K x).all id = true) (e2 : (exL K).all id = true) : ExcC K (He.ga K x) where
  hg := (xfB_ok (all_at e 7 rfl)).ga
  hk := (xfB_ok (all_at e 7 rfl)).gg
  hs := (xfB_ok (all_at e 7 rfl)).exC
  hd := (xfB_ok (all_at e 7 rfl)).hdC
  ha := of_decide_eq_true (all_at e 8 rfl)
  hn := of_decide_eq_true (all_at e2 3 rfl)
  ht := of_decide_eq_true (all_at e2 4 rfl)
  hm := of_decide_eq_true (all_at e 9 rfl)
theorem erC_of (e2 : (exL K).all id = true) : ErC K (He.ga K "WireError") (He.ga K "BadText") (He.ga K "BadWorths") := by
  have eT : (errL K "BadText").all id = true := all_at e2 0 rfl
  have eW : (errL K "BadWorths").all id = true := all_at e2 1 rfl
  exact ⟨of_decide_eq_true (all_at eT 10 rfl), of_decide_eq_true (all_at eW 10 rfl), exc_of eT e2, exc_of eW e2, xfB_ok (all_at eT 7 rfl), xfB_ok (all_at eW 7 rfl), of_decide_eq_true (all_at eT 6 rfl), of_decide_eq_true (all_at eW 6 rfl), of_decide_eq_true (all_at e2 5 rfl), of_decide_eq_true (all_at e2 6 rfl), of_decide_eq_true (all_at e2 7 rfl), of_decide_eq_true (all_at e2 8 rfl), of_decide_eq_true (all_at eT 11 rfl), of_decide_eq_true (all_at eW 11 rfl)⟩
theorem all_mk (RT : RowsT) (TT : TripT) {P : Program} {f : Addr} (X : K.In h) (G : h.Ns mainGlobals mg) (hf : mg ("law" : Str) = some (.ref f)) (c : He.SaysD faL fnL K) (e2 : exB K = true) :
    ∃ fd : FuncData, (∀ (s : Shared) (v : Value), BindsTo s fd ⟨[v], []⟩ [("_law_script", v)]) ∧ ∀ base : Heap, K.In base → base.Ns mainGlobals mg → GxR.TabB base mg (He.codeOf K ("Part", some "__init__")) (He.cT K ("Part", some "__init__")).2 →
      FnG P w K mg base (L2.CX P w) 26 f fd ["_law_script"] (spLaw K (He.cT K ("Part", some "__init__")).2) := by
  have eT : (errL K "BadText").all id = true := all_at e2 0 rfl
  have eW : (errL K "BadWorths").all id = true := all_at e2 1 rfl
  have Bt0 : Bt mg := { m_int := He.free_ok X G (c.fact 25 (f := .free "int") rfl), m_len := He.free_ok X G (c.fact 26 (f := .free "len") rfl), m_abs := He.free_ok X G (c.fact 27 (f := .free "abs") rfl), m_max := He.free_ok X G (c.fact 28 (f := .free "max") rfl), m_min := He.free_ok X G (c.fact 29 (f := .free "min") rfl), m_list := He.free_ok X G (c.fact 30 (f := .free "list") rfl), m_str := He.free_ok X G (c.fact 31 (f := .free "str") rfl), m_bool := He.free_ok X G (c.fact 32 (f := .free "bool") rfl), m_range := He.free_ok X G (c.fact 33 (f := .free "range") rfl), m_isinstance := He.free_ok X G (c.fact 34 (f := .free "isinstance") rfl), m_tuple := He.free_ok X G (c.fact 35 (f := .free "tuple") rfl), m_repr := He.free_ok X G (c.fact 36 (f := .free "repr") rfl) }
  obtain ⟨k0, F0⟩ := c.def_ 0 (d := d0) rfl
  obtain ⟨k1, F1⟩ := c.def_ 1 (d := d1) rfl
  obtain ⟨k2, F2⟩ := c.def_ 2 (d := d2) rfl
  obtain ⟨k3, F3⟩ := c.def_ 3 (d := d3) rfl
  obtain ⟨k4, F4⟩ := c.def_ 4 (d := d4) rfl
  obtain ⟨k5, F5⟩ := c.def_ 5 (d := d5) rfl
  obtain ⟨k6, F6⟩ := c.def_ 6 (d := d6) rfl
  obtain ⟨k7, F7⟩ := c.def_ 7 (d := d7) rfl
  obtain ⟨k8, F8⟩ := c.def_ 8 (d := d8) rfl
  obtain ⟨k9, F9⟩ := c.def_ 9 (d := d9) rfl
  obtain ⟨k10, F10⟩ := c.def_ 10 (d := d10) rfl
  obtain ⟨k11, F11⟩ := c.def_ 11 (d := d11) rfl
  obtain ⟨k12, F12⟩ := c.def_ 12 (d := d12) rfl
  obtain ⟨k13, F13⟩ := c.def_ 13 (d := d13) rfl
  obtain ⟨k14, F14⟩ := c.def_ 14 (d := d14) rfl
  obtain ⟨k15, F15⟩ := c.def_ 15 (d := d15) rfl
  obtain ⟨k16, F16⟩ := c.def_ 16 (d := d16) rfl
  obtain ⟨k17, F17⟩ := c.def_ 17 (d := d17) rfl
  obtain ⟨k18, F18⟩ := c.def_ 18 (d := d18) rfl
  obtain ⟨k19, F19⟩ := c.def_ 19 (d := d19) rfl
  obtain ⟨k20, F20⟩ := c.def_ 20 (d := d20) rfl
  obtain ⟨k21, F21⟩ := c.def_ 21 (d := d21) rfl
  obtain ⟨k22, F22⟩ := c.def_ 22 (d := d22) rfl
  obtain ⟨k23, F23⟩ := c.def_ 23 (d := d23) rfl
  obtain ⟨k24, F24⟩ := c.def_ 24 (d := d24) rfl
  obtain ⟨k25, F25⟩ := c.def_ 25 (d := d25) rfl
  obtain ⟨k26, F26⟩ := c.def_ 26 (d := d26) rfl
  obtain ⟨k27, F27⟩ := c.def_ 27 (d := d27) rfl
  obtain ⟨k28, F28⟩ := c.def_ 28 (d := d28) rfl
  obtain ⟨k29, F29⟩ := c.def_ 29 (d := d29) rfl
  obtain ⟨k30, F30⟩ := c.def_ 30 (d := d30) rfl
  obtain ⟨k31, F31⟩ := c.def_ 31 (d := d31) rfl
  obtain ⟨k32, F32⟩ := c.def_ 32 (d := d32) rfl
  obtain ⟨k33, F33⟩ := c.def_ 33 (d := d33) rfl
  obtain ⟨k34, F34⟩ := c.def_ 34 (d := d34) rfl
  obtain ⟨k35, F35⟩ := c.def_ 35 (d := d35) rfl
  obtain ⟨k36, F36⟩ := c.def_ 36 (d := d36) rfl
  obtain ⟨k37, F37⟩ := c.def_ 37 (d := d37) rfl
  have e := hf.symm.trans (He.glo_ok X G (c.fact 17 (f := .glo "law") rfl))
  cases e
  have b0 : Binds K k0 ["value"] [] := FunD.bindsN F0 fun _ _ _ _ _ _ us hl => match us, hl with | [_], _ => rfl
  have D0 : Df K mg "is_integer" s_is_integer (He.fAd K ("is_integer", none)) k0 ["value"] := ⟨funOf (st := s_is_integer) F0, He.glo_ok X G (c.fact 0 (f := .glo "is_integer") rfl), b0⟩
  have b1 : Binds K k1 ["value"] [] := FunD.bindsN F1 fun _ _ _ _ _ _ us hl => match us, hl with | [_], _ => rfl
  have D1 : Df K mg "is_worths" s_is_worths (He.fAd K ("is_worths", none)) k1 ["value"] := ⟨funOf (st := s_is_worths) F1, He.glo_ok X G (c.fact 1 (f := .glo "is_worths") rfl), b1⟩
  have b2 : Binds K k2 ["value"] [] := FunD.bindsN F2 fun _ _ _ _ _ _ us hl => match us, hl with | [_], _ => rfl
  have D2 : Df K mg "is_name" s_is_name (He.fAd K ("is_name", none)) k2 ["value"] := ⟨funOf (st := s_is_name) F2, He.glo_ok X G (c.fact 2 (f := .glo "is_name") rfl), b2⟩
  have b3 : Binds K k3 ["value"] [] := FunD.bindsN F3 fun _ _ _ _ _ _ us hl => match us, hl with | [_], _ => rfl
  have D3 : Df K mg "is_door" s_is_door (He.fAd K ("is_door", none)) k3 ["value"] := ⟨funOf (st := s_is_door) F3, He.glo_ok X G (c.fact 3 (f := .glo "is_door") rfl), b3⟩
  have b4 : Binds K k4 ["word", "many"] [] := FunD.bindsN F4 fun _ _ _ _ _ _ us hl => match us, hl with | [_, _], _ => rfl
  have D4 : Df K mg "number" s_number (He.fAd K ("number", none)) k4 ["word", "many"] := ⟨funOf (st := s_number) F4, He.glo_ok X G (c.fact 4 (f := .glo "number") rfl), b4⟩
  have b5 : Binds K k5 ["lines", "worths"] [] := FunD.bindsN F5 fun _ _ _ _ _ _ us hl => match us, hl with | [_, _], _ => rfl
  have D5 : Df K mg "read_cells" s_read_cells (He.fAd K ("read_cells", none)) k5 ["lines", "worths"] := ⟨funOf (st := s_read_cells) F5, He.glo_ok X G (c.fact 5 (f := .glo "read_cells") rfl), b5⟩
  have b6 : Binds K k6 ["lines"] [] := FunD.bindsN F6 fun _ _ _ _ _ _ us hl => match us, hl with | [_], _ => rfl
  have D6 : Df K mg "read_ports" s_read_ports (He.fAd K ("read_ports", none)) k6 ["lines"] := ⟨funOf (st := s_read_ports) F6, He.glo_ok X G (c.fact 6 (f := .glo "read_ports") rfl), b6⟩
  have b7 : Binds K k7 ["lines", "program"] [] := FunD.bindsN F7 fun _ _ _ _ _ _ us hl => match us, hl with | [_, _], _ => rfl
  have D7 : Df K mg "read_doors" s_read_doors (He.fAd K ("read_doors", none)) k7 ["lines", "program"] := ⟨funOf (st := s_read_doors) F7, He.glo_ok X G (c.fact 7 (f := .glo "read_doors") rfl), b7⟩
  have b8 : Binds K k8 ["_law_script", "_law_k"] [] := FunD.bindsN F8 fun _ _ _ _ _ _ us hl => match us, hl with | [_, _], _ => rfl
  have D8 : Df K mg "_law_box" s__law_box (He.fAd K ("_law_box", none)) k8 ["_law_script", "_law_k"] := ⟨funOf (st := s__law_box) F8, He.glo_ok X G (c.fact 8 (f := .glo "_law_box") rfl), b8⟩
  have b9 : Binds K k9 ["_law_box_here", "_law_many"] [] := FunD.bindsN F9 fun _ _ _ _ _ _ us hl => match us, hl with | [_, _], _ => rfl
  have D9 : Df K mg "_law_take" sTake (He.fAd K ("_law_take", none)) k9 ["_law_box_here", "_law_many"] := ⟨funOf (st := sTake) F9, He.glo_ok X G (c.fact 9 (f := .glo "_law_take") rfl), b9⟩
  have b10 : Binds K k10 ["_law_box_here", "_law_items", "_law_many"] [] := FunD.bindsN F10 fun _ _ _ _ _ _ us hl => match us, hl with | [_, _, _], _ => rfl
  have D10 : Df K mg "_law_some" s__law_some (He.fAd K ("_law_some", none)) k10 ["_law_box_here", "_law_items", "_law_many"] := ⟨funOf (st := s__law_some) F10, He.glo_ok X G (c.fact 10 (f := .glo "_law_some") rfl), b10⟩
  have b11 : Binds K k11 ["_law_many", "_law_page"] [] := FunD.bindsN F11 fun _ _ _ _ _ _ us hl => match us, hl with | [_, _], _ => rfl
  have D11 : Df K mg "_law_heard" s__law_heard (He.fAd K ("_law_heard", none)) k11 ["_law_many", "_law_page"] := ⟨funOf (st := s__law_heard) F11, He.glo_ok X G (c.fact 11 (f := .glo "_law_heard") rfl), b11⟩
  have b12 : Binds K k12 ["_law_c", "_law_p"] [] := FunD.bindsN F12 fun _ _ _ _ _ _ us hl => match us, hl with | [_, _], _ => rfl
  have D12 : Df K mg "_law_head" s__law_head (He.fAd K ("_law_head", none)) k12 ["_law_c", "_law_p"] := ⟨funOf (st := s__law_head) F12, He.glo_ok X G (c.fact 12 (f := .glo "_law_head") rfl), b12⟩
  have b13 : Binds K k13 ["_law_c", "_law_p", "_law_d"] [] := FunD.bindsN F13 fun _ _ _ _ _ _ us hl => match us, hl with | [_, _, _], _ => rfl
  have D13 : Df K mg "_law_counts" s__law_counts (He.fAd K ("_law_counts", none)) k13 ["_law_c", "_law_p", "_law_d"] := ⟨funOf (st := s__law_counts) F13, He.glo_ok X G (c.fact 13 (f := .glo "_law_counts") rfl), b13⟩
  have b14 : Binds K k14 ["_law_c", "_law_p", "_law_d"] [] := FunD.bindsN F14 fun _ _ _ _ _ _ us hl => match us, hl with | [_, _, _], _ => rfl
  have D14 : Df K mg "_law_depths" s__law_depths (He.fAd K ("_law_depths", none)) k14 ["_law_c", "_law_p", "_law_d"] := ⟨funOf (st := s__law_depths) F14, He.glo_ok X G (c.fact 14 (f := .glo "_law_depths") rfl), b14⟩
  have b15 : Binds K k15 ["_law_c", "_law_p", "_law_d"] [] := FunD.bindsN F15 fun _ _ _ _ _ _ us hl => match us, hl with | [_, _, _], _ => rfl
  have D15 : Df K mg "_law_words" s__law_words (He.fAd K ("_law_words", none)) k15 ["_law_c", "_law_p", "_law_d"] := ⟨funOf (st := s__law_words) F15, He.glo_ok X G (c.fact 15 (f := .glo "_law_words") rfl), b15⟩
  have b16 : Binds K k16 ["_law_box_here"] [] := FunD.bindsN F16 fun _ _ _ _ _ _ us hl => match us, hl with | [_], _ => rfl
  have D16 : Df K mg "_law_right" s__law_right (He.fAd K ("_law_right", none)) k16 ["_law_box_here"] := ⟨funOf (st := s__law_right) F16, He.glo_ok X G (c.fact 16 (f := .glo "_law_right") rfl), b16⟩
  have b17 : Binds K k17 ["_law_script"] [] := FunD.bindsN F17 fun _ _ _ _ _ _ us hl => match us, hl with | [_], _ => rfl
  have D17 : Df K mg "law" s_law (He.fAd K ("law", none)) k17 ["_law_script"] := ⟨funOf (st := s_law) F17, He.glo_ok X G (c.fact 17 (f := .glo "law") rfl), b17⟩
  have b18 : Binds K k18 ["self", "value"] [] := FunD.bindsN F18 fun _ _ _ _ _ _ us hl => match us, hl with | [_, _], _ => rfl
  have U18 : Fun K "__init__" "WireError.__init__" s_err (He.fAd K ("WireError", some "__init__")) k18 := funOf (st := s_err) F18
  have b19 : Binds K k19 ["self", "text"] [] := FunD.bindsN F19 fun _ _ _ _ _ _ us hl => match us, hl with | [_, _], _ => rfl
  have U19 : Fun K "__init__" "Lines.__init__" s_Lines___init__ (He.fAd K ("Lines", some "__init__")) k19 := funOf (st := s_Lines___init__) F19
  have b20 : Binds K k20 ["self", "depth"] [] := FunD.bindsN F20 fun _ _ _ _ _ _ us hl => match us, hl with | [_, _], _ => rfl
  have M20 : Mf K (He.ga K "Lines") "words" "Lines.words" s_Lines_words (He.fAd K ("Lines", some "words")) k20 ["self", "depth"] := ⟨funOf (st := s_Lines_words) F20, He.meth_ok (c.fact 67 (f := .meth "Lines" "words") rfl), b20⟩
  have b21 : Binds K k21 ["self", "word"] [] := FunD.bindsN F21 fun _ _ _ _ _ _ us hl => match us, hl with | [_, _], _ => rfl
  have M21 : Mf K (He.ga K "Lines") "begins" "Lines.begins" s_Lines_begins (He.fAd K ("Lines", some "begins")) k21 ["self", "word"] := ⟨funOf (st := s_Lines_begins) F21, He.meth_ok (c.fact 68 (f := .meth "Lines" "begins") rfl), b21⟩
  have b22 : Binds K k22 ["self"] [] := FunD.bindsN F22 fun _ _ _ _ _ _ us hl => match us, hl with | [_], _ => rfl
  have M22 : Mf K (He.ga K "Lines") "step" "Lines.step" s_Lines_step (He.fAd K ("Lines", some "step")) k22 ["self"] := ⟨funOf (st := s_Lines_step) F22, He.meth_ok (c.fact 69 (f := .meth "Lines" "step") rfl), b22⟩
  have b23 : Binds K k23 ["self", "right"] [] := FunD.bindsN F23 fun _ _ _ _ _ _ us hl => match us, hl with | [_, _], _ => rfl
  have M23 : Mf K (He.ga K "Lines") "need" "Lines.need" s_Lines_need (He.fAd K ("Lines", some "need")) k23 ["self", "right"] := ⟨funOf (st := s_Lines_need) F23, He.meth_ok (c.fact 70 (f := .meth "Lines" "need") rfl), b23⟩
  have b24 : Binds K k24 ["self"] [] := FunD.bindsN F24 fun _ _ _ _ _ _ us hl => match us, hl with | [_], _ => rfl
  have M24 : Mf K (He.ga K "Lines") "need_end" "Lines.need_end" s_Lines_need_end (He.fAd K ("Lines", some "need_end")) k24 ["self"] := ⟨funOf (st := s_Lines_need_end) F24, He.meth_ok (c.fact 71 (f := .meth "Lines" "need_end") rfl), b24⟩
  have b25 : Binds K k25 ["self", "lines", "worths", "cells", "ports"] [] := FunD.bindsN F25 fun _ _ _ _ _ _ us hl => match us, hl with | [_, _, _, _, _], _ => rfl
  have U25 : Fun K "__init__" "Program.__init__" s_Program___init__ (He.fAd K ("Program", some "__init__")) k25 := funOf (st := s_Program___init__) F25
  have b26 : Binds K k26 ["self"] [] := FunD.bindsN F26 fun _ _ _ _ _ _ us hl => match us, hl with | [_], _ => rfl
  have M26 : Mf K (He.ga K "Program") "read_door" "Program.read_door" s_Program_read_door (He.fAd K ("Program", some "read_door")) k26 ["self"] := ⟨funOf (st := s_Program_read_door) F26, He.meth_ok (c.fact 72 (f := .meth "Program" "read_door") rfl), b26⟩
  have b27 : Binds K k27 ["self", "depth", "asks_first"] [] := FunD.bindsN F27 fun _ _ _ _ _ _ us hl => match us, hl with | [_, _, _], _ => rfl
  have M27 : Mf K (He.ga K "Program") "read_block" "Program.read_block" s_Program_read_block (He.fAd K ("Program", some "read_block")) k27 ["self", "depth", "asks_first"] := ⟨funOf (st := s_Program_read_block) F27, He.meth_ok (c.fact 73 (f := .meth "Program" "read_block") rfl), b27⟩
  have b28 : Binds K k28 ["self", "words", "depth"] [] := FunD.bindsN F28 fun _ _ _ _ _ _ us hl => match us, hl with | [_, _, _], _ => rfl
  have M28 : Mf K (He.ga K "Program") "read_statement" "Program.read_statement" s_Program_read_statement (He.fAd K ("Program", some "read_statement")) k28 ["self", "words", "depth"] := ⟨funOf (st := s_Program_read_statement) F28, He.meth_ok (c.fact 74 (f := .meth "Program" "read_statement") rfl), b28⟩
  have b29 : Binds K k29 ["self", "words", "depth"] [] := FunD.bindsN F29 fun _ _ _ _ _ _ us hl => match us, hl with | [_, _, _], _ => rfl
  have M29 : Mf K (He.ga K "Program") "read_if" "Program.read_if" s_Program_read_if (He.fAd K ("Program", some "read_if")) k29 ["self", "words", "depth"] := ⟨funOf (st := s_Program_read_if) F29, He.meth_ok (c.fact 75 (f := .meth "Program" "read_if") rfl), b29⟩
  have b30 : Binds K k30 ["self", "words", "depth"] [] := FunD.bindsN F30 fun _ _ _ _ _ _ us hl => match us, hl with | [_, _, _], _ => rfl
  have M30 : Mf K (He.ga K "Program") "read_while" "Program.read_while" s_Program_read_while (He.fAd K ("Program", some "read_while")) k30 ["self", "words", "depth"] := ⟨funOf (st := s_Program_read_while) F30, He.meth_ok (c.fact 76 (f := .meth "Program" "read_while") rfl), b30⟩
  have b31 : Binds K k31 ["self", "words", "depth"] [] := FunD.bindsN F31 fun _ _ _ _ _ _ us hl => match us, hl with | [_, _, _], _ => rfl
  have M31 : Mf K (He.ga K "Program") "read_head" "Program.read_head" s_Program_read_head (He.fAd K ("Program", some "read_head")) k31 ["self", "words", "depth"] := ⟨funOf (st := s_Program_read_head) F31, He.meth_ok (c.fact 77 (f := .meth "Program" "read_head") rfl), b31⟩
  have b32 : Binds K k32 ["self", "words"] [] := FunD.bindsN F32 fun _ _ _ _ _ _ us hl => match us, hl with | [_, _], _ => rfl
  have M32 : Mf K (He.ga K "Program") "plain_step" "Program.plain_step" s_Program_plain_step (He.fAd K ("Program", some "plain_step")) k32 ["self", "words"] := ⟨funOf (st := s_Program_plain_step) F32, He.meth_ok (c.fact 78 (f := .meth "Program" "plain_step") rfl), b32⟩
  have b33 : Binds K k33 ["self", "port", "door", "word"] [] := FunD.bindsN F33 fun _ _ _ _ _ _ us hl => match us, hl with | [_, _, _, _], _ => rfl
  have M33 : Mf K (He.ga K "Program") "ask_step" "Program.ask_step" s_Program_ask_step (He.fAd K ("Program", some "ask_step")) k33 ["self", "port", "door", "word"] := ⟨funOf (st := s_Program_ask_step) F33, He.meth_ok (c.fact 79 (f := .meth "Program" "ask_step") rfl), b33⟩
  have b34 : Binds K k34 ["self", "word"] [] := FunD.bindsN F34 fun _ _ _ _ _ _ us hl => match us, hl with | [_, _], _ => rfl
  have M34 : Mf K (He.ga K "Program") "cell" "Program.cell" s_Program_cell (He.fAd K ("Program", some "cell")) k34 ["self", "word"] := ⟨funOf (st := s_Program_cell) F34, He.meth_ok (c.fact 80 (f := .meth "Program" "cell") rfl), b34⟩
  have b35 : Binds K k35 ["self", "word"] [] := FunD.bindsN F35 fun _ _ _ _ _ _ us hl => match us, hl with | [_, _], _ => rfl
  have M35 : Mf K (He.ga K "Program") "source" "Program.source" s_Program_source (He.fAd K ("Program", some "source")) k35 ["self", "word"] := ⟨funOf (st := s_Program_source) F35, He.meth_ok (c.fact 81 (f := .meth "Program" "source") rfl), b35⟩
  have b36 : Binds K k36 ["self", "words"] [] := FunD.bindsN F36 fun _ _ _ _ _ _ us hl => match us, hl with | [_, _], _ => rfl
  have M36 : Mf K (He.ga K "Program") "condition" "Program.condition" s_Program_condition (He.fAd K ("Program", some "condition")) k36 ["self", "words"] := ⟨funOf (st := s_Program_condition) F36, He.meth_ok (c.fact 82 (f := .meth "Program" "condition") rfl), b36⟩
  have b37 : Binds K k37 ["self", "worths", "text"] [] := FunD.bindsN F37 fun _ _ _ _ _ _ us hl => match us, hl with | [_, _, _], _ => rfl
  have CLs : ClL K (He.ga K "Lines") := ⟨He.cls_ok (c.fact 44 (f := .cls "Lines") rfl), He.noat_ok (c.fact 50 (f := .noat "Lines" "rows") rfl), He.noat_ok (c.fact 51 (f := .noat "Lines" "at") rfl)⟩
  have CPr : ClP K (He.ga K "Program") := by
    refine ⟨He.cls_ok (c.fact 46 (f := .cls "Program") rfl), fun x hx => ?_⟩
    unfold pNames at hx
    simp only [List.mem_cons, List.not_mem_nil, or_false] at hx
    rcases hx with rfl | rfl | rfl | rfl | rfl | rfl | rfl
    · exact He.noat_ok (c.fact 52 (f := .noat "Program" "lines") rfl)
    · exact He.noat_ok (c.fact 53 (f := .noat "Program" "worths") rfl)
    · exact He.noat_ok (c.fact 54 (f := .noat "Program" "cells") rfl)
    · exact He.noat_ok (c.fact 55 (f := .noat "Program" "ports") rfl)
    · exact He.noat_ok (c.fact 56 (f := .noat "Program" "steps") rfl)
    · exact He.noat_ok (c.fact 57 (f := .noat "Program" "asks") rfl)
    · exact He.noat_ok (c.fact 58 (f := .noat "Program" "many") rfl)
  have CPt : ClT K (He.ga K "Part") := by
    refine ⟨He.cls_ok (c.fact 48 (f := .cls "Part") rfl), fun x hx => ?_⟩
    simp only [List.mem_cons, List.not_mem_nil, or_false] at hx
    rcases hx with rfl | rfl | rfl | rfl | rfl | rfl | rfl | rfl
    · exact He.noat_ok (c.fact 59 (f := .noat "Part" "worths") rfl)
    · exact He.noat_ok (c.fact 60 (f := .noat "Part" "text") rfl)
    · exact He.noat_ok (c.fact 61 (f := .noat "Part" "cells") rfl)
    · exact He.noat_ok (c.fact 62 (f := .noat "Part" "ports") rfl)
    · exact He.noat_ok (c.fact 63 (f := .noat "Part" "starts") rfl)
    · exact He.noat_ok (c.fact 64 (f := .noat "Part" "doors") rfl)
    · exact He.noat_ok (c.fact 65 (f := .noat "Part" "steps") rfl)
    · exact He.noat_ok (c.fact 66 (f := .noat "Part" "asks") rfl)
  have KLines : Mk K (He.ga K "Lines") (He.fAd K ("Lines", some "__init__")) := He.mkr_ok (c.fact 45 (f := .mkr "Lines") rfl)
  have KProgram : Mk K (He.ga K "Program") (He.fAd K ("Program", some "__init__")) := He.mkr_ok (c.fact 47 (f := .mkr "Program") rfl)
  have KPart : Mk K (He.ga K "Part") (He.fAd K ("Part", some "__init__")) := He.mkr_ok (c.fact 49 (f := .mkr "Part") rfl)
  have gWireError : mg "WireError" = some (.ref (He.ga K "WireError")) := He.glo_ok X G (c.fact 18 (f := .glo "WireError") rfl)
  have gBadText : mg "BadText" = some (.ref (He.ga K "BadText")) := He.glo_ok X G (c.fact 19 (f := .glo "BadText") rfl)
  have gBadWorths : mg "BadWorths" = some (.ref (He.ga K "BadWorths")) := He.glo_ok X G (c.fact 20 (f := .glo "BadWorths") rfl)
  have gLines : mg "Lines" = some (.ref (He.ga K "Lines")) := He.glo_ok X G (c.fact 21 (f := .glo "Lines") rfl)
  have gProgram : mg "Program" = some (.ref (He.ga K "Program")) := He.glo_ok X G (c.fact 22 (f := .glo "Program") rfl)
  have gPart : mg "Part" = some (.ref (He.ga K "Part")) := He.glo_ok X G (c.fact 23 (f := .glo "Part") rfl)
  have cMOST_IN_BLOCK : ∃ t, mg "MOST_IN_BLOCK" = some (.int 8 t) := He.int_ok X G (c.fact 38 (f := .int "MOST_IN_BLOCK" 8) rfl)
  have cMOST_STATEMENTS : ∃ t, mg "MOST_STATEMENTS" = some (.int 24 t) := He.int_ok X G (c.fact 39 (f := .int "MOST_STATEMENTS" 24) rfl)
  have cDEEPEST : ∃ t, mg "DEEPEST" = some (.int 3 t) := He.int_ok X G (c.fact 40 (f := .int "DEEPEST" 3) rfl)
  have cMOST_CELLS : ∃ t, mg "MOST_CELLS" = some (.int 3 t) := He.int_ok X G (c.fact 41 (f := .int "MOST_CELLS" 3) rfl)
  have cMOST_PORTS : ∃ t, mg "MOST_PORTS" = some (.int 2 t) := He.int_ok X G (c.fact 42 (f := .int "MOST_PORTS" 2) rfl)
  have cMOST_DOORS : ∃ t, mg "MOST_DOORS" = some (.int 3 t) := He.int_ok X G (c.fact 43 (f := .int "MOST_DOORS" 3) rfl)
  have cBAR : ∃ b, mg "BARRED_CELLS" = some (.ref b) ∧ ∀ H : Hp, SqT K H b ((["it", "got", "lost", "busy"] : List Str).map V.str) := ⟨_, He.glo_ok X G (c.fact 24 (f := .glo "BARRED_CELLS") rfl), fun H => He.tupB_ok (all_at e2 9 rfl) H⟩
  have ET : Er K mg "BadText" (He.ga K "BadText") (He.fAd K ("WireError", some "__init__")) := er_of X G gBadText eT e2
  have EW : Er K mg "BadWorths" (He.ga K "BadWorths") (He.fAd K ("WireError", some "__init__")) := er_of X G gBadWorths eW e2
  refine ⟨_, fun s v => FunD.bindsA (ps := ["_law_script"]) F17 (fun _ _ _ _ _ _ us hl => match us, hl with | [_], _ => rfl) s [v] rfl, fun base XB GB TB1 => ?_⟩
  have Gneed := ok_need (P := P) (w := w) (mg := mg) (base := base) CLs M23.F ET U18 b18
  have Gnum := ok_number (P := P) (w := w) (mg := mg) (base := base) Bt0 D4
  have Gname := ok_is_name (P := P) (w := w) (mg := mg) (base := base) Bt0 D2
  have Gdoor := ok_is_door (P := P) (w := w) (mg := mg) (base := base) Bt0 D3 D2
  have Gwords := ok_words (P := P) (w := w) (mg := mg) (base := base) Bt0 CLs M20.F
  have Gbeg := ok_begins (P := P) (w := w) (mg := mg) (base := base) Bt0 CLs M21.F M20
  have Gstep := ok_step (P := P) (w := w) (mg := mg) (base := base) CLs M22.F
  have Gend := ok_need_end (P := P) (w := w) (mg := mg) (base := base) Bt0 CLs M24.F M23 ET U18 b18
  have GLi := ok_Lines_init (P := P) (w := w) (mg := mg) (base := base) Bt0 CLs U19 ET U18 b18
  have Gerr := ok_err (P := P) (w := w) (mg := mg) (base := base) U18
  have Gwo := ok_is_worths (P := P) (w := w) (mg := mg) (base := base) Bt0 D1 D0
  have N1 : En P w K mg base _ _ _ _ _ _ _ _ _ := ⟨Bt0, CLs, CPr, M23, Gneed, D4, Gnum, D3, Gdoor⟩
  have Gcond := ok_condition N1 M36.F M35
  have Gplain := ok_plain_step N1 M32.F M35 M34 M33
  have N2 : En2 P w K mg base _ _ _ _ _ _ _ _ _ _ _ := ⟨M20, Gwords, M22, Gstep, M36, Gcond, M32, Gplain, cDEEPEST, cMOST_IN_BLOCK, cMOST_STATEMENTS⟩
  have N3 : En3 K (He.ga K "Program") _ _ _ _ _ _ _ _ _ _ := ⟨M31, M29, M30, M28, M27⟩
  have Gblock := ok_block N1 N2 N3 2 (by decide)
  have Grd := ok_read_door N1 M26.F M27 Gblock
  have GPi := ok_Program_init (P := P) (w := w) (mg := mg) (base := base) CPr U25
  have N4 : En4 P w K mg base (He.ga K "Lines") (He.ga K "BadText") _ _ _ _ _ _ _ _ _ _ _ _ _ _ := ⟨Bt0, CLs, M21, Gbeg, M20, Gwords, M22, Gstep, M23, Gneed, D2, Gname, D3, Gdoor, D4, Gnum, cMOST_PORTS, cMOST_CELLS, cMOST_DOORS, cBAR⟩
  have Gports := ok_read_ports N4 D6
  have Gcells := ok_read_cells N4 D5
  have Gdoors := ok_read_doors N4 CPr D7 M26 Grd
  have FT := funTOf (st := s_Part___init__) (p := ("Part", some "__init__")) F37
  have GPart := ok_Part_init N4 CPr CPt FT TB1 EW Gerr b18 D1 Gwo KLines gLines b19 GLi D5 Gcells D6 Gports KProgram gProgram b25 GPi D7 Gdoors M24 Gend
  have Gheard := ok_heard Bt0 (erC_of e2) gWireError gBadText gBadWorths (He.free_ok X G (c.fact 37 (f := .free "ValueError") rfl)) KPart gPart b37 GPart D11
  have Gsome := ok_some (P := P) (w := w) (mg := mg) (base := base) Bt0 D10 D9
  have Ghead := ok_law_head (P := P) (w := w) (mg := mg) (base := base) D12
  have Gcounts := okl_counts (P := P) (w := w) (mg := mg) (base := base) D13
  have Gdepths := ok_depths (P := P) (w := w) (mg := mg) (base := base) D12 D14
  have Gwds := okl_words (P := P) (w := w) (mg := mg) (base := base) D12 D15
  have Rk1 : Rk P w K mg base _ _ _ _ _ _ _ _ _ _ _ _ _ _ _ _ _ _ := ⟨Bt0, D10, Gsome, D12, Ghead, D13, Gcounts, D14, Gdepths, D15, Gwds, D11, Gheard, KPart, gPart, b37, GPart, CPt⟩
  have Gright := ok_right RT TT Rk1 D16
  have Gbox := ok_box (P := P) (w := w) (mg := mg) (base := base) Bt0 D8
  exact ok_law Bt0 D8 Gbox D16 Gright D17.F
end
end K5
namespace K5
open PySem PySem.Spec PyProof.Rows L2
abbrev R5 : PySem.W.OpenRow := PySem.W.OpenLaw.row PySem.Challenge.rw_truestandins_k05_parts_at_their_bounds
def namesL : List Str := ["__name__", "_wall", "WireError", "BadWorths", "BadText", "is_integer", "is_worths", "is_name", "is_door", "Lines", "number", "MOST_IN_BLOCK", "MOST_STATEMENTS", "DEEPEST", "Program", "BARRED_CELLS", "MOST_CELLS", "MOST_PORTS", "MOST_DOORS", "Part", "read_cells", "read_ports", "read_doors", "_law_box", "_law_take", "_law_some", "_law_heard", "_law_head", "_law_counts", "_law_depths", "_law_words", "_law_right"]
abbrev hk5 : PySem.W.Hook := He.hookX 5 faL fnL [] tfL exB
def ob5 (s : PySem.W.SharedT) : He.AlX := He.obsX 5 faL fnL [] tfL exB (HandSHeadRun.getT s)
theorem ob5_eq (s : PySem.W.SharedT) : ob5 s = hk5.obs s.abs := He.obsX_eq (HandSHeadRun.getT_eq s)
theorem run5 (w : World) : HandSHeadRun.RunEq R5 (PySem.W.view R5.prog [37]) hk5 ob5 6000 namesL w := by
  intro os
  kernel_rfl
end K5
namespace K5
open PySem PySem.Spec PyProof.Rows L2
theorem walk5 {q : Program} {loose : List Str} {XP : (Str → Option Value) → Heap → Prop} {d : DefRec} (hn : (PySem.Challenge.rw_truestandins_k05_parts_at_their_bounds).most = some 63) (hdf : d.params.defaults = []) (hname : d.name = ("law" : Str)) :
    PySem.W.WalkO q loose XP hk5.says (PySem.W.OpenLaw.row PySem.Challenge.rw_truestandins_k05_parts_at_their_bounds).toRowW d [] (fun f vs => PySem.call f vs) := by
  refine Att.attach_callB hn hdf fun w s₀ st mg mb fa o pm cd doc a us ns G Y ho hd hcd hmg arg whole len bits gens => ?_
  obtain ⟨K, KX, c⟩ := Y
  rw [hname] at hmg
  have mem : (("Part", some "__init__") : He.Defn) ∈ tfL := List.mem_singleton.mpr rfl
  obtain ⟨fd, hb, hF⟩ := all_mk (P := (PySem.Challenge.rw_truestandins_k05_parts_at_their_bounds).prog) (w := w) rowOk_ok tripAll_ok KX G.T.g hmg c.t.d c.more
  refine law_G (cs := [He.cT K ("Part", some "__init__")]) (x := "_law_script") (lv := 26) KX G.T.g G.T.b G.T.builtins G.T.nolimit gens (fun p hp => ?_) (fun p hp => ?_) (fun p hp => ?_) G.T.bmain arg whole (Nat.le_trans len (by decide)) ⟨rfl, by decide, by decide⟩ (fun base XB GB TB => hF base XB GB (TB _ (List.mem_singleton.mpr rfl))) hb (fun H hH hS => ?_) fun H e s2 z => ?_
  · rw [List.mem_singleton.mp hp]
    exact c.empty _ mem
  · rw [List.mem_singleton.mp hp]
    exact c.out _ mem
  · rw [List.mem_singleton.mp hp]
    exact PySem.W.codeHd_of_K KX (c.hd _ mem)
  · have hT := hH _ (List.mem_singleton.mpr rfl)
    refine ⟨a, ns, rfl, hS, ⟨#[], hT, ?_⟩, fun e => ?_, fun _ => rfl⟩
    · trivial
    · rw [e] at hS
      rcases hS with (h | ⟨u, h⟩) | ⟨u, its, m, lk, _⟩
      · rw [hT] at h
        cases h
      · rw [hT] at h
        cases h
      · rw [c.out _ mem] at lk
        cases lk
  · obtain ⟨_, _, _, _, _, _, _, _, _, _, _, _, z⟩ := z
    exact z.elim
end K5
open PySem PySem.W PySem.Calls PyProof.Rows
theorem PySem.Challenge.cw_truestandins_k05_parts_at_their_bounds_holds : PySem.Challenge.rw_truestandins_k05_parts_at_their_bounds.Holds := by
  w_on; o_law
  refine HandSHeadRun.head_any (r := K5.R5) (q := view K5.R5.prog [37]) (H := K5.hk5) (ob := K5.ob5) (M := 6000) (loose := K5.namesL) (d := HandSHeadRun.topDef K5.R5.prog 37) (kwd := []) K5.ob5_eq
    (by kernel_rfl) (fun s => by kernel_rfl) K5.run5 (by kernel_rfl) (by kernel_rfl) (by kernel_rfl) (by rfl) (by first | assumption | decide +kernel) (by decide +kernel) ⟨rfl, rfl, rfl, rfl, rfl, by decide +kernel⟩ ?hw ?hc
  case hw => w_witness2
  case hc => exact K5.walk5 rfl (by kernel_rfl) (by kernel_rfl)
