import PyProof.Rows.All
import PyProof.GenCompT
import PyProof.TupleOfGen
import PyProof.CollectWalk
import PyProof.WalksPairs
import HandS.Dict
import HandS.GenOver
import HandS.Nested
import HandS.AnyAll
import Wide.All
import OpenK.AllK
import Wide.FinOn
import HandS.ForMost
import HandS.Wide
import HandS.Steps
import HandS.IsInst
import HandS.StrMore
import HandS.Flow
import HandS.ForExc
import HandS.ExcInit
import HandS.Text
import PyProof.StrLawsChain
import HandS.TupAny
import HandS.Strs
import HandS.Conv
import HandS.More
import HandS.Iter
import KE.SortData
import KE.KDictList
import HandS.FStr
import PyProof.Rows.StrMeet
import HandS.Style
import KE.GoesEnum
import KE.GoesMore
import KE.KRevSl
import PyProof.StrLawsTight
import PyProof.Rows.StrCut
import KE.DataCmp
import HandS.TupSets
import HandS.SetTxt0
import KE.KeyNested
import PyProof.Rows.SortShellAny
import KE.KLam
import KE.SortKeyHeap
import HandS.Lambda
import HandS.TupLe
import HandS.RaiseMore
import PyProof.ReprRoads
import PyProof.Rows.RegFStrParts
import PyProof.ReprReads
import HandS.HeadHook4
import HandS.HeadWalk
import HandS.Head2
import PySem.Challenge.RW_truestandins_k08_pacts_written_and_read
set_option Elab.async false
set_option linter.all false
set_option maxRecDepth 100000
set_option maxHeartbeats 0
/-! generator expressions whose elements are new objects: what they hold stays known -/
namespace GH
open PySem
section
variable {prog : Program} {w : World} {A : Around}
/-- the walk under a generator expression: a thing is drawn, taken apart, bound -/
structure Turns (prog : Program) (w : World) (tgt : Expr) (cenv : Env) (I : Addr) (fp wr : List Addr) (n : Nat) (Bd : Nat → (Str → Option Value) → Prop) (St : Nat → Heap → Prop) : Prop where
  sub : ∀ b ∈ wr, b ∈ fp
  frame : ∀ i g g', St i g → (∀ b ∈ fp, ∀ o, g.get? b = some o → g'.get? b = some o) → St i g'
  there : ∀ i g, St i g → ∀ b ∈ wr, ∃ o, g.get? b = some o
  adv : ∀ (B : Around) (Z : Value → Shared → Prop) (i : Nat) (s : Shared) (m : Str → Option Value), B.handled = none → i < n → St i s.heap → s.heap.Ns cenv.locals m →
    wpAny (model prog w) B (pyNext (.ref I)) (fun ov s1 => ∃ v, ov = some v ∧ wpAny (model prog w) B (letOwnedTupleGo tgt (.ref I) v) (fun _ s2 => wpAny (model prog w) B (assign tgt cenv v) (fun _ s3 =>
      ∃ (g : Heap) (tk : Nat) (m2 : Str → Option Value), s3 = { s with heap := g, toks := tk } ∧ Bd i m2 ∧ g.Ns cenv.locals m2 ∧ St (i + 1) g ∧ ∀ b o, b ≠ cenv.locals → b ∉ wr → s.heap.get? b = some o → g.get? b = some o) Z s2) Z s1) Z s
  done : ∀ (B : Around) (s : Shared) (Q : Option Value → Shared → Prop) (Z : Value → Shared → Prop), B.handled = none → St n s.heap →
    (∀ g tk, (∀ b o, b ∉ wr → s.heap.get? b = some o → g.get? b = some o) → Q none { s with heap := g, toks := tk }) → wpAny (model prog w) B (pyNext (.ref I)) Q Z s
  self : ∀ (B : Around) (i : Nat) (s : Shared) (Q : Value → Shared → Prop) (Z : Value → Shared → Prop), B.handled = none → St i s.heap → Q (.ref I) s → wpAny (model prog w) B (pyIter (.ref I)) Q Z s
/-- an element: a new object of which R tells -/
def Elts (prog : Program) (w : World) (cenv : Env) (elt : Expr) (fp wr : List Addr) (n : Nat) (Bd : Nat → (Str → Option Value) → Prop) (R : Nat → Obj → Prop) (D U : Nat) (href : Heap) : Prop :=
  ∀ (B : Around) (Z : Value → Shared → Prop) (i : Nat) (s : Shared) (m : Str → Option Value), B.handled = none → B.depth ≤ D → B.units ≤ U → i < n → Bd i m → s.heap.Ns cenv.locals m → (∀ b ∈ fp, b ∉ wr → ∀ o, href.get? b = some o → s.heap.get? b = some o) →
    wpAny (model prog w) B (eval elt cenv) (fun y s1 => ∃ (a : Addr) (o : Obj), y = .ref a ∧ s.heap.get? a = none ∧ s1.heap.get? a = some o ∧ R i o ∧ Keeps s s1) Z s
def proto (C : Addr) (fp wr : List Addr) (n : Nat) (R : Nat → Obj → Prop) : Protocol := fun m s0 v s kap =>
  (∃ (i : Nat) (a : Addr) (o : Obj), i = n - 1 - m ∧ v = .ref a ∧ a ∉ C :: wr ∧ s0.heap.get? a = none ∧ s.heap.get? a = some o ∧ R i o) ∧ GenSince C wr s0 s ∧
    ∀ s' : Shared, (∀ b ∈ C :: fp, ∀ o, s.heap.get? b = some o → s'.heap.get? b = some o) → kap (.send .none) s'
theorem since_none {C a : Addr} {wr : List Addr} {s0 s : Shared} (x : GenSince C wr s0 s) (na : a ∉ C :: wr) (h : s.heap.get? a = none) : s0.heap.get? a = none := by
  obtain ⟨g, tk, rfl, k⟩ := x
  cases c : s0.heap.get? a with
  | none => rfl
  | some o =>
    have h2 : g.get? a = none := h
    rw [k a o (fun e => na (by rw [e]; exact List.mem_cons_self ..)) (fun e => na (List.mem_cons_of_mem _ e)) c] at h2
    cases h2
theorem loop {elt tgt iter : Expr} {scope : Scope} {pos : Pos} {I : Addr} {fp wr : List Addr} {n : Nat} {Bd : Nat → (Str → Option Value) → Prop} {St : Nat → Heap → Prop} {cenv : Env} {R : Nat → Obj → Prop} {href : Heap}
    (calm : A.handled = none) (T : Turns prog w tgt cenv I fp wr n Bd St) (co : cenv.scope.isCoroutine = false) (nf : cenv.locals ∉ fp) (hq : Elts prog w cenv elt fp wr n Bd R (A.depth + 1) (A.units + 3) href) :
    ∀ (k i : Nat) (s0 s : Shared) (m : Str → Option Value), n - i = k → i ≤ n → St i s.heap → s.heap.Ns cenv.locals m → GenSince cenv.locals wr s0 s → (∀ b ∈ fp, b ∉ wr → ∀ o, href.get? b = some o → s.heap.get? b = some o) →
      Seg (model prog w) A (fun j s0 r s1 => r = .ok .next ∧ (j = 0 ∧ GenSince cenv.locals wr s0 s1)) (proto cenv.locals fp wr n R) k s0
        (.compLoop (.GeneratorExp elt [⟨tgt, iter, [], 0⟩] scope pos) 0 (.ref I) .none cenv) ((model prog w).den (.compLoop (.GeneratorExp elt [⟨tgt, iter, [], 0⟩] scope pos) 0 (.ref I) .none cenv)) [] s := by
  have calm2 : (A.over (.compLoop (.GeneratorExp elt [⟨tgt, iter, [], 0⟩] scope pos) 0 (.ref I) .none cenv) []).handled = none := calm
  have dep2 : (A.over (.compLoop (.GeneratorExp elt [⟨tgt, iter, [], 0⟩] scope pos) 0 (.ref I) .none cenv) []).depth ≤ A.depth + 1 := Nat.le_of_eq rfl
  have uni2 : (A.over (.compLoop (.GeneratorExp elt [⟨tgt, iter, [], 0⟩] scope pos) 0 (.ref I) .none cenv) []).units ≤ A.units + 3 := Nat.le_of_eq rfl
  have nw : cenv.locals ∉ wr := fun e => nf (T.sub _ e)
  intro k
  induction k with
  | zero =>
    intro i s0 s m hk hi st ns since keep
    obtain rfl : i = n := by omega
    show Seg _ A _ _ _ s0 _ ((compTurn (.GeneratorExp elt [⟨tgt, iter, [], 0⟩] scope pos) 0 (.ref I) .none cenv).onRaise (leaving cenv)) [] s
    rw [compTurn_gen, Sem.onRaise_eq_wrap]
    refine seg_bind_wrap (wpAny_standAt (seg_bind_wrap (T.done _ s _ _ calm2 st fun g tk kp => ?_)))
    exact seg_end (.ok .next) ⟨rfl, rfl, since.step fun b o _ nb e => kp b o nb e⟩
  | succ k ih =>
    intro i s0 s m hk hi st ns since keep
    have lt : i < n := by omega
    show Seg _ A _ _ _ s0 _ ((compTurn (.GeneratorExp elt [⟨tgt, iter, [], 0⟩] scope pos) 0 (.ref I) .none cenv).onRaise (leaving cenv)) [] s
    rw [compTurn_gen, Sem.onRaise_eq_wrap]
    refine seg_bind_wrap (wpAny_standAt (seg_bind_wrap (wpAny_mono (T.adv _ _ i s m calm2 lt st ns) (fun ov s1 h1 => ?_) fun _ _ e => e)))
    obtain ⟨v, rfl, h1⟩ := h1
    refine seg_bind_wrap (wpAny_mono h1 (fun _ s2 h2 => ?_) fun _ _ e => e)
    refine seg_bind_wrap (wpAny_mono h2 (fun _ s3 h3 => ?_) fun _ _ e => e)
    obtain ⟨g, tk, m2, rfl, bd, ns2, st2, kp⟩ := h3
    have keep2 : ∀ b ∈ fp, b ∉ wr → ∀ o, href.get? b = some o → g.get? b = some o := fun b hb nb o e => kp b o (fun z => nf (z ▸ hb)) nb (keep b hb nb o e)
    have since2 : GenSince cenv.locals wr s0 { s with heap := g, toks := tk } := since.step kp
    refine seg_bind_wrap (wpAny_of_eq (a := true) rfl ?_)
    simp only [if_true]
    have yo : ∀ v, yieldOut cenv v = yieldValue v := fun v => by simp only [yieldOut, co, Bool.false_eq_true, if_false]
    simp only [yo]
    rw [Sem.bind_eq_wrap', Sem.bind_eq_wrap', Sem.wrap_wrap, Sem.wrap_wrap]
    refine seg_wrap (wpAny_mono (hq _ _ i _ m2 calm2 dep2 uni2 lt bd ns2 keep2) (fun y s4 h4 => ?_) fun _ _ e => e)
    obtain ⟨a, o, rfl, na, ho, ro, g4, tk4, rfl, kp4⟩ := h4
    have na' : g.get? a = none := na
    have nC : a ∉ cenv.locals :: wr := fun e => by
      rcases List.mem_cons.mp e with e | e
      · obtain ⟨_, _, _, q, _⟩ := ns2
        rw [← e, na'] at q
        cases q
      · obtain ⟨q, hq2⟩ := T.there _ _ st2 a e
        rw [na'] at hq2
        cases hq2
    refine seg_at (seg_yield rfl rfl rfl ⟨⟨i, a, o, by omega, rfl, nC, since_none since2 nC na', ho, ro⟩, since2.step fun b u _ _ e => kp4 b u e, fun s' al => ?_⟩)
    refine seg_again rfl (ih (i + 1) s' s' m2 (by omega) lt (T.frame _ _ _ st2 fun b hb u e => al b (List.mem_cons_of_mem _ hb) u (kp4 b u e)) ((ns2.keeps kp4).at' fun u e => al _ (List.mem_cons_self ..) u e) (GenSince.refl _ _ _) fun b hb nb u e => al b (List.mem_cons_of_mem _ hb) u (kp4 b u (keep2 b hb nb u e)))
theorem start {elt tgt iter : Expr} {scope : Scope} {pos : Pos} {I : Addr} {fp wr : List Addr} {n : Nat} {Bd : Nat → (Str → Option Value) → Prop} {St : Nat → Heap → Prop} {cenv : Env} {R : Nat → Obj → Prop} {href : Heap}
    (calm : A.handled = none) (T : Turns prog w tgt cenv I fp wr n Bd St) (co : cenv.scope.isCoroutine = false) (nf : cenv.locals ∉ fp) (hq : Elts prog w cenv elt fp wr n Bd R (A.depth + 1) (A.units + 3) href)
    {s0 s : Shared} {m : Str → Option Value} (st : St 0 s.heap) (ns : s.heap.Ns cenv.locals m) (since : GenSince cenv.locals wr s0 s) (keep : ∀ b ∈ fp, b ∉ wr → ∀ o, href.get? b = some o → s.heap.get? b = some o) :
    Seg (model prog w) A (fun j s0 r s1 => r = .ok .next ∧ (j = 0 ∧ GenSince cenv.locals wr s0 s1)) (proto cenv.locals fp wr n R) n s0
      (.compStart (.GeneratorExp elt [⟨tgt, iter, [], 0⟩] scope pos) 0 (.ref I) .none cenv) ((model prog w).den (.compStart (.GeneratorExp elt [⟨tgt, iter, [], 0⟩] scope pos) 0 (.ref I) .none cenv)) [] s := by
  have calm2 : (A.over (.compStart (.GeneratorExp elt [⟨tgt, iter, [], 0⟩] scope pos) 0 (.ref I) .none cenv) []).handled = none := calm
  have go := loop (iter := iter) (scope := scope) (pos := pos) calm T co nf hq n 0 s0 s m (Nat.sub_zero n) (Nat.zero_le n) st ns since keep
  show Seg _ A _ _ _ s0 _ ((compStart (.GeneratorExp elt [⟨tgt, iter, [], 0⟩] scope pos) 0 (.ref I) .none cenv).onRaise (leaving cenv)) [] s
  rw [compStart, Sem.onRaise_eq_wrap]
  show Seg _ A _ _ _ s0 _ ((ask >>= _).wrap _ _ _ _) [] s
  refine seg_bind_wrap (wpAny_askSetting ?_)
  split
  · exact seg_again rfl go
  · refine seg_bind_wrap (wpAny_rule ?_)
    show Seg _ A _ _ _ s0 _ ((standAt iter.pos >>= _).wrap _ _ _ _) [] s
    exact seg_bind_wrap (wpAny_standAt (seg_bind_wrap (T.self _ 0 s _ _ calm2 st (seg_again rfl go))))
end
end GH
namespace GH
open PySem
section
variable {prog : Program} {w : World} {A : Around} {Z : Value → Shared → Prop} {s : Shared} {a C : Addr} {g n : Nat} {fp wr : List Addr} {R : Nat → Obj → Prop}
/-- the generator at a has given j things -/
def At (prog : Program) (w : World) (A : Around) (a : Addr) (g : Nat) (C : Addr) (fp wr : List Addr) (n : Nat) (R : Nat → Obj → Prop) (j : Nat) (s : Shared) : Prop :=
  s.heap.IsGen a g ∧ s.heap.NoLimit ∧ ∃ gs, s.gens[g]? = some gs ∧ ∀ s' : Shared, (∀ b ∈ C :: fp, ∀ o, s.heap.get? b = some o → s'.heap.get? b = some o) →
    gs.Goes (model prog w) A.in1 (fun m s0 r s1 => r = .ok .next ∧ (m = 0 ∧ GenSince C wr s0 s1)) (proto C fp wr n R) (n - j) (.send .none) s'
/-- what does not change while it gives -/
structure Set (A : Around) (a C : Addr) (fp wr : List Addr) : Prop where
  calm : A.handled = none
  room : A.depth < recursionLimit
  ac : a ≠ C
  af : a ∉ fp
  sub : ∀ b ∈ wr, b ∈ fp
  cs : cStatics ∈ fp
  cc : cStatics ≠ C
  cw : cStatics ∉ wr
theorem At.frame {j : Nat} {h' : Heap} {tk : Nat} (st : At prog w A a g C fp wr n R j s) (k : ∀ b ∈ a :: C :: fp, ∀ o, s.heap.get? b = some o → h'.get? b = some o) (cs : cStatics ∈ fp) : At prog w A a g C fp wr n R j { s with heap := h', toks := tk } := by
  obtain ⟨⟨o, nm, qn, ho, r⟩, ⟨mc, q1, q2⟩, gs, hg, go⟩ := st
  exact ⟨⟨o, nm, qn, k a (List.mem_cons_self ..) o ho, r⟩, ⟨mc, q1.at' fun o e => k _ (List.mem_cons_of_mem _ (List.mem_cons_of_mem _ cs)) o e, q2⟩, gs, hg, fun s' al => go s' fun b hb o e => al b hb o (k b (List.mem_cons_of_mem _ hb) o e)⟩
theorem At.item {j : Nat} {Q : Option Value → Shared → Prop} (S : Set A a C fp wr) (lt : j < n) (st : At prog w A a g C fp wr n R j s)
    (h : ∀ (b : Addr) (o : Obj) (s' : Shared), b ∉ C :: wr → s.heap.get? b = none → s'.heap.get? b = some o → R j o → At prog w A a g C fp wr n R (j + 1) s' → Moved (C :: wr) (GenOnlyQ g) s s' → Q (some (.ref b)) s') :
    wpAny (model prog w) A (pyNext (.ref a)) Q Z s := by
  obtain ⟨ig, nl, gs, hg, go⟩ := st
  obtain ⟨m, hm⟩ : ∃ m, n - j = m + 1 := ⟨n - j - 1, by omega⟩
  rw [hm] at go
  refine wpAny_with_toks (Nat.le_refl s.toks) ?_
  refine wpAny_pyNext_genexpQ (P := fun m s0 s1 => m = 0 ∧ GenSince C wr s0 s1) S.calm nl S.room ig hg (go _ fun _ _ _ e => e) (fun v s1 gs' bare hv => ?_) (fun s1 hp _ _ => absurd hp.1 (Nat.succ_ne_zero m))
  obtain ⟨⟨i, b, o, hi, rfl, nb, n0, ho, ro⟩, ⟨h1, tk1, rfl, k1⟩, kap⟩ := hv
  obtain rfl : i = j := by omega
  have aw : a ∉ wr := fun e => S.af (S.sub a e)
  intro htk
  refine h b o _ nb n0 ho ro ⟨?_, ?_, gs', setGen_self (gs := .running) (setGen_self hg), fun s' al => ?_⟩ ⟨fun c u nc e => k1 c u (fun z => nc (z ▸ List.mem_cons_self ..)) (fun z => nc (List.mem_cons_of_mem _ z)) e, ?_, rfl, rfl, htk⟩
  · obtain ⟨u, nm, qn, hu, r⟩ := ig
    exact ⟨u, nm, qn, k1 a u S.ac aw hu, r⟩
  · obtain ⟨mc, q1, q2⟩ := nl
    exact ⟨mc, q1.at' fun u e => k1 cStatics u S.cc S.cw e, q2⟩
  · rw [show n - (i + 1) = m by omega]
    exact kap s' al
  · exact GenOnlyQ.of ((GenOnly.setGen s g .running).trans (GenOnly.setGen _ g gs')) (setGen_self (gs := .running) (setGen_self hg)) bare
theorem At.over {Q : Option Value → Shared → Prop} (S : Set A a C fp wr) (st : At prog w A a g C fp wr n R n s) (h : ∀ s', Moved (C :: wr) (GenOnlyQ g) s s' → Q none s') : wpAny (model prog w) A (pyNext (.ref a)) Q Z s := by
  obtain ⟨ig, nl, gs, hg, go⟩ := st
  rw [Nat.sub_self] at go
  refine wpAny_with_toks (Nat.le_refl s.toks) ?_
  refine wpAny_pyNext_genexpQ (P := fun m s0 s1 => m = 0 ∧ GenSince C wr s0 s1) S.calm nl S.room ig hg (go _ fun _ _ _ e => e) (fun v s1 gs' bare hv => ?_) (fun s1 hp h' k => ?_)
  · obtain ⟨_, _, kap⟩ := hv
    exact False.elim (kap s1 fun _ _ _ e => e)
  · obtain ⟨_, h1, tk1, rfl, k1⟩ := hp
    intro htk
    refine h _ ⟨fun c u nc e => k c u (k1 c u (fun z => nc (z ▸ List.mem_cons_self ..)) (fun z => nc (List.mem_cons_of_mem _ z)) e), ?_, rfl, rfl, htk⟩
    exact GenOnlyQ.of ((GenOnly.setGen s g .running).trans (GenOnly.setGen _ g .finished)) (setGen_self (gs := .running) (setGen_self hg)) rfl
/-- what has been given so far: new objects, each its own -/
def Got (h0 : Heap) (bad : List Addr) (R : Nat → Obj → Prop) (acc : Array Value) (i : Nat) (h : Heap) : Prop := acc.size = i ∧ acc.toList.Nodup ∧ ∀ j v, acc[j]? = some v → ∃ b o, v = .ref b ∧ b ∉ bad ∧ h0.get? b = none ∧ h.get? b = some o ∧ R j o
theorem Got.keep {h0 : Heap} {bad : List Addr} {acc : Array Value} {i : Nat} {h h' : Heap} (x : Got h0 bad R acc i h) (k : ∀ b o, b ∉ bad → h.get? b = some o → h'.get? b = some o) : Got h0 bad R acc i h' := ⟨x.1, x.2.1, fun j v e => by
  obtain ⟨b, o, e1, e2, e0, e3, e4⟩ := x.2.2 j v e
  exact ⟨b, o, e1, e2, e0, k b o e2 e3, e4⟩⟩
theorem Got.push {h0 : Heap} {bad : List Addr} {acc : Array Value} {i : Nat} {h h1 : Heap} {b : Addr} {o : Obj} (x : Got h0 bad R acc i h) (nb : b ∉ bad) (n1 : h1.get? b = none) (k0 : ∀ u, h0.get? b = some u → h1.get? b = some u) (k1 : Got h0 bad R acc i h1) (ho : h.get? b = some o) (r : R i o) : Got h0 bad R (acc.push (.ref b)) (i + 1) h := by
  refine ⟨by rw [Array.size_push, x.1], ?_, fun j v e => ?_⟩
  · rw [Array.toList_push]
    refine List.nodup_append.mpr ⟨x.2.1, List.nodup_cons.mpr ⟨List.not_mem_nil, List.nodup_nil⟩, fun u hu v hv e => ?_⟩
    rw [List.mem_singleton] at hv
    obtain ⟨j, hj⟩ := List.getElem?_of_mem hu
    rw [Array.getElem?_toList] at hj
    obtain ⟨b', o', e1, _, _, e3, _⟩ := k1.2.2 j u hj
    rw [e, hv] at e1
    injection e1 with e1
    rw [← e1, n1] at e3
    cases e3
  · rw [Array.getElem?_push] at e
    by_cases c : j = acc.size
    · rw [if_pos c] at e
      rw [← Option.some.inj e, c, x.1]
      refine ⟨b, o, rfl, nb, ?_, ho, r⟩
      cases c0 : h0.get? b with
      | none => rfl
      | some u =>
        rw [k0 u c0] at n1
        cases n1
    · rw [if_neg c] at e
      exact x.2.2 j v e
theorem extend {Y : Result → Shared → Prop} {h0 : Heap} (E : Set A.in1 a C fp wr) (few : n ≤ sizeLine) (S : Addr) (nS : S ∉ a :: C :: fp) (res : Value) :
    ∀ (k i : Nat) (s : Shared) (acc : Array Value) (c : Nat), n - i = k → i ≤ n → At prog w A.in1 a g C fp wr n R i s → s.heap.get? S = some { cls := .type "list", dict := none, data := .seq acc c, slots := #[] } → Got h0 (S :: C :: wr) R acc i s.heap → (∀ b u, b ∉ S :: C :: wr → h0.get? b = some u → s.heap.get? b = some u) →
      (∀ s' acc' c', Moved (S :: C :: wr) (GenOnlyQ g) s s' → s'.heap.get? S = some { cls := .type "list", dict := none, data := .seq acc' c', slots := #[] } → Got h0 (S :: C :: wr) R acc' n s'.heap → Y (.ok (.ret res)) s') →
      codeAny (model prog w) A (.builtin "list.extend.loop" ⟨[.ref S, .ref a, res], []⟩) Y s := by
  have nw : S ∉ C :: wr := fun e => nS (List.mem_cons_of_mem _ (by
    rcases List.mem_cons.mp e with e | e
    · rw [e]; exact List.mem_cons_self ..
    · exact List.mem_cons_of_mem _ (E.sub _ e)))
  have up : ∀ b ∈ C :: wr, b ∈ S :: C :: wr := fun b hb => List.mem_cons_of_mem _ hb
  have gt : ∀ x y z : Array GenState, GenOnlyQ g x y → GenOnlyQ g y z → GenOnlyQ g x z := fun _ _ _ p q => p.trans q
  intro k
  induction k with
  | zero =>
    intro i s acc c hk hi st hS got k0 go
    obtain rfl : i = n := by omega
    refine codeAny_builtin F.entry_extend_loop ?_
    rw [Around.under_plainId F.plain_extend_loop _]
    show wpAny _ A.in1 (pyNext (.ref a) >>= _) _ _ s
    refine wpAny_bind (st.over E fun s' mv => wpAny_pure (go s' acc c (mv.mono up) (mv.heap S _ nw hS) (got.keep fun b o nb e => mv.heap b o (fun z => nb (up b z)) e)))
  | succ k ih =>
    intro i s acc c hk hi st hS got k0 go
    refine codeAny_builtin F.entry_extend_loop ?_
    rw [Around.under_plainId F.plain_extend_loop _]
    show wpAny _ A.in1 (pyNext (.ref a) >>= _) _ _ s
    refine wpAny_bind (st.item E (by omega) fun b o s' nb n0 ho ro st' mv => ?_)
    have hS' := mv.heap S _ nw hS
    have bS : b ≠ S := fun e => by
      rw [e, hS] at n0
      cases n0
    have got' : Got h0 (S :: C :: wr) R acc i s'.heap := got.keep fun b o nb e => mv.heap b o (fun z => nb (up b z)) e
    have oth : ∀ (f : Obj → Obj) b' u, b' ≠ S → s'.heap.get? b' = some u → (s'.heap.update S f).get? b' = some u := fun f b' u nb' e => (Heap.get?_update_other _ _ (Ne.symm nb')).trans e
    show wpAny _ A.in1 (updateSeq S (·.push (.ref b)) >>= _) _ _ _
    refine wpAny_bind ?_
    refine wpAny_updateSeq hS' rfl (wpAny_pure ⟨plainId_quiet F.plain_extend_loop _, ih (i + 1) _ (acc.push (.ref b)) _ (by omega) (by omega) (At.frame (tk := s'.toks) st' (fun b' hb u e => oth _ b' u (fun z => nS (z ▸ hb)) e) E.cs) (Heap.get?_update_self _ hS' rfl) ?_ (fun b' u nb' e => oth _ b' u (fun z => nb' (z ▸ List.mem_cons_self ..)) (mv.heap b' u (fun z => nb' (up b' z)) (k0 b' u nb' e))) fun s'' acc' c' mv2 hS2 got2 => ?_⟩)
      (by rw [got.1]; omega) (by show (acc.push (.ref b)).size ≤ sizeLine + 1; rw [Array.size_push, got.1]; omega)
    · refine Got.keep (h := s'.heap) (got'.push (fun e => ?_) n0 (fun u e => k0 b u (fun e => ?_) e) got ho ro) fun b' u nb' e => oth _ b' u (fun z => nb' (z ▸ List.mem_cons_self ..)) e
      · rcases List.mem_cons.mp e with e | e
        · exact bS e
        · exact nb e
      · rcases List.mem_cons.mp e with e | e
        · exact bS e
        · exact nb e
    · exact go s'' acc' c' (Moved.trans gt ((mv.mono up).then_heap (Nat.le_refl _) fun b' u nb' e => oth _ b' u (fun z => nb' (z ▸ List.mem_cons_self ..)) e) mv2) hS2 got2
end
end GH
namespace GH
open PySem
section
variable {prog : Program} {w : World} {A : Around} {Z : Value → Shared → Prop} {s : Shared} {a C : Addr} {g n : Nat} {fp wr : List Addr} {R : Nat → Obj → Prop}
theorem At.gen {j : Nat} (st : At prog w A a g C fp wr n R j s) : s.TypeIs (.ref a) "generator" := st.1.typeIs
/-- list(g), as the built-ins take it -/
theorem gather {Q : List Value → Shared → Prop} (E : Set A.in1 a C fp wr) (st : At prog w A.in1 a g C fp wr n R 0 s) (low : ∀ b ∈ a :: C :: fp, b < s.heap.objs.size) (few : n ≤ sizeLine)
    (go : ∀ s' acc, Moved (C :: wr) (GenOnlyQ g) s s' → Got s.heap (C :: wr) R acc n s'.heap → Q acc.toList s') : wpAny (model prog w) A (collect (.ref a)) Q Z s := by
  have nS : s.heap.objs.size ∉ a :: C :: fp := fun e => Nat.lt_irrefl _ (low _ e)
  have nI : s.heap.objs.size ≠ a := fun e => nS (e ▸ List.mem_cons_self ..)
  have gt : ∀ x y z : Array GenState, GenOnlyQ g x y → GenOnlyQ g y z → GenOnlyQ g x z := fun _ _ _ p q => p.trans q
  rw [collect]
  refine wpAny_bind (wpAny_runValue (codeAny_builtin F.entry_proto_collect ?_))
  rw [Around.under_plainId F.plain_proto_collect _]
  show wpAny _ A.in1 (newList [] >>= fun l => again (.builtin "list.__iadd__" ⟨[l, .ref a], []⟩)) _ _ s
  refine wpAny_bind (wpAny_newObj_type (wpAny_pure ⟨plainId_quiet F.plain_list_iadd _, codeAny_builtin F.entry_list_iadd ?_⟩))
  rw [Around.under_plainId F.plain_list_iadd _]
  generalize hL : ({ cls := .type "list", data := .seq ([] : List Value).toArray } : Obj) = L
  have st1 : At prog w A.in1 a g C fp wr n R 0 { s with heap := s.heap.push L } := At.frame (tk := s.toks) st (fun b _ o e => Heap.get?_push_of_some _ e) E.cs
  have t1 := st1.gen
  show wpAny _ A.in1 (Builtin.List.listExtendWith (.ref s.heap.objs.size) (.ref a) (.ref s.heap.objs.size)) _ _ _
  rw [Builtin.List.listExtendWith]
  refine wpAny_bind (wpAny_typeOf t1 ?_)
  rw [if_neg (by
    rw [show Builtin.List.listSameRef (.ref s.heap.objs.size) (.ref a) = false by simp [Builtin.List.listSameRef, nI], show (Value.type "generator" == Value.type "list") = false by decide, show (Value.type "generator" == Value.type "tuple") = false by decide]
    decide)]
  refine wpAny_bind (wpAny_pyIter_gen st1.1 (wpAny_bind (wpAny_holding ?_)))
  rw [Builtin.List.listLengthHint]
  refine wpAny_bind (wpAny_specialOf t1 F.gen_no_len ?_)
  show wpAny _ A.in1 (specialOf (Value.ref a) (Str.ofString "__length_hint__") >>= _) _ _ _
  refine wpAny_bind (wpAny_specialOf t1 F.gen_no_hint (wpAny_pure ?_))
  show wpAny _ A.in1 (rule "list.extend.makes-room" >>= fun _ => Builtin.List.listTouch (.ref s.heap.objs.size) >>= fun _ =>
    again (.builtin "list.extend.loop" ⟨[.ref s.heap.objs.size, .ref a, .ref s.heap.objs.size], []⟩)) _ _ _
  have h1 : (s.heap.push L).get? s.heap.objs.size = some { cls := .type "list", dict := none, data := .seq #[] 0, slots := #[] } := by
    rw [← hL]
    exact Heap.get?_push_size _ rfl
  refine wpAny_bind (wpAny_rule (wpAny_bind ?_))
  show wpAny _ A.in1 (updateSeq s.heap.objs.size (·.push .none) >>= fun _ => updateSeq s.heap.objs.size (·.pop)) _ _ _
  refine wpAny_bind (wpAny_updateSeq h1 rfl ?_)
  have h2 := Heap.get?_update_self (Obj.mapSeq (·.push Value.none)) h1 rfl
  refine wpAny_updateSeq h2 rfl ?_
  have h3 := Heap.get?_update_self (Obj.mapSeq (·.pop)) h2 rfl
  generalize hg3 : ((s.heap.push L).update s.heap.objs.size (Obj.mapSeq (·.push Value.none))).update s.heap.objs.size (Obj.mapSeq (·.pop)) = g3 at h3 ⊢
  have oth : ∀ b o, b ≠ s.heap.objs.size → (s.heap.push L).get? b = some o → g3.get? b = some o := fun b o nb e => by
    rw [← hg3]
    exact (Heap.get?_update_other _ _ (Ne.symm nb)).trans ((Heap.get?_update_other _ _ (Ne.symm nb)).trans e)
  have st3 : At prog w A.in1 a g C fp wr n R 0 { s with heap := g3 } := At.frame (s := { s with heap := s.heap.push L }) (h' := g3) (tk := s.toks) st1 (fun b hb o e => oth b o (fun z => nS (z ▸ hb)) e) E.cs
  refine wpAny_pure ⟨plainId_quiet F.plain_extend_loop _, extend (h0 := s.heap) E few s.heap.objs.size nS _ n 0 _ _ _ rfl (Nat.zero_le _) st3 h3 ⟨rfl, List.nodup_nil, fun j v e => by cases e⟩ (fun b u nb e => oth b u (fun z => nb (z ▸ List.mem_cons_self ..)) (Heap.get?_push_of_some _ e)) fun s' acc c mv hS got => ?_⟩
  show wpAny _ A (load s.heap.objs.size >>= _) _ _ s'
  refine wpAny_bind (wpAny_load hS (wpAny_pure (go s' acc (Moved.drop_new (o := L) (tk := s.toks) (Moved.trans gt ((Moved.refl fun _ => .inl rfl).then_heap (Nat.le_refl _) fun b o nb e => ?_) mv) (Nat.le_refl _)) ⟨got.1, got.2.1, fun j v e => ?_⟩)))
  · exact oth b o (fun z => nb (z ▸ List.mem_cons_self ..)) e
  · obtain ⟨b, o, e1, e2, e0, e3, e4⟩ := got.2.2 j v e
    exact ⟨b, o, e1, fun z => e2 (List.mem_cons_of_mem _ z), e0, e3, e4⟩
theorem tuple_new {Q : Value → Shared → Prop} (E : Set A.in1.in1 a C fp wr) (st : At prog w A.in1.in1 a g C fp wr n R 0 s) (low : ∀ b ∈ a :: C :: fp, b < s.heap.objs.size) (few : n ≤ sizeLine)
    (go : ∀ s' acc, Moved (C :: wr) (GenOnlyQ g) s s' → Got s.heap (C :: wr) R acc n s'.heap → Q (.ref s'.heap.objs.size) { s' with heap := s'.heap.push { cls := .type "tuple", data := .seq acc } }) :
    codeAny (model prog w) A (.call (.builtin "tuple.__new__") ⟨[.type "tuple", .ref a], []⟩) (wants Q Z) s := by
  refine codeAny_of_tree ?_
  show wpAny _ A.in1 (checkBuiltinCall "tuple.__new__" ⟨[.type "tuple", .ref a], []⟩ >>= fun _ => again (.builtin "tuple.__new__" ⟨[.type "tuple", .ref a], []⟩)) _ _ s
  refine wpAny_bind (wpAny_of_eq (F.newCall_tuple_1 _) (wpAny_pure ⟨plainId_quiet F.plain_tuple_new _, codeAny_builtin F.entry_tuple_new ?_⟩))
  rw [Around.under_plainId F.plain_tuple_new _]
  have f1 := sub_tuple_self
  have f2 := init_tuple_lookup
  have f3 := madeHere_tuple
  have f4 := st.gen
  wp_walk using wpAny_typeOf f4, gather E st low few
  intro s' acc mv got
  show wpAny _ _ (Builtin.Tuple.tupleExact acc.toList.toArray >>= fun x => ret x) _ _ _
  rw [Builtin.Tuple.tupleExact]
  refine wpAny_bind (wpAny_newObj_type ?_ (by show acc.toList.toArray.size ≤ sizeLine; rw [Array.toArray_toList, got.1]; exact few))
  refine wpAny_pure ?_
  rw [Array.toArray_toList]
  exact go s' acc mv got
/-- tuple(g) -/
theorem call_tuple {Q : Value → Shared → Prop} (E : Set A.in1.in1.in1 a C fp wr) (st : At prog w A.in1.in1.in1 a g C fp wr n R 0 s) (low : ∀ b ∈ a :: C :: fp, b < s.heap.objs.size) (few : n ≤ sizeLine)
    (go : ∀ s' acc, Moved (C :: wr) (GenOnlyQ g) s s' → Got s.heap (C :: wr) R acc n s'.heap → Q (.ref s'.heap.objs.size) { s' with heap := s'.heap.push { cls := .type "tuple", data := .seq acc } }) :
    wpAny (model prog w) A (call (.type "tuple") [.ref a]) Q Z s := by
  refine callType_codes (Q₁ := fun y s1 => s1.TypeIs y "tuple" ∧ Q y s1) F.called_tuple (F.typeCall_tuple_1 _) F.entry_object_init (tuple_new (A := A.in1) E st low few fun s' acc k1 k2 => ⟨⟨_, Heap.get?_push_size _ rfl, rfl⟩, go s' acc k1 k2⟩) fun y s1 z => ?_
  exact ⟨z.1, F.args_object_init_2 y _, object_init_meets F.called_tuple.init.lookup F.called_tuple.made (by decide) prog w A.in1 _ s1 ⟨z.1, rfl, z.2⟩⟩
/-- the generator expression itself: what is made stands ready to give n new objects -/
theorem made {env : Env} {elt tgt iter : Expr} {scope : Scope} {cl : List (Str × Addr)} {pos : Pos} {Q : Value → Shared → Prop}
    (calm : A.handled = none) (hco : scope.isCoroutine = false) (hclos : closureFor scope env = pure cl) (hcell : ∀ y ∈ scope.names, y.2 ≠ .cell) (h0 : scope.names.lookup (".0" : Str) = some NameKind.local) (hkind : scope.kind = .function) (hroom : A.depth < recursionLimit)
    (h : wpAny (model prog w) A (eval iter env) (fun xv s1 => wpAny (model prog w) A (pyIter xv) (fun it s2 => s2.heap.NoLimit ∧
      wpAny (model prog w) A (genexprCode env pos (env.qual ++ "<genexpr>") scope) (fun code s3 => wpAny (model prog w) A (builtinsFor env.globals env.builtins) (fun bi s4 =>
        ∃ (I : Addr) (wr : List Addr) (n : Nat) (Bd : Nat → (Str → Option Value) → Prop) (St : Nat → Heap → Prop) (R : Nat → Obj → Prop), it = .ref I ∧ Turns prog w tgt (genEnv scope cl s4.heap.objs.size code bi env) I (List.range s4.heap.objs.size) wr n Bd St ∧ St 0 s4.heap ∧ s4.heap.NoLimit ∧ cStatics ∉ wr ∧
          (∀ href : Heap, (∀ b o, s4.heap.get? b = some o → href.get? b = some o) → Elts prog w (genEnv scope cl s4.heap.objs.size code bi env) elt (List.range s4.heap.objs.size) wr n Bd R (A.depth + 1) (A.units + 8) href) ∧
          (∀ a h5 tk gs, gs.bare = true → s4.heap.objs.size < a → h5.objs.size = a + 1 → (∀ b o, s4.heap.get? b = some o → h5.get? b = some o) → Set A.in1.in1.in1 a s4.heap.objs.size (List.range s4.heap.objs.size) wr →
            At prog w A.in1.in1.in1 a s4.gens.size s4.heap.objs.size (List.range s4.heap.objs.size) wr n R 0 { s4 with gens := s4.gens.push gs, toks := tk, heap := h5 } →
            Q (.ref a) { s4 with gens := s4.gens.push gs, toks := tk, heap := h5 })) Z s3) Z s2) Z s1) Z s)
    (hs : ∀ x, genFold iter env x = pure x) : wpAny (model prog w) A (eval (.GeneratorExp elt [⟨tgt, iter, [], 0⟩] scope pos) env) Q Z s := by
  refine wpAny_GeneratorExp_make hco hclos hcell h0 hkind hroom (wpAny_mono h (fun xv s1 h1 => wpAny_mono h1 (fun it s2 h2 => ⟨h2.1, wpAny_mono h2.2 (fun code s3 h3 => wpAny_mono h3 (fun bi s4 h4 => ?_) fun _ _ e => e) fun _ _ e => e⟩) fun _ _ e => e) fun _ _ e => e) hs
  obtain ⟨I, wr, n, Bd, St, R, rfl, T, st, nl, cw, hq, go⟩ := h4
  have clt : cStatics < s4.heap.objs.size := let ⟨_, hn, _⟩ := nl; hn.lt
  intro h' ns sb
  have sz : h'.objs.size = s4.heap.objs.size + 1 := by rw [sb.1, Heap.size_push]
  have keep : ∀ b o, s4.heap.get? b = some o → h'.get? b = some o := fun b o e => sb.extBut b o (Nat.ne_of_lt (Heap.lt_size e)) (Heap.get?_push_of_some _ e)
  generalize hgo : ({ cls := .type "generator", data := .fields #[.int s4.gens.size 0, .str "<genexpr>" (s4.toks + 1), .str (env.qual ++ "<genexpr>") (s4.toks + 1 + 1)] } : Obj) = go_
  have keep5 : ∀ b o, s4.heap.get? b = some o → (h'.push go_).get? b = some o := fun b o e => Heap.get?_push_of_some _ (keep b o e)
  have nC : s4.heap.objs.size ∉ List.range s4.heap.objs.size := fun e => Nat.lt_irrefl _ (List.mem_range.mp e)
  have E : Set A.in1.in1.in1 h'.objs.size s4.heap.objs.size (List.range s4.heap.objs.size) wr := ⟨calm, hroom, by rw [sz]; exact Nat.succ_ne_self _, fun e => by have := List.mem_range.mp e; omega, T.sub, List.mem_range.mpr clt, Nat.ne_of_lt clt, cw⟩
  refine go _ _ _ _ rfl (by omega) (by rw [Heap.size_push]) keep5 E ⟨?_, nl.keeps keep5, _, Array.getElem?_push_size .., fun s' al => ⟨rfl, ?_⟩⟩
  · rw [← hgo]
    exact ⟨_, _, _, Heap.get?_push_size _ rfl, rfl, rfl, rfl⟩
  · have q := start (A := A.in1.in1.in1.in1) (iter := iter) (scope := scope) (pos := pos) (elt := elt) (R := R) (href := s4.heap) (s0 := s') (s := s') (m := fun y => if y = ".0" then some (.ref I) else none) calm T (by simp [genEnv, hco]) nC (fun B Z i s m b1 b2 b3 => hq s4.heap (fun _ _ e => e) B Z i s m b1 b2 (Nat.le_trans b3 (by show A.units + 1 + 1 + 1 + 1 + 3 ≤ A.units + 8; omega)))
      (T.frame _ _ _ st fun b hb o e => al b (List.mem_cons_of_mem _ hb) o (keep5 b o e)) ((ns.push go_).at' fun o e => al _ (List.mem_cons_self ..) o e) (GenSince.refl _ _ _) (fun b hb _ o e => al b (List.mem_cons_of_mem _ hb) o (keep5 b o e))
    exact q
end
end GH
namespace GH
open PySem
section
variable {prog : Program} {w : World} {cenv : Env} {I ax : Addr} {fp : List Addr} {items : Array Value}
/-- for x in a list -/
theorem Turns.name {x : Str} {px : Pos} (hx : cenv.kindOf x = some .local) (hp : (cenv.scope.kind == .class || (cenv.scope.kind == .module && cenv.locals != cenv.globals)) = false) (hI : I ∈ fp) (ha : ax ∈ fp) (ne : ax ≠ I) (nf : cenv.locals ∉ fp) :
    Turns prog w (.Name x px) cenv I fp [I] items.size (fun i m => ∃ v, items[i]? = some v ∧ m x = some v) (fun i h => h.IsListIter I ax i ∧ h.IsList ax items) where
  sub := fun b hb => by
    rw [List.mem_singleton.mp hb]
    exact hI
  frame := fun i g g' st k => ⟨st.1.at fun o e => k I hI o e, st.2.at fun o e => k ax ha o e⟩
  there := fun i g st b hb => by
    rw [List.mem_singleton.mp hb]
    obtain ⟨o, ho, _⟩ := st.1
    exact ⟨o, ho⟩
  adv := fun B Z i s m calm lt st ns => by
    have nI : cenv.locals ≠ I := fun e => nf (e ▸ hI)
    have na : cenv.locals ≠ ax := fun e => nf (e ▸ ha)
    refine (Walks.list calm I ax ne items).item i s _ _ lt st fun v h1 tk1 hv st1 k1 => ⟨v, rfl, wpAny_of_eq (a := ()) rfl ?_⟩
    refine wpAny_assign_Name (wpAny_storeName_local hx (ns.at' fun o e => k1 _ o (fun z => nI (List.mem_singleton.mp z)) e) (fun h2 ns2 sb => ?_) hp)
    refine ⟨h2, _, _, rfl, ⟨v, hv, by simp⟩, ns2, ⟨st1.1.at fun o e => sb.extBut _ o nI.symm e, st1.2.at fun o e => sb.extBut _ o na.symm e⟩, fun b o nb nw e => sb.extBut b o nb (k1 b o nw e)⟩
  done := fun B s Q Z calm st go => (Walks.list calm I ax ne items).done s Q Z st go
  self := fun B i s Q Z calm st go => (Walks.list calm I ax ne items).self i s Q Z st go
/-- for x, y in a list of pairs -/
theorem Turns.pair {xa xb : Str} {pa pb pt : Pos} {kt : Nat} (hxa : cenv.kindOf xa = some .local) (hxb : cenv.kindOf xb = some .local) (ab : xa ≠ xb) (hp : (cenv.scope.kind == .class || (cenv.scope.kind == .module && cenv.locals != cenv.globals)) = false) (hI : I ∈ fp) (ha : ax ∈ fp) (ne : ax ≠ I) (nf : cenv.locals ∉ fp)
    (Ts : Nat → Addr) (va vb : Nat → Value) (hit : ∀ j, j < items.size → items[j]? = some (.ref (Ts j))) (hT : ∀ j, j < items.size → Ts j ≠ I ∧ Ts j ∈ fp) :
    Turns prog w (.Tuple [.Name xa pa, .Name xb pb] kt pt) cenv I fp [I] items.size (fun i m => m xa = some (va i) ∧ m xb = some (vb i)) (fun i h => h.IsListIter I ax i ∧ h.IsList ax items ∧ ∀ k, k < items.size → h.IsTuple (Ts k) #[va k, vb k]) where
  sub := fun b hb => by
    rw [List.mem_singleton.mp hb]
    exact hI
  frame := fun i g g' st k => ⟨st.1.at fun o e => k I hI o e, st.2.1.at fun o e => k ax ha o e, fun j lt => (st.2.2 j lt).at fun o e => k _ (hT j lt).2 o e⟩
  there := fun i g st b hb => by
    rw [List.mem_singleton.mp hb]
    obtain ⟨o, ho, _⟩ := st.1
    exact ⟨o, ho⟩
  adv := fun B Z i s m calm lt st ns => by
    have nI : cenv.locals ≠ I := fun e => nf (e ▸ hI)
    have na : cenv.locals ≠ ax := fun e => nf (e ▸ ha)
    have W := WalksU.listOfTuples (prog := prog) (w := w) calm I ax ne items Ts (fun j => #[va j, vb j]) hit fun j lt => (hT j lt).1
    refine W.item i s _ _ lt st fun T vals h1 tk1 hv tT mid k1 => ⟨.ref T, rfl, ?_⟩
    subst hv
    refine W.go _ _ _ i T _ _ _ mid fun h2 st2 k2 => ?_
    have tT2 : h2.IsTuple T #[va i, vb i] := by
      obtain ⟨o, e, r⟩ := tT
      exact ⟨o, k2 _ o (W.apart i T _ mid) e, r⟩
    refine wpAny_assign_Tuple calm tT2 rfl rfl fun h3 x3 => ?_
    have x3 : Heap.ExtBut h2.objs.size h2 h3 := x3
    have old : ∀ b o, h2.get? b = some o → h3.get? b = some o := fun b o e => x3 b o (Nat.ne_of_lt (Heap.lt_size e)) e
    have nI' : cenv.locals ∉ [I] := fun z => nI (List.mem_singleton.mp z)
    show wpAny _ _ (do holding [vb i] (assign (.Name xa pa) cenv (va i)); do holding [] (assign (.Name xb pb) cenv (vb i)); pure ()) _ _ _
    refine wpAny_bind (wpAny_holding (wpAny_assign_Name (wpAny_storeName_local hxa (ns.at' fun o e => old _ o (k2 _ o nI' (k1 _ o nI' e))) (fun h4 ns4 sb4 => ?_) hp)))
    have sb4 : Heap.SameBut cenv.locals h3 h4 := sb4
    refine wpAny_bind (wpAny_holding (wpAny_assign_Name (wpAny_storeName_local hxb ns4 (fun h5 ns5 sb5 => wpAny_pure ?_) hp)))
    have sb5 : Heap.SameBut cenv.locals h4 h5 := sb5
    have up : ∀ b o, b ≠ cenv.locals → h2.get? b = some o → h5.get? b = some o := fun b o nb e => sb5.extBut b o nb (sb4.extBut b o nb (old b o e))
    refine ⟨h5, _, _, rfl, ⟨by simp [ab], by simp⟩, ns5, ⟨st2.1.at fun o e => up _ o nI.symm e, st2.2.1.at fun o e => up _ o na.symm e, fun j lt => (st2.2.2 j lt).at fun o e => up _ o (fun z => nf (z ▸ (hT j lt).2)) e⟩, fun b o nb nw e => up b o nb (k2 b o nw (k1 b o nw e))⟩
  done := fun B s Q Z calm st go => (WalksU.listOfTuples (prog := prog) (w := w) calm I ax ne items Ts (fun j => #[va j, vb j]) hit fun j lt => (hT j lt).1).done s Q Z st go
  self := fun B i s Q Z calm st go => (WalksU.listOfTuples (prog := prog) (w := w) calm I ax ne items Ts (fun j => #[va j, vb j]) hit fun j lt => (hT j lt).1).self i s Q Z st go
end
end GH
namespace GL
open PySem PySem.Spec PyProof.Rows L2
section
variable {X : Cx} {pins : List (Addr × Obj)} {σ : L2.St} {H : Hp} {s sB : Shared} {A : Around} {Z : Value → Shared → Prop} {cenv : Env}
/-- a captured name is read -/
theorem ld_free {y : Str} {i : Nat} {v : V} {Q : Value → Shared → Prop} (I : Inv X pins σ H sB) (eh : sB.heap = s.heap) (hk : cenv.scope.kind = .function) (hl : (y, NameKind.free) ∈ cenv.scope.names) (hl2 : cenv.kindOf y = some .free)
    (hcl : cenv.cells = cloFrom X.env.cells cenv.scope.names []) (hfree : ∀ z ∈ cenv.scope.names, z.2 = .free → ∃ c, X.env.cells.lookup z.1 = some c) (hi : X.N[i]? = some y) (hσ : σ[i]? = some (some v)) (hX : X.env.scope.names.lookup y = some .cell)
    (nc : (y == ("__classdict__" : Str)) = false) (h : ∀ u, RelV v u → Q u s) : wpAny (model X.prog X.w) A (loadName cenv y) Q Z s := by
  obtain ⟨m, hn, hl'⟩ := I.loc
  obtain ⟨u, r, l⟩ := hl' i y v hi hσ (.inr (.inl hX))
  rcases l with ⟨z, _⟩ | ⟨_, c, hc, hcell⟩
  · have z' : X.env.scope.names.lookup y = some .local := z
    rw [hX] at z'
    cases z'
  · exact wpAny_loadName_free hk hl2 (by rw [hcl]; exact NdefX.clo_has hfree hl hc) (by rw [← eh]; exact hcell) (h u r) nc
/-- what an element is: a new tuple -/
def IsNew (vs : List V) (o : Obj) : Prop := ∃ us : List Value, Vals vs us ∧ o = { cls := .type "tuple", data := .seq us.toArray }
def NewT (vs : List V) (s : Shared) (y : Value) (s1 : Shared) : Prop := ∃ (a : Addr) (o : Obj), y = .ref a ∧ s.heap.get? a = none ∧ s1.heap.get? a = some o ∧ IsNew vs o ∧ Keeps s s1
theorem keeps_tk (s : Shared) (k : Nat) : Keeps s { s with toks := k } := ⟨s.heap, k, rfl, fun _ _ e => e⟩
/-- the tuple (x, d[x]) -/
theorem elt_pair {x d : Str} {p1 p2 p3 p4 p5 : Pos} {kt i : Nat} {k : Key} {v : V} {a : Addr} {kvs : List (Key × V)} {u0 : Value} {m : Str → Option Value} (I : Inv X pins σ H sB) (eh : sB.heap = s.heap)
    (hk : cenv.scope.kind = .function) (hx : cenv.kindOf x = some .local) (hl : (d, NameKind.free) ∈ cenv.scope.names) (hl2 : cenv.kindOf d = some .free)
    (hcl : cenv.cells = cloFrom X.env.cells cenv.scope.names []) (hfree : ∀ z ∈ cenv.scope.names, z.2 = .free → ∃ c, X.env.cells.lookup z.1 = some c) (hi : X.N[i]? = some d) (hσ : σ[i]? = some (some (.ref a))) (hX : X.env.scope.names.lookup d = some .cell)
    (nc : (d == ("__classdict__" : Str)) = false) (ndx : (x == ("__debug__" : Str)) = false) (ndd : (d == ("__debug__" : Str)) = false)
    (hd : H a = some (.dK kvs)) (hv : valV kvs k = some v) (ns : s.heap.Ns cenv.locals m) (mx : m x = some u0) (r0 : RelV (kV k) u0) :
    wpAny (model X.prog X.w) A (eval (.Tuple [.Name x p1, .Subscript (.Name d p2) (.Name x p3) p4] kt p5) cenv) (NewT [kV k, v] s) Z s := by
  refine wpAny_Tuple_spliced ?_
  show wpAny _ _ (spliced ((false, eval (.Name x p1) cenv) :: backTo p5 (starEach [.Subscript (.Name d p2) (.Name x p3) p4] cenv))) _ _ s
  refine Calls.spliced_cons (wpAny_Name (wpAny_loadName_local hk hx ns mx ?_) ndx)
  show wpAny _ _ (spliced ((false, eval (.Subscript (.Name d p2) (.Name x p3) p4) cenv) :: backTo p5 (starEach [] cenv))) _ _ s
  refine Calls.spliced_cons (subD_of PySem.F.slot_dict_getitem.lookup (fun _ _ => rfl) (wpAny_Name (ld_free I eh hk hl hl2 hcl hfree hi hσ hX nc fun u ru => ?_) ndd))
  obtain rfl : u = Value.ref a := ru
  refine wpAny_Name (wpAny_loadName_local hk hx ns mx ?_) ndx
  obtain ⟨z, lo, vs, rel, dd⟩ := dk_of I.hok hd
  rw [eh] at dd
  obtain ⟨w', hw, rw'⟩ := RelO.some_of (v := v) (o := valueAt vs k) (by rw [← hv]; exact rel.val k)
  refine ⟨dd.typeIs, wpAny_getItem_of (kV_is r0) dd.mapOf hw ?_⟩
  refine Calls.spliced_nil ⟨(by show 2 ≤ sizeLine; decide), _, _, rfl, Heap.get?_none_of_le (Nat.le_refl _), Heap.get?_push_size _ rfl, ⟨[u0, w'], .cons r0 (.cons rw' .nil), rfl⟩, ⟨_, s.toks + 1, rfl, fun b o e => Heap.get?_push_of_some _ e⟩⟩
/-- the tuple (x, y, d[x, y]) -/
theorem elt_triple {x y d : Str} {p1 p2 p3 p4 p5 p6 p7 p8 : Pos} {kt kt2 i : Nat} {k l : Key} {v : V} {a : Addr} {kvs : List (List Key × V)} {u0 u1 : Value} {m : Str → Option Value} (hu : A.units + 40 < cLine) (I : Inv X pins σ H sB) (eh : sB.heap = s.heap)
    (hk : cenv.scope.kind = .function) (hx : cenv.kindOf x = some .local) (hy : cenv.kindOf y = some .local) (hl : (d, NameKind.free) ∈ cenv.scope.names) (hl2 : cenv.kindOf d = some .free)
    (hcl : cenv.cells = cloFrom X.env.cells cenv.scope.names []) (hfree : ∀ z ∈ cenv.scope.names, z.2 = .free → ∃ c, X.env.cells.lookup z.1 = some c) (hi : X.N[i]? = some d) (hσ : σ[i]? = some (some (.ref a))) (hX : X.env.scope.names.lookup d = some .cell)
    (nc : (d == ("__classdict__" : Str)) = false) (ndx : (x == ("__debug__" : Str)) = false) (ndy : (y == ("__debug__" : Str)) = false) (ndd : (d == ("__debug__" : Str)) = false)
    (hd : H a = some (.dT kvs)) (hv : valV kvs [k, l] = some v) (ns : s.heap.Ns cenv.locals m) (mx : m x = some u0) (my : m y = some u1) (r0 : RelV (kV k) u0) (r1 : RelV (kV l) u1) :
    wpAny (model X.prog X.w) A (eval (.Tuple [.Name x p1, .Name y p2, .Subscript (.Name d p3) (.Tuple [.Name x p4, .Name y p5] kt2 p6) p7] kt p8) cenv) (NewT [kV k, kV l, v] s) Z s := by
  refine wpAny_Tuple_spliced ?_
  show wpAny _ _ (spliced ((false, eval (.Name x p1) cenv) :: backTo p8 (starEach [.Name y p2, .Subscript (.Name d p3) (.Tuple [.Name x p4, .Name y p5] kt2 p6) p7] cenv))) _ _ s
  refine Calls.spliced_cons (wpAny_Name (wpAny_loadName_local hk hx ns mx ?_) ndx)
  show wpAny _ _ (spliced ((false, eval (.Name y p2) cenv) :: backTo p8 (starEach [.Subscript (.Name d p3) (.Tuple [.Name x p4, .Name y p5] kt2 p6) p7] cenv))) _ _ s
  refine Calls.spliced_cons (wpAny_Name (wpAny_loadName_local hk hy ns my ?_) ndy)
  show wpAny _ _ (spliced ((false, eval (.Subscript (.Name d p3) (.Tuple [.Name x p4, .Name y p5] kt2 p6) p7) cenv) :: backTo p8 (starEach [] cenv))) _ _ s
  refine Calls.spliced_cons (subD_of PySem.F.slot_dict_getitem.lookup (fun _ _ => rfl) (wpAny_Name (ld_free I eh hk hl hl2 hcl hfree hi hσ hX nc fun u ru => ?_) ndd))
  obtain rfl : u = Value.ref a := ru
  refine wpAny_Tuple_spliced ?_
  show wpAny _ _ (spliced ((false, eval (.Name x p4) cenv) :: backTo p6 (starEach [.Name y p5] cenv))) _ _ s
  refine Calls.spliced_cons (wpAny_Name (wpAny_loadName_local hk hx ns mx ?_) ndx)
  show wpAny _ _ (spliced ((false, eval (.Name y p5) cenv) :: backTo p6 (starEach [] cenv))) _ _ s
  refine Calls.spliced_cons (wpAny_Name (wpAny_loadName_local hk hy ns my ?_) ndy)
  refine Calls.spliced_nil ⟨(by show 2 ≤ sizeLine; decide), ?_⟩
  have J : Inv X pins σ (upd H sB.heap.objs.size (.tup [kV k, kV l])) { sB with heap := sB.heap.push { cls := .type "tuple", data := .seq #[u0, u1] } } :=
    I.laid (t' := sB.toks) (fun c o e => Heap.get?_push_of_some _ e) (Nat.le_refl _) ⟨(by show 2 ≤ sizeLine; decide), [u0, u1], .cons r0 (.cons r1 .nil), IsTup.new _ _⟩
  have hd2 : upd H sB.heap.objs.size (.tup [kV k, kV l]) a = some (.dT kvs) := by
    rw [upd_ne (ne_of_none hd (I.hok.fresh (Nat.le_refl _)))]
    exact hd
  obtain ⟨z, lo, xs, rel, dd⟩ := dt_of J.hok hd2
  have dd : (sB.heap.push { cls := .type "tuple", data := .seq #[u0, u1] }).DictOfH (tupleKind (mixKind X.prog X.w)) a xs := dd
  have kk : (tupleKind (mixKind X.prog X.w)).is (sB.heap.push { cls := .type "tuple", data := .seq #[u0, u1] }) [k, l] sB.heap.objs.size := key_of (ks := [k, l]) J.hok upd_same
  obtain ⟨w', hw, rw'⟩ := RelO.some_of (v := v) (o := (atKey xs [k, l]).map (·.2)) (by rw [← hv]; exact rel.val [k, l])
  obtain ⟨p, hp, hp2⟩ := Option.map_eq_some_iff.mp hw
  rw [eh] at dd kk
  refine ⟨dd.typeIs, wpAny_getItem_heap (tupleKind_room_in1 (by omega)) kk dd hp ?_⟩
  rw [hp2]
  refine Calls.spliced_nil ⟨(by show 3 ≤ sizeLine; decide), _, _, rfl, ?_, Heap.get?_push_size _ rfl, ⟨[u0, u1, w'], .cons r0 (.cons r1 (.cons rw' .nil)), rfl⟩, ⟨_, _, rfl, fun b o e => Heap.get?_push_of_some _ (Heap.get?_push_of_some _ e)⟩⟩
  refine Heap.get?_none_of_le ?_
  rw [Heap.size_push]
  exact Nat.le_succ _
end
end GL
namespace GL
open PySem PySem.Spec PyProof.Rows L2
section
variable {X : Cx} {pins : List (Addr × Obj)} {σ : L2.St} {H : Hp} {s : Shared}
theorem there {P : Program} {w : World} {H : Hp} {h : Heap} {a : Addr} {o : HO} (x : ObjOk P w H h a o) : ∃ u, h.get? a = some u := by
  cases o with
  | lst xs => obtain ⟨_, _, _, _, e⟩ := x; exact ⟨_, e⟩
  | tup xs => obtain ⟨_, _, _, _, e, _⟩ := x; exact ⟨_, e⟩
  | dK kvs => obtain ⟨_, _, _, _, o, _, _, e, _⟩ := x; exact ⟨_, e⟩
  | dT kvs => obtain ⟨_, _, _, _, o, _, _, e, _⟩ := x; exact ⟨_, e⟩
  | set S n => obtain ⟨o, _, _, _, e, _⟩ := x; exact ⟨_, e⟩
  | ins C dx fs => obtain ⟨_, _, _, e, _⟩ := x; exact ⟨_, e⟩
  | own y => exact x
  | xd fs => obtain ⟨_, ⟨_, _, _, e, _⟩, _⟩ := x; exact ⟨_, e⟩
  | rng lo hi => obtain ⟨_, _, _, e⟩ := x; exact ⟨_, e⟩
  | frz ob u => obtain ⟨e, _⟩ := x; exact ⟨_, e⟩
  | tbl ps => exact ⟨_, show h.get? a = some _ from x⟩
  | met f y => exact ⟨_, show h.get? a = some _ from x⟩
  | ext φ => obtain ⟨_, e, _⟩ := x; exact e
/-- a heap in which all of H1 stands, the table at P grown -/
def Kp (X : Cx) (pins : List (Addr × Obj)) (σ : L2.St) (H1 : Hp) (P : Addr) (g : Heap) : Prop := ∃ (H2 : Hp) (sB : Shared), GxR.Tabbed P H1 H2 ∧ sB.heap = g ∧ Inv X pins σ H2 sB
/-- how the things of the list us become rows -/
def Prov (X : Cx) (pins : List (Addr × Obj)) (σ : L2.St) (P : Addr) (scope : Scope) (tgt elt : Expr) (us : List V) (rows : List (List V)) (H1 : Hp) : Prop :=
  ∀ (its : List Value) (yl I : Addr) (cenv : Env) (hC : Heap), Vals us its → cenv.scope = scope → cenv.cells = cloFrom X.env.cells scope.names [] → cenv.locals = hC.objs.size → I < hC.objs.size → yl < hC.objs.size → yl ≠ I → hC.IsListIter I yl 0 → hC.IsList yl its.toArray → H1 I = none → Kp X pins σ H1 P hC →
    ∃ (Bd : Nat → (Str → Option Value) → Prop) (St : Nat → Heap → Prop), GH.Turns X.prog X.w tgt cenv I (List.range hC.objs.size) [I] us.length Bd St ∧ St 0 hC ∧
      ∀ (B : Around) (Z : Value → Shared → Prop) (i : Nat) (s : Shared) (m : Str → Option Value), B.handled = none → B.units + 40 < cLine → i < us.length → Bd i m → s.heap.Ns cenv.locals m → Kp X pins σ H1 P s.heap → wpAny (model X.prog X.w) B (eval elt cenv) (NewT (rows.getD i []) s) Z s
/-- the generator stands ready -/
def ReadyN (X : Cx) (pins : List (Addr × Obj)) (σ : L2.St) (H1 : Hp) (P : Addr) (n : Nat) (rows : List (List V)) (a : Addr) (s5 : Shared) : Prop :=
  ∃ (g : Nat) (C I : Addr) (fp : List Addr) (sA : Shared), GH.Set X.A.in1.in1.in1 a C fp [I] ∧ GH.At X.prog X.w X.A.in1.in1.in1 a g C fp [I] n (fun i o => IsNew (rows.getD i []) o) 0 s5 ∧ (∀ b ∈ a :: C :: fp, b < s5.heap.objs.size) ∧
    Inv X pins σ H1 sA ∧ (∀ b, s5.heap.get? b = none → sA.heap.get? b = none) ∧ ∀ s', Moved [C, I] (GenOnlyQ g) s5 s' → ∃ H2, GxR.Tabbed P H1 H2 ∧ Inv X pins σ H2 s' ∧ ∀ b u, H2 b = some u → ∃ o, s5.heap.get? b = some o
theorem gen_new {c P : Addr} {elt tgt iter : Expr} {gpos : Pos} {scope : Scope} {te : TE} {k : Nat} {Z : Value → Shared → Prop} {Pr : L2.St → List V → List (List V) → Hp → Prop} {R : List V → List (List V) → Hp → Prop}
    (pr : ∀ us rows H1, Pr σ us rows H1 → GxR.TabG H1 P → Prov X pins σ P scope tgt elt us rows H1) (hr : Room k X.A) (TB : GxR.TabB X.base X.mg c P) (code1 : X.env.code = .ref c) (kind : scope.kind = .function) (co : scope.isCoroutine = false) (cell : ∀ y ∈ scope.names, y.2 ≠ .cell) (dot : scope.names.lookup (".0" : Str) = some NameKind.local)
    (free : ∀ y ∈ scope.names, y.2 = .free → ∃ c, X.env.cells.lookup y.1 = some c) (it : PE X iter te)
    (fold : ∀ v, genFold iter X.env v = pure v) (I : Inv X pins σ H s) (h : te σ H fun v H1 => ∃ (yl : Addr) (us : List V) (rows : List (List V)), v = .ref yl ∧ H1 yl = some (.lst us) ∧ us.length ≤ 100000 ∧ GxR.TabG H1 P ∧ Pr σ us rows H1 ∧ R us rows H1)
    (go : ∀ us rows H1 a s5, us.length ≤ 100000 → R us rows H1 → ReadyN X pins σ H1 P us.length rows a s5 → Z (.ref a) s5) :
    wpAny (model X.prog X.w) X.A (eval (.GeneratorExp elt [⟨tgt, iter, [], 0⟩] scope gpos) X.env) Z X.xe s := by
  refine GH.made hr.hd co (closure_ok free) cell dot kind (by have := hr.dp; omega) ?_ fold
  refine thn (it.run pins s σ H _ I h) fun xv sA ⟨v, H1, IA, r1, q1⟩ => ?_
  obtain ⟨yl, us, rows, rfl, hy, few, ⟨tb0, hP, ht⟩, prov, q1⟩ := q1
  have prov := pr us rows H1 prov ⟨tb0, hP, ht⟩
  obtain rfl : xv = Value.ref yl := r1
  obtain ⟨its, rv, pl, hz⟩ := IA.list (SqL.of hy)
  have pl := pl.isList
  have ylt : yl < sA.heap.objs.size := let ⟨_, e, _⟩ := pl; Heap.lt_size e
  have lits : us.length = its.length := rv.length
  refine wpAny_pyIter_list pl ?_
  generalize ho : ({ cls := .type "list_iterator", data := .fields #[.ref yl, .int 0 0] } : Obj) = o
  have itr : (sA.heap.push o).IsListIter sA.heap.objs.size yl 0 := by
    subst ho
    exact ⟨_, Heap.get?_push_size _ rfl, rfl, rfl⟩
  have tabS : sA.heap.get? P = some { cls := .none, data := .fields tb0 } := IA.hok P _ hP
  have Plt : P < sA.heap.objs.size := Heap.lt_size tabS
  have tabS2 : (sA.heap.push o).get? P = some { cls := .none, data := .fields tb0 } := Heap.get?_push_of_some _ tabS
  have cdh : PySem.W.CodeHd (sA.heap.push o) c P := TB.code.keeps fun b u e => Heap.get?_push_of_some _ (IA.bk b u e)
  have limA : (sA.heap.push o).NoLimit := IA.nolimit.push o
  refine ⟨limA, ?_⟩
  have goOn : ∀ (code : Value) (hC : Heap) (tk : Nat) (tb1 : Array Value), Heap.ExtBut P (sA.heap.push o) hC → (sA.heap.push o).objs.size ≤ hC.objs.size → hC.get? P = some { cls := .none, data := .fields tb1 } → (∃ more, tb1 = tb0 ++ more) → TriplesOk tb1.toList →
      wpAny (model X.prog X.w) X.A (builtinsFor X.env.globals X.env.builtins) (fun bi s4 =>
        ∃ (I : Addr) (wr : List Addr) (n : Nat) (Bd : Nat → (Str → Option Value) → Prop) (St : Nat → Heap → Prop) (R : Nat → Obj → Prop), Value.ref sA.heap.objs.size = .ref I ∧ GH.Turns X.prog X.w tgt (genEnv scope (cloFrom X.env.cells scope.names []) s4.heap.objs.size code bi X.env) I (List.range s4.heap.objs.size) wr n Bd St ∧ St 0 s4.heap ∧ s4.heap.NoLimit ∧ cStatics ∉ wr ∧
          (∀ href : Heap, (∀ b o, s4.heap.get? b = some o → href.get? b = some o) → GH.Elts X.prog X.w (genEnv scope (cloFrom X.env.cells scope.names []) s4.heap.objs.size code bi X.env) elt (List.range s4.heap.objs.size) wr n Bd R (X.A.depth + 1) (X.A.units + 8) href) ∧
          (∀ a h5 tk gs, gs.bare = true → s4.heap.objs.size < a → h5.objs.size = a + 1 → (∀ b o, s4.heap.get? b = some o → h5.get? b = some o) → GH.Set X.A.in1.in1.in1 a s4.heap.objs.size (List.range s4.heap.objs.size) wr →
            GH.At X.prog X.w X.A.in1.in1.in1 a s4.gens.size s4.heap.objs.size (List.range s4.heap.objs.size) wr n R 0 { s4 with gens := s4.gens.push gs, toks := tk, heap := h5 } →
            Z (.ref a) { s4 with gens := s4.gens.push gs, toks := tk, heap := h5 })) X.xe { sA with heap := hC, toks := tk } := by
    intro code hC tk tb1 hx hsz tabC moreP triC
    obtain ⟨more, eM⟩ := moreP
    obtain ⟨mm, mo, e1, e2, e3, q4, q5, e6, e7, e8⟩ := TB.bm
    have nP : cStatics ≠ P := fun e => by
      obtain ⟨_, nsx, _⟩ := IA.nolimit
      obtain ⟨o', es, ep, ho, hd, _⟩ := nsx
      rw [e, tabS] at ho
      cases ho
      cases hd
    have stl : cStatics < sA.heap.objs.size := let ⟨_, nsx, _⟩ := IA.nolimit; nsx.lt
    have szA : (sA.heap.push o).objs.size = sA.heap.objs.size + 1 := Heap.size_push ..
    have kC : ∀ b u, b ≠ P → sA.heap.get? b = some u → hC.get? b = some u := fun b u inb e => hx b u inb (Heap.get?_push_of_some _ e)
    have mkI : ∀ (h' : Heap) (g' : Array GenState) (d' : Drawn) (t' : Nat), AllBare g' → (∀ b u, b ≠ P → sA.heap.get? b = some u → h'.get? b = some u) → h'.get? P = some { cls := .none, data := .fields tb1 } →
        GxR.Tabbed P H1 (upd H1 P (.tbl (tb0 ++ more))) ∧ Inv X pins σ (upd H1 P (.tbl (tb0 ++ more))) { sA with heap := h', gens := g', drawn := d', toks := t' } := fun h' g' d' t' bg k1 k2 =>
      ⟨⟨⟨tb0 ++ more, upd_same, by rw [← eM]; exact triC⟩, fun b nb => upd_ne nb⟩, GxR.inv_tab (more := more) IA hP k1 (by rw [← eM]; exact k2) bg⟩
    have kpOf : ∀ g : Heap, (∀ b u, b ≠ P → sA.heap.get? b = some u → g.get? b = some u) → g.get? P = some { cls := .none, data := .fields tb1 } → Kp X pins σ H1 P g := fun g k1 k2 => by
      obtain ⟨z1, z2⟩ := mkI g sA.gens sA.drawn sA.toks IA.bare k1 k2
      exact ⟨_, _, z1, rfl, z2⟩
    refine wpAny_builtinsFor (m := X.mg) (by rw [IA.ok.glob]; exact ((IA.mod.glob.keeps IA.bk).push o).extBut hx TB.gP) e1 e2 (kC _ _ q4 (IA.bk _ _ q5)) e6 e7 e8 ?_
    have nyP : yl ≠ P := fun e => by
      rw [e, hP] at hy
      cases hy
    have itr3 : hC.IsListIter sA.heap.objs.size yl 0 := itr.at fun u e => hx _ u (Nat.ne_of_gt Plt) e
    have pl3 : hC.IsList yl its.toArray := pl.at fun u e => kC _ u nyP e
    have Ilt : sA.heap.objs.size < hC.objs.size := by omega
    obtain ⟨Bd, St, T, st0, el⟩ := prov its yl sA.heap.objs.size (genEnv scope (cloFrom X.env.cells scope.names []) hC.objs.size code builtinsNs X.env) hC rv rfl rfl rfl Ilt (Nat.lt_trans ylt Ilt) (Nat.ne_of_lt ylt) itr3 pl3 (IA.hok.fresh (Nat.le_refl _)) (kpOf hC kC tabC)
    refine ⟨sA.heap.objs.size, [sA.heap.objs.size], us.length, Bd, St, fun i o => IsNew (rows.getD i []) o, rfl, T, st0, limA.extBut hx nP, fun z => Nat.ne_of_lt stl (List.mem_singleton.mp z), fun href kh => ?_, fun g hD tkD gN bareG ltG szD kpD E atG => ?_⟩
    · intro B Zb i sS m calm _ unit lt bd ns al
      have inr : ∀ b, b < hC.objs.size → b ∈ List.range hC.objs.size := fun b z => List.mem_range.mpr z
      have al2 : ∀ b u, b ≠ sA.heap.objs.size → hC.get? b = some u → sS.heap.get? b = some u := fun b u nb e => al b (inr b (Heap.lt_size e)) (fun z => nb (List.mem_singleton.mp z)) u (kh b u e)
      refine el B Zb i sS m calm (by have := hr.un; omega) lt bd ns (kpOf sS.heap (fun b u nb e => al2 b u (Nat.ne_of_lt (Heap.lt_size e)) (kC b u nb e)) (al2 P _ (Nat.ne_of_lt Plt) tabC))
    · refine go us rows H1 g _ few q1 ⟨_, _, _, _, sA, E, atG, fun b hb => ?_, IA, fun b e => ?_, fun s' mv => ?_⟩
      · show b < hD.objs.size
        have y8 : hC.objs.size < g := ltG
        have y5 : hD.objs.size = g + 1 := szD
        rw [y5]
        rcases List.mem_cons.mp hb with z | z
        · rw [z]
          exact Nat.lt_succ_self g
        · rcases List.mem_cons.mp z with z | z
          · rw [z]
            exact Nat.lt_succ_of_lt y8
          · have y7 : b < hC.objs.size := List.mem_range.mp z
            exact Nat.lt_succ_of_lt (Nat.lt_trans y7 y8)
      · have e : hD.get? b = none := e
        cases q : sA.heap.get? b with
        | none => rfl
        | some u =>
          by_cases nb : b = P
          · rw [nb] at e
            rw [kpD P _ tabC] at e
            cases e
          · rw [kpD b u (kC b u nb q)] at e
            cases e
      · have nowr : ∀ b u, sA.heap.get? b = some u → b ∉ hC.objs.size :: [sA.heap.objs.size] := fun b u e inb => by
          have hl := Heap.lt_size e
          rcases List.mem_cons.mp inb with z | z
          · rw [z] at hl
            exact Nat.lt_irrefl _ (Nat.lt_trans hl Ilt)
          · rcases List.mem_cons.mp z with z | z
            · rw [z] at hl
              exact Nat.lt_irrefl _ hl
            · cases z
        obtain ⟨z1, z2⟩ := mkI s'.heap s'.gens s'.drawn s'.toks (AllBare.movedS (IA.bare.push bareG) mv) (fun b u nb e => mv.heap b u (nowr b u e) (kpD b u (kC b u nb e))) (mv.heap P _ (nowr P _ tabS) (kpD P _ tabC))
        rw [GxR.sh_eta sA s' mv.os] at z2
        refine ⟨_, z1, z2, fun b u e => ?_⟩
        by_cases nb : b = P
        · rw [nb]
          exact ⟨_, kpD P _ tabC⟩
        · rw [z1.2 b nb] at e
          obtain ⟨o2, h2⟩ := there (IA.hok b u e)
          exact ⟨o2, kpD b _ (kC b _ nb h2)⟩
  cases hf : codeAmong gpos tb0.toList with
  | none =>
    refine wpAny_genexprCodeX code1 (cdh.code tabS2 ht) (cdh.tab tabS2) hf fun c' h' tk hx hge hlt cob _ ctab _ => ?_
    obtain ⟨o1, vs, f1, tf, fl, tg, inq, tx, tt, op, _, _, _, _, _, _, _, _, _, trp, _⟩ := cob
    exact goOn _ h' tk _ hx (Nat.le_trans hge (Nat.le_of_lt hlt)) ctab.2 ⟨_, rfl⟩ trp
  | some cv =>
    refine wpAny_genexprCode_hit code1 (cdh.code tabS2 ht) hf ?_
    exact goOn cv (sA.heap.push o) sA.toks tb0 (Heap.ExtBut.refl _ _) (Nat.le_refl _) tabS2 ⟨#[], by simp⟩ ht
end
end GL
namespace K5
open PySem PySem.Spec PyProof.Rows L2
def topS (i : Nat) : Stmt := PySem.Challenge.pw_truestandins_k08_pacts_written_and_read.main.body.getD (i + 1) (.Pass ⟨0, 0, 0, 0⟩)
/-! ### values that leave the heap as it is -/
section
variable {X : Cx} {K : PySem.W.Frag} {σ : L2.St} {H : Hp} {ta tb : TE} {i j : Int} {p : Addr} {xs : List V} {v : V}
theorem val_ixL (ha : Val ta σ H (.ref p)) (hb : Val tb σ H (.int i)) (hS : SqL K H p xs) (h : atI xs i = some v) : Val (tOp (rIxL K) ta tb) σ H v :=
  val_op ha hb fun Q q => ⟨p, xs, i, v, rfl, rfl, hS, h, q⟩
theorem val_i0 {g : Int → Int → Int} (ha : Val ta σ H (.int i)) (hb : Val tb σ H (.int j)) : Val (tOp (rI0 fun i j => .int (g i j)) ta tb) σ H (.int (g i j)) :=
  val_op ha hb fun Q q => ⟨i, j, rfl, rfl, q⟩
theorem val_iC {C : Int → Int → Prop} {g : Int → Int → Int} (ha : Val ta σ H (.int i)) (hb : Val tb σ H (.int j)) (hc : C i j) : Val (tOp (rI C fun i j => .int (g i j)) ta tb) σ H (.int (g i j)) :=
  val_op ha hb fun Q q => ⟨i, j, rfl, rfl, hc, q⟩
def rInt1 : List V → Hp → VK → Prop := fun xs H Q => (∃ i, xs = [.int i] ∧ Q (.int i) H) ∨ ∃ k, xs = [.bl k] ∧ Q (.int (if k then 1 else 0)) H
theorem pe_toInt {e : Expr} {te : TE} {p pos : Pos} (hg : Gl X "int") (hm : X.mg "int" = none) (h : PE X e te)
    (he : starEach (e :: []) X.env = (false, eval e X.env) :: starEach [] X.env := by rfl) (hpl : (backTo pos (starEach [] X.env)).any (·.1) = false := by rfl) : PE X (.Call (.Name "int" p) [e] [] pos) (tCB rInt1 (tCons te tNil)) :=
  pe_callTy call_int1 hg hm PyProof.Rows.boot_int (pa_cons h pa_nil he) (he := he) (hpl := hpl)
theorem val_toInt (h : Val ta σ H (.int i)) : Val (tCB rInt1 (tCons ta tNil)) σ H (.int i) := fun Q q => h _ (.inl ⟨i, rfl, q⟩)
theorem val_toIntB {b : Bool} (h : Val ta σ H (.bl b)) : Val (tCB rInt1 (tCons ta tNil)) σ H (.int (if b then 1 else 0)) := fun Q q => h _ (.inr ⟨b, rfl, q⟩)
end
/-! ### the box of draws -/
def bx (p q n : Int) : List V := [.int p, .int q, .int n]
structure Box (p q n : Int) : Prop where
  p0 : 0 ≤ p
  q0 : 0 ≤ q
  q1 : q < 2305843009213693921
  n0 : 0 ≤ n
  n1 : n ≤ 1000000
abbrev sTake : Stmt := topS 39
theorem scTake : FnScope ["_law_box_here", "_law_many", "_law_digit", "_law_big"] ["_law_box_here", "_law_many"] (defScope sTake) := ⟨rfl, rfl, rfl, by decide +kernel, rfl, by decide +kernel, by decide +kernel⟩
/-- a draw: the box goes on, at most one more is counted -/
def spTake : Sp := fun vs H Q _ => ∃ (b : Addr) (m p q n : Int), vs = [.ref b, .int m] ∧ H b = some (.lst (bx p q n)) ∧ Box p q n ∧ n < 1000000 ∧ 0 < m ∧ m < 1000000 ∧
  ∀ d p' n' : Int, 0 ≤ d → d < m → Box p' q n' → n' ≤ n + 1 → Q (.int d) (upd H b (.lst (bx p' q n')))
section
variable {P : Program} {w : World} {K : PySem.W.Frag} {mg : Str → Option Value} {base : Heap}
theorem ok_take {f : Addr} {fd : FuncData} {CX : CXT} (F : Fun K "_law_take" "_law_take" sTake f fd) (mI : mg "int" = none) : FnOk P w K mg base CX0 1 f fd ["_law_box_here", "_law_many"] spTake := by
  refine F.ok scTake (fun vs H Q E h => ?_) (fun cdv A outer s H vs Q E hr h => ?_)
  · obtain ⟨b, m, p, q, n, rfl, _⟩ := h
    rfl
  · obtain ⟨b, m, p, q, n, rfl, hb, B, hn, m0, m1, k⟩ := h
    refine ⟨_, pss_cons (ps_if (pt_cmpR op_gt (pe_ix ix_list (pv 0) pe_int (fun _ _ => rfl)) pe_int (nomark _))
        (pss_cons (ps_set (i := 2) scTake.nd rfl (.inl rfl) (pe_op op_mod (pe_toInt (by rfl) mI (pe_ix ix_list (pv 0) pe_int (fun _ _ => rfl))) (pv 1)))
        (pss_cons (ps_asg (pe_op op_fdiv (pe_ix ix_list (pv 0) pe_int (fun _ _ => rfl)) (pv 1)) (pg_sub (pv 0) pe_int set_list))
        (pss_one (ps_ret (pv 2))))) pss_nil)
      (pss_cons (ps_asg (pe_op op_add (pe_ix ix_list (pv 0) pe_int (fun _ _ => rfl)) pe_int) (pg_sub (pv 0) pe_int set_list))
      (pss_cons (ps_set (i := 3) scTake.nd rfl (.inl rfl) (pe_op op_mod (pe_toInt (by rfl) mI (pe_op op_mul (pe_op op_add (pe_op op_add (pe_ix ix_list (pv 0) pe_int (fun _ _ => rfl)) (pe_op op_mul (pe_op op_mul pe_int (pe_ix ix_list (pv 0) pe_int (fun _ _ => rfl))) (pe_ix ix_list (pv 0) pe_int (fun _ _ => rfl)))) pe_int) pe_int)) pe_int))
      (pss_cons (ps_set (i := 3) scTake.nd rfl (.inl rfl) (pe_op op_mod (pe_toInt (by rfl) mI (pe_op op_mul (pv 3) (pe_op op_add (pe_op op_mod (pe_toInt (by rfl) mI (pv 3)) pe_int) (pe_op op_mul pe_int (pe_ix ix_list (pv 0) pe_int (fun _ _ => rfl)))))) pe_int))
      (pss_one (ps_ret (pe_op op_mod (pe_toInt (by rfl) mI (pe_op op_add (pe_op op_fdiv (pv 3) pe_int) (pe_op op_fdiv (pv 3) pe_int))) (pv 1))))))), ?_⟩
    have hS : SqL K H b (bx p q n) := SqL.of hb
    refine (val_ixL (val_var rfl) val_c hS (atI_nat (j := 0) rfl)) _ ?_
    refine ⟨_, _, rfl, rfl, _, rfl, ite2 (fun e => ?_) (fun e => ?_)⟩
    · refine (val_iC (val_toInt (val_ixL (val_var rfl) val_c hS (atI_nat (j := 0) rfl))) (val_var rfl) m0) _ ?_
      refine (val_iC (val_ixL (val_var rfl) val_c hS (atI_nat (j := 0) rfl)) (val_var rfl) ⟨m0, by omega⟩) _ ?_
      refine ⟨_, rfl, b, _, 0, 0, rfl, rfl, hb, rfl, ?_⟩
      refine ⟨_, rfl, ?_⟩
      have hp : 0 < p := of_decide_eq_true e
      exact k _ _ _ (Int.emod_nonneg _ (by omega)) (Int.emod_lt_of_pos _ m0) ⟨Int.ediv_nonneg B.p0 (by omega), B.q0, B.q1, B.n0, B.n1⟩ (by omega)
    · refine (val_i0 (val_ixL (val_var rfl) val_c hS (atI_nat (j := 2) rfl)) val_c) _ ?_
      refine ⟨_, rfl, b, _, 2, 2, rfl, rfl, hb, rfl, ?_⟩
      have h1 : (upd H b (.lst (bx p q (n + 1)))) b = some (.lst (bx p q (n + 1))) := upd_same
      have hS1 : SqL K (upd H b (.lst (bx p q (n + 1)))) b (bx p q (n + 1)) := SqL.of h1
      refine (val_iC (val_toInt (val_iC (val_i0 (val_i0 (val_ixL (val_var rfl) val_c hS1 (atI_nat (j := 1) rfl)) (val_iC (val_iC val_c (val_ixL (val_var rfl) val_c hS1 (atI_nat (j := 2) rfl)) ?_) (val_ixL (val_var rfl) val_c hS1 (atI_nat (j := 2) rfl)) ?_)) val_c) val_c ?_)) val_c ?_) _ ?_
      · exact .inl ⟨by decide, by decide⟩
      · exact .inr ⟨by have := B.n0; omega, by omega⟩
      · exact .inr ⟨by decide, by decide⟩
      · show (0 : Int) < 2305843009213693921
        decide
      generalize hz : (q + 65543 * (n + 1) * (n + 1) + 41) * 48271 % 2305843009213693921 = z
      have z0 : 0 ≤ z := by rw [← hz]; exact Int.emod_nonneg _ (by decide)
      have z1 : z < 2305843009213693921 := by rw [← hz]; exact Int.emod_lt_of_pos _ (by decide)
      refine (val_iC (val_toInt (val_iC (val_var rfl) (val_i0 (val_iC (val_toInt (val_var rfl)) val_c ?_) (val_iC val_c (val_ixL (val_var rfl) val_c hS1 (atI_nat (j := 2) rfl)) ?_)) ?_)) val_c ?_) _ ?_
      · show (0 : Int) < 1000003
        decide
      · exact .inl ⟨by decide, by decide⟩
      · exact .inl ⟨by omega, by omega⟩
      · show (0 : Int) < 2305843009213693907
        decide
      refine (val_iC (val_toInt (val_i0 (val_iC (val_var rfl) val_c ⟨by decide, by decide⟩) (val_iC (val_var rfl) val_c ⟨by decide, by decide⟩))) (val_var rfl) m0) _ ?_
      exact k _ _ _ (Int.emod_nonneg _ (by omega)) (Int.emod_lt_of_pos _ m0) ⟨B.p0, B.q0, B.q1, by have := B.n0; omega, by omega⟩ (by omega)
end
end K5
namespace K5
open PySem PySem.Spec PyProof.Rows L2
/-- the built-ins' names still are the built-ins' -/
structure Bt (mg : Str → Option Value) : Prop where
  m_int : mg "int" = none
  m_len : mg "len" = none
  m_abs : mg "abs" = none
  m_max : mg "max" = none
  m_min : mg "min" = none
  m_list : mg "list" = none
  m_str : mg "str" = none
  m_bool : mg "bool" = none
  m_range : mg "range" = none
  m_isinstance : mg "isinstance" = none
  m_tuple : mg "tuple" = none
  m_repr : mg "repr" = none
/-- a def of the top -/
structure Df (K : PySem.W.Frag) (mg : Str → Option Value) (x : Str) (st : Stmt) (f : Addr) (fd : FuncData) (ps : List Str) : Prop where
  F : Fun K x x st f fd
  g : mg x = some (.ref f)
  b : Binds K fd ps []
/-- a method -/
structure Mf (K : PySem.W.Frag) (C : Addr) (x qual : Str) (st : Stmt) (f : Addr) (fd : FuncData) (ps : List Str) : Prop where
  F : Fun K x qual st f fd
  m : Meth K C x f
  b : Binds K fd ps []
/-! ### heaps -/
theorem same_upd {H : Hp} {p : Addr} {o : HO} (h : H p = none) : Same H (upd H p o) := fun b x e => by
  rw [upd_ne (ne_of_none e h)]
  exact e
/-- all that was tracked is as it was, but the list at b -/
def SameBut (b : Addr) (H H' : Hp) : Prop := ∀ a o, a ≠ b → H a = some o → H' a = some o
theorem SameBut.of_same {b : Addr} {H H' : Hp} (e : Same H H') : SameBut b H H' := fun a o _ h => e a o h
theorem SameBut.trans {b : Addr} {H H1 H2 : Hp} (x : SameBut b H H1) (y : SameBut b H1 H2) : SameBut b H H2 := fun a o n h => y a o n (x a o n h)
theorem SameBut.upd (b : Addr) (H : Hp) (o : HO) : SameBut b H (upd H b o) := fun a u n h => by
  rw [upd_ne n]
  exact h
/-! ### numbers -/
def CPowB (i j : Int) : Prop := 0 ≤ j ∧ (Builtin.Int.intBits i : Int) * j ≤ 2 ^ 27
theorem op_powB {X : Cx} : OpR X (binaryOp .Pow) (rI CPowB fun i j => .int (i ^ j.toNat)) := opI fun _ _ _ _ _ _ _ hc q => pow_int hc.1 hc.2 q
section
variable {X : Cx} {K : PySem.W.Frag} {σ : L2.St} {H : Hp} {ta tb : TE} {i j : Int} {p : Addr} {xs : List V} {v : V}
theorem val_i0b {g : Int → Int → Bool} (ha : Val ta σ H (.int i)) (hb : Val tb σ H (.int j)) : Val (tOp (rI0 fun i j => .bl (g i j)) ta tb) σ H (.bl (g i j)) :=
  val_op ha hb fun Q q => ⟨i, j, rfl, rfl, q⟩
def rAbs : List V → Hp → VK → Prop := fun xs H Q => ∃ i, xs = [.int i] ∧ Q (.int (if i < 0 then -i else i)) H
theorem val_abs (h : Val ta σ H (.int i)) : Val (tCB rAbs (tCons ta tNil)) σ H (.int (if i < 0 then -i else i)) := fun Q q => h _ ⟨i, rfl, q⟩
def rLenSq (K : PySem.W.Frag) : List V → Hp → VK → Prop := fun xs H Q => ∃ p ys, xs = [.ref p] ∧ (SqL K H p ys ∨ SqT K H p ys) ∧ Q (.int ys.length) H
theorem val_lenL (h : Val ta σ H (.ref p)) (hS : SqL K H p xs) : Val (tCB (rLenSq K) (tCons ta tNil)) σ H (.int xs.length) := fun Q q => h _ ⟨p, xs, rfl, .inl hS, q⟩
end
theorem b01 (b : Bool) : -(2 ^ 64) < (if b = true then (1 : Int) else 0) ∧ (if b = true then (1 : Int) else 0) < 2 ^ 64 := by cases b <;> exact ⟨by decide, by decide⟩
theorem b0 (b : Bool) : 0 ≤ (if b = true then (1 : Int) else 0) := by cases b <;> decide
theorem step_int {te : TE} {σ : L2.St} {H : Hp} {Q : VK} (h : ∃ z : Int, Val te σ H (.int z)) (k : ∀ z : Int, Q (.int z) H) : te σ H Q := by
  obtain ⟨z, hz⟩ := h
  exact hz Q (k z)
/-! ### a fresh box -/
abbrev s__law_box : Stmt := topS 38
theorem sc__law_box : FnScope ["_law_script", "_law_k", "_law_first", "_law_own"] ["_law_script", "_law_k"] (defScope s__law_box) := ⟨rfl, rfl, rfl, by decide +kernel, rfl, by decide +kernel, by decide +kernel⟩
def spBox (K : PySem.W.Frag) : Sp := fun vs H Q _ => ∃ (a : Addr) (ns : List Int) (k : Int), vs = [.ref a, .int k] ∧ SqL K H a (ns.map V.int) ∧ 0 ≤ k ∧ k < 100 ∧
  ∀ (b : Addr) (p q : Int), H b = none → Box p q 0 → Q (.ref b) (upd H b (.lst (bx p q 0)))
section
variable {P : Program} {w : World} {K : PySem.W.Frag} {mg : Str → Option Value} {base : Heap}
theorem ok_box {f : Addr} {fd : FuncData} (B : Bt mg) (D : Df K mg "_law_box" s__law_box f fd ["_law_script", "_law_k"]) : FnOk P w K mg base CX0 1 f fd ["_law_script", "_law_k"] (spBox K) := by
  refine D.F.ok sc__law_box (fun vs H Q E h => ?_) (fun cdv A outer s H vs Q E hr h => ?_)
  · obtain ⟨a, ns, k, rfl, _⟩ := h
    rfl
  · obtain ⟨a, ns, k, rfl, hS, k0, k1, kk⟩ := h
    have S := sc__law_box
    refine ⟨_, (pss_cons (ps_set (i := 2) S.nd rfl (.inl rfl) (pe_ifExp (pt_cmpR op_lt (pv 1) (pe_callB call_len_seq (by rfl) B.m_len PySem.boot_len (pa_cons (pv 0) pa_nil)) (nomark _)) (pe_ix ix_list (pv 0) (pv 1) (fun _ _ => rfl)) (pe_op op_add (pe_op op_mul pe_int (pv 1)) pe_int)))
      (pss_cons (ps_set (i := 3) S.nd rfl (.inl rfl) (pe_op op_mul (pe_op op_mod (pe_toInt (by rfl) B.m_int (pe_callB call_abs (by rfl) B.m_abs PyProof.Rows.boot_abs (pa_cons (pv 2) pa_nil))) (pe_op op_powB (pe_op op_pow pe_int pe_int) pe_int)) (pe_toInt (by rfl) B.m_int (pe_cmpR op_ge (pe_callB call_abs (by rfl) B.m_abs PyProof.Rows.boot_abs (pa_cons (pv 2) pa_nil)) (pe_op op_pow pe_int pe_int) (nomark _)))))
      (pss_one (ps_ret (pe_lst (pa_cons (pv 3) (pa_cons (pe_op op_mod (pe_toInt (by rfl) B.m_int (pe_op op_add (pe_op op_add (pe_op op_mul (pe_op op_mod (pe_toInt (by rfl) B.m_int (pv 2)) pe_int) pe_int) (pe_op op_mul (pe_op op_mul pe_int (pv 1)) (pv 1))) pe_int)) pe_int) (pa_cons pe_int pa_nil)))))))), ?_⟩
    show tIf _ _ _ _ _ _
    refine step_int ?_ fun z => ?_
    · by_cases hk : k < (ns.map V.int).length
      · have hk' : k.toNat < ns.length := by
          rw [List.length_map] at hk
          omega
        refine ⟨ns[k.toNat], fun Q q => ?_⟩
        refine (val_i0b (val_var rfl) (val_lenL (val_var rfl) hS)) _ ⟨_, rfl, ?_⟩
        rw [decide_eq_true hk]
        refine iteT ((val_ixL (val_var rfl) (val_var rfl) hS (at_of (j := k.toNat) (by omega) ?_)) _ q)
        rw [List.getElem?_map, List.getElem?_eq_getElem hk']
        rfl
      · refine ⟨37 * k + 11, fun Q q => ?_⟩
        refine (val_i0b (val_var rfl) (val_lenL (val_var rfl) hS)) _ ⟨_, rfl, ?_⟩
        rw [decide_eq_false hk]
        exact iteF ((val_i0 (val_iC val_c (val_var rfl) (.inl ⟨by decide, by decide⟩)) val_c) _ q)
    · refine (val_iC (val_iC (val_toInt (val_abs (val_var rfl))) (val_iC (val_iC val_c val_c ⟨by decide, by decide, by decide⟩) val_c ⟨by decide, by decide +kernel⟩) ?_) (val_toIntB (val_i0b (val_abs (val_var rfl)) (val_iC val_c val_c ⟨by decide, by decide, by decide⟩))) ?_) _ ?_
      · show (0 : Int) < (10 ^ (60 : Int).toNat) ^ (4 : Int).toNat
        decide +kernel
      · exact .inr (b01 _)
      generalize hp : (if z < 0 then -z else z) % (10 ^ (60 : Int).toNat) ^ (4 : Int).toNat * (if decide (10 ^ (18 : Int).toNat ≤ if z < 0 then -z else z) = true then 1 else 0) = p
      have p0 : 0 ≤ p := by
        rw [← hp]
        exact Int.mul_nonneg (Int.emod_nonneg _ (by decide +kernel)) (b0 _)
      refine ⟨_, rfl, ?_⟩
      have m1 : 0 ≤ z % 2305843009213693951 := Int.emod_nonneg _ (by decide)
      have m2 : z % 2305843009213693951 < 2305843009213693951 := Int.emod_lt_of_pos _ (by decide)
      refine (val_iC (val_toInt (val_i0 (val_i0 (val_iC (val_iC (val_toInt (val_var rfl)) val_c ?_) val_c ?_) (val_iC (val_iC val_c (val_var rfl) ?_) (val_var rfl) ?_)) val_c)) val_c ?_) _ ?_
      · show (0 : Int) < 2305843009213693951
        decide
      · exact .inr ⟨by decide, by decide⟩
      · exact .inl ⟨by decide, by decide⟩
      · exact .inr ⟨by omega, by omega⟩
      · show (0 : Int) < 2305843009213693921
        decide
      refine ⟨by show 3 ≤ sizeLine; decide, fun b hb => ?_⟩
      exact kk b _ _ hb ⟨p0, Int.emod_nonneg _ (by decide), Int.emod_lt_of_pos _ (by decide), by decide, by decide⟩
end
end K5
namespace GL
open PySem PySem.Spec PyProof.Rows L2 K5
section
variable {X : Cx} {pins : List (Addr × Obj)} {σ σ' : L2.St} {H H' : Hp} {s sI : Shared}
/-- what came since J may be laid on the ledger -/
theorem track {a : Addr} {o : HO} (I : Inv X pins σ H s) (J : Inv X pins σ' H' sI) (new : sI.heap.get? a = none) (hx : X.ex = []) (hn : H a = none) (nL : a ≠ X.env.locals) (ok : ObjOk X.prog X.w (upd H a o) s.heap a o) : Inv X pins σ (upd H a o) s := by
  have old : ∀ b u, X.s_0.heap.get? b = some u → b ≠ a := fun b u e z => by
    obtain ⟨u2, e2⟩ := J.base.there b u e (by rw [hx]; exact List.not_mem_nil)
    rw [z, new] at e2
    cases e2
  have kp : ∀ b u, H b = some u → upd H a o b = some u := fun b u e => by
    rw [upd_ne (ne_of_none e hn)]
    exact e
  refine ⟨I.ok, I.os, I.bare, ⟨I.base.keep, I.base.slot, fun b u e n x => ?_, I.base.there, fun b xs e => kp _ _ (I.base.tups b xs e), fun b u v e => kp _ _ (I.base.frzs b u v e), fun b ps e => ?_⟩, I.loc, I.cell, ?_, fun x c e => ?_, fun p hp => ?_, fun b u e => ?_, I.len⟩
  · rw [upd_ne (old b u e)]
    exact I.base.free b u e n x
  · obtain ⟨more, e2⟩ := I.base.tbls b ps e
    exact ⟨more, kp _ _ e2⟩
  · rw [upd_ne nL.symm]
    exact I.free
  · have nc : c ≠ a := fun z => by
      obtain ⟨v, hv⟩ := J.cell x c e
      rw [z] at hv
      obtain ⟨ob, h1, _⟩ := hv
      rw [new] at h1
      cases h1
    rw [upd_ne nc]
    exact I.freeC x c e
  · obtain ⟨e1, e2, e3⟩ := I.pin p hp
    have np : p.1 ≠ a := fun z => by
      obtain ⟨q1, _⟩ := J.pin p hp
      rw [z, new] at q1
      cases q1
    rw [upd_ne np]
    exact ⟨e1, e2, e3⟩
  · by_cases c : b = a
    · subst c
      rw [upd_same] at e
      cases e
      exact ok
    · rw [upd_ne c] at e
      exact (I.hok b u e).stay (fun c v _ q => q) (fun c q => kp _ _ q) fun c xs q => kp _ _ q
end
section
variable {X : Cx} {pins : List (Addr × Obj)} {σ : L2.St} {H : Hp} {s : Shared}
/-- the new things are laid on the ledger one after another -/
theorem lay_all {sA s1 : Shared} {H1 : Hp} (IA : Inv X pins σ H1 sA) (hx : X.ex = []) : ∀ (vs : List Value) (rows : List (List V)) (H2 : Hp), vs.length = rows.length → (∀ r ∈ rows, r.length ≤ sizeLine) → Inv X pins σ H2 s1 → vs.Nodup →
    (∀ j v, vs[j]? = some v → ∃ b o, v = .ref b ∧ sA.heap.get? b = none ∧ s1.heap.get? b = some o ∧ IsNew (rows.getD j []) o ∧ H2 b = none) →
    ∃ (ts : List Addr) (H3 : Hp), Inv X pins σ H3 s1 ∧ Same H2 H3 ∧ vs = ts.map Value.ref ∧ Paired (fun t r => H3 t = some (.tup r)) ts rows := by
  intro vs
  induction vs with
  | nil =>
    intro rows H2 el _ I2 _ _
    obtain rfl : rows = [] := List.eq_nil_of_length_eq_zero el.symm
    exact ⟨[], H2, I2, fun b o e => e, rfl, .nil⟩
  | cons v vs ih =>
    intro rows H2 el few I2 nd hv
    cases rows with
    | nil => cases el
    | cons r rows =>
      obtain ⟨b, o, rfl, nA, ho, ⟨us, rv, rfl⟩, nb⟩ := hv 0 v rfl
      have nL : b ≠ X.env.locals := fun z => by
        obtain ⟨_, ⟨_, _, _, q, _⟩, _⟩ := IA.loc
        rw [← z, nA] at q
        cases q
      have I3 := track (o := .tup r) I2 IA nA hx nb nL ⟨few r (List.mem_cons_self ..), us, rv, ⟨_, ho, rfl, 0, rfl⟩⟩
      have nd2 := List.nodup_cons.mp nd
      obtain ⟨ts, H3, I4, sm, rfl, pr⟩ := ih rows _ (Nat.succ.inj el) (fun q hq => few q (List.mem_cons_of_mem _ hq)) I3 nd2.2 fun j u e => by
        obtain ⟨b2, o2, e1, e2, e3, e4, e5⟩ := hv (j + 1) u e
        refine ⟨b2, o2, e1, e2, e3, e4, ?_⟩
        rw [upd_ne (fun z => nd2.1 (by rw [← z, ← e1]; exact List.mem_of_getElem? e))]
        exact e5
      exact ⟨b :: ts, H3, I4, fun c u e => sm c u (by rw [upd_ne (ne_of_none e nb)]; exact e), rfl, .cons (sm b _ upd_same) pr⟩
theorem vals_refs : ∀ ts : List Addr, Vals (ts.map V.ref) (ts.map Value.ref)
  | [] => .nil
  | t :: r => .cons rfl (vals_refs r)
theorem paired_imp' {α β : Type} {R S : α → β → Prop} {l : List α} {m : List β} (h : Paired R l m) (f : ∀ a b, R a b → S a b) : Paired S l m := by
  induction h with
  | nil => exact .nil
  | cons a b ih => exact .cons (f _ _ a) ih
/-- tuple(elt for tgt in te), elt a tuple -/
def tTupNew (P : Addr) (Pr : L2.St → List V → List (List V) → Hp → Prop) (te : TE) : TE := fun σ H Q => te σ H fun v H1 => ∃ (yl : Addr) (us : List V) (rows : List (List V)), v = .ref yl ∧ H1 yl = some (.lst us) ∧ us.length ≤ 100000 ∧ GxR.TabG H1 P ∧ Pr σ us rows H1 ∧
  rows.length = us.length ∧ (∀ r ∈ rows, r.length ≤ 10) ∧ ∀ (H2 H3 : Hp) (p : Addr) (ts : List Addr), GxR.Tabbed P H1 H2 → Same H2 H3 → Paired (fun t r => H3 t = some (.tup r)) ts rows → H3 p = some (.tup (ts.map V.ref)) → Q (.ref p) H3
theorem pe_tupNew {c P : Addr} {elt tgt iter : Expr} {gpos p pos : Pos} {scope : Scope} {te : TE} {k : Nat} {Pr : L2.St → List V → List (List V) → Hp → Prop}
    (hr : Room k X.A) (TB : GxR.TabB X.base X.mg c P) (code1 : X.env.code = .ref c) (kind : scope.kind = .function) (co : scope.isCoroutine = false) (cell : ∀ y ∈ scope.names, y.2 ≠ .cell) (dot : scope.names.lookup (".0" : Str) = some NameKind.local)
    (free : ∀ y ∈ scope.names, y.2 = .free → X.env.scope.names.lookup y.1 = some .cell) (it : PE X iter te) (pr : ∀ pins σ us rows H1, Pr σ us rows H1 → GxR.TabG H1 P → Prov X pins σ P scope tgt elt us rows H1)
    (hx : X.ex = []) (hg : Gl X "tuple") (hm : X.mg "tuple" = none) (fold : ∀ v, genFold iter X.env v = pure v := by exact fun _ => rfl)
    (star1 : starEach [.GeneratorExp elt [⟨tgt, iter, [], 0⟩] scope gpos] X.env = (false, eval (.GeneratorExp elt [⟨tgt, iter, [], 0⟩] scope gpos) X.env) :: starEach [] X.env := by rfl) :
    PE X (.Call (.Name "tuple" p) [.GeneratorExp elt [⟨tgt, iter, [], 0⟩] scope gpos] [] pos) (tTupNew P Pr te) := by
  refine ⟨fun pins s σ H Q I hh0 => ?_⟩
  refine wpAny_Call_Name_kw (ld_blt I hg hm boot_tuple ?_)
  refine PyProof.Rows.callWith_type1 ?_ star1 rfl
  rw [star1]
  show wpAny _ _ (spliced ((false, eval (.GeneratorExp elt [⟨tgt, iter, [], 0⟩] scope gpos) X.env) :: backTo pos (starEach [] X.env))) _ _ s
  refine Calls.spliced_cons (gen_new (pr pins σ) (R := fun us rows H1 => rows.length = us.length ∧ (∀ r ∈ rows, r.length ≤ 10) ∧ ∀ (H2 H3 : Hp) (p : Addr) (ts : List Addr), GxR.Tabbed P H1 H2 → Same H2 H3 → Paired (fun t r => H3 t = some (.tup r)) ts rows → H3 p = some (.tup (ts.map V.ref)) → Q (.ref p) H3) hr TB code1 kind co cell dot (fun y hy e => I.ok.has _ (.inl (free y hy e))) it fold I
    hh0 fun us rows H1 a s5 few hR hG => ?_)
  refine Calls.spliced_nil ?_
  obtain ⟨g, C, I0, fp, sA, E, st, low, IA, gone, mvd⟩ := hG
  obtain ⟨lr, sm, q⟩ := hR
  have few2 : us.length ≤ sizeLine := Nat.le_trans few (by decide)
  refine GH.call_tuple E st low few2 fun s' acc mv got => ?_
  obtain ⟨H2, tb, J, al⟩ := mvd s' mv
  obtain ⟨g1, g2, g3⟩ := got
  obtain ⟨ts, H3, J3, sm3, ev, prs⟩ := lay_all IA hx acc.toList rows H2 (by rw [Array.length_toList, g1, lr]) (fun r hr => Nat.le_trans (sm r hr) (by decide)) J g2 fun j v e => by
    obtain ⟨b, o, e1, e2, e0, e3, e4⟩ := g3 j v (by rw [← Array.getElem?_toList]; exact e)
    refine ⟨b, o, e1, gone b e0, e3, e4, ?_⟩
    cases q2 : H2 b with
    | none => rfl
    | some u =>
      obtain ⟨o2, h2⟩ := al b u q2
      rw [e0] at h2
      cases h2
  have nf : H3 s'.heap.objs.size = none := J3.hok.fresh (Nat.le_refl _)
  have lt : ts.length ≤ sizeLine := by rw [Paired.length prs, lr]; exact few2
  have new : Inv X pins σ (upd H3 s'.heap.objs.size (.tup (ts.map V.ref))) { s' with heap := s'.heap.push { cls := .type "tuple", data := .seq acc } } := by
    refine J3.laid (t' := s'.toks) (fun c o e => Heap.get?_push_of_some _ e) (Nat.le_refl _) ⟨by rw [List.length_map]; exact lt, ts.map Value.ref, vals_refs ts, ?_⟩
    rw [← ev, Array.toArray_toList]
    exact IsTup.new _ _
  exact ⟨.ref s'.heap.objs.size, _, new, rfl, q H2 _ _ ts tb (fun b o e => by rw [upd_ne (ne_of_none (sm3 b o e) nf)]; exact sm3 b o e) (paired_imp' prs fun t r e => by rw [upd_ne (ne_of_none e nf)]; exact e) upd_same⟩
end
end GL
namespace GL
open PySem PySem.Spec PyProof.Rows L2 K5
section
variable {X : Cx} {pins : List (Addr × Obj)} {σ : L2.St} {H1 : Hp} {P : Addr} {scope : Scope} {us : List V} {rows : List (List V)}
/-- rows (x, d[x]), the dict d in the slot i -/
def PrN (i : Nat) : L2.St → List V → List (List V) → Hp → Prop := fun σ us rows H1 => ∃ (a : Addr) (kvs : List (Key × V)) (ks : List Key), σ[i]? = some (some (.ref a)) ∧ H1 a = some (.dK kvs) ∧ us = ks.map kV ∧
  ∀ (j : Nat) (k : Key), ks[j]? = some k → ∃ v, valV kvs k = some v ∧ rows[j]? = some [kV k, v]
/-- rows (x, y, d[x, y]) -/
def PrT (i : Nat) : L2.St → List V → List (List V) → Hp → Prop := fun σ us rows H1 => ∃ (a : Addr) (kvs : List (List Key × V)) (ts : List Addr) (ks : List (Key × Key)), σ[i]? = some (some (.ref a)) ∧ H1 a = some (.dT kvs) ∧ us = ts.map V.ref ∧
  Paired (fun t k => H1 t = some (.tup [kV k.1, kV k.2])) ts ks ∧ ∀ (j : Nat) (k : Key × Key), ks[j]? = some k → ∃ v, valV kvs [k.1, k.2] = some v ∧ rows[j]? = some [kV k.1, kV k.2, v]
theorem vals_at : ∀ {xs : List V} {us : List Value} {j : Nat} {x : V} {u : Value}, Vals xs us → xs[j]? = some x → us[j]? = some u → RelV x u
  | _, _, 0, _, _, .cons a _, e1, e2 => by
    cases e1
    cases e2
    exact a
  | _, _, j + 1, _, _, .cons _ r, e1, e2 => vals_at (j := j) r e1 e2
  | _, _, 0, _, _, .nil, e1, _ => by cases e1
  | _, _, _ + 1, _, _, .nil, e1, _ => by cases e1
theorem vals_ref_map : ∀ {ts : List Addr} {us : List Value}, Vals (ts.map V.ref) us → us = ts.map Value.ref
  | [], _, .nil => rfl
  | t :: r, _, .cons a b => by
    rw [vals_ref_map b, show _ = Value.ref t from a]
    rfl
theorem paired_get {α β : Type} {R : α → β → Prop} : ∀ {l : List α} {m : List β} {j : Nat} {a : α}, Paired R l m → l[j]? = some a → ∃ b, m[j]? = some b ∧ R a b
  | _, _, 0, _, .cons r _, e => by
    cases e
    exact ⟨_, rfl, r⟩
  | _, _, j + 1, _, .cons _ t, e => paired_get (j := j) t e
  | _, _, 0, _, .nil, e => by cases e
  | _, _, _ + 1, _, .nil, e => by cases e
theorem getD_of {rows : List (List V)} {j : Nat} {r : List V} (h : rows[j]? = some r) : rows.getD j [] = r := by
  rw [List.getD_eq_getElem?_getD, h]
  rfl
theorem prov_name {x d : Str} {p1 p2 p3 p4 p5 p6 : Pos} {kt i : Nat} (kind : scope.kind = .function) (hx : scope.names.lookup x = some .local) (hl : (d, NameKind.free) ∈ scope.names) (hl2 : scope.names.lookup d = some .free)
    (free : ∀ y ∈ scope.names, y.2 = .free → X.env.scope.names.lookup y.1 = some .cell) (hi : X.N[i]? = some d)
    (nc : (d == ("__classdict__" : Str)) = false) (ndx : (x == ("__debug__" : Str)) = false) (ndd : (d == ("__debug__" : Str)) = false) (h : PrN i σ us rows H1) (tab : GxR.TabG H1 P) :
    Prov X pins σ P scope (.Name x p6) (.Tuple [.Name x p1, .Subscript (.Name d p2) (.Name x p3) p4] kt p5) us rows H1 := by
  obtain ⟨a, kvs, ks, hσ, hd, rfl, hv⟩ := h
  intro its yl I cenv hC rv hs hc hloc Ilt ylt ne itr pl nI kp
  have el : (ks.map kV).length = its.toArray.size := by rw [List.size_toArray]; exact rv.length
  have T := GH.Turns.name (prog := X.prog) (w := X.w) (cenv := cenv) (I := I) (ax := yl) (fp := List.range hC.objs.size) (items := its.toArray) (x := x) (px := p6) (show cenv.scope.names.lookup x = some .local by rw [hs]; exact hx) (by rw [hs, kind]; rfl) (List.mem_range.mpr Ilt) (List.mem_range.mpr ylt) ne (fun z => by rw [hloc] at z; exact Nat.lt_irrefl _ (List.mem_range.mp z))
  rw [← el] at T
  refine ⟨_, _, T, ⟨itr, pl⟩, fun B Z j s m calm unit lt bd ns kp2 => ?_⟩
  obtain ⟨u0, hu0, mu0⟩ := bd
  obtain ⟨H2, sB, tb, eh, IB⟩ := kp2
  have na : a ≠ P := fun z => by
    obtain ⟨ps, h1, _⟩ := tab
    rw [← z, hd] at h1
    cases h1
  have lt2 : j < ks.length := by rw [List.length_map] at lt; exact lt
  have ek : ks[j]? = some ks[j] := List.getElem?_eq_getElem lt2
  obtain ⟨v, e1, e2⟩ := hv j _ ek
  rw [getD_of e2]
  have r0 : RelV (kV ks[j]) u0 := vals_at rv (by rw [List.getElem?_map, ek]; rfl) (by rw [← List.getElem?_toArray]; exact hu0)
  exact elt_pair IB eh (by rw [hs]; exact kind) (show cenv.scope.names.lookup x = some .local by rw [hs]; exact hx) (by rw [hs]; exact hl) (show cenv.scope.names.lookup d = some .free by rw [hs]; exact hl2) (by rw [hs]; exact hc) (by rw [hs]; exact fun z hz e => IB.ok.has _ (.inl (free z hz e))) hi hσ (free _ hl rfl) nc ndx ndd (by rw [tb.2 a na]; exact hd) e1 ns mu0 r0
theorem prov_pair {x y d : Str} {p1 p2 p3 p4 p5 p6 p7 p8 p9 p10 p11 : Pos} {kt kt2 kt3 i : Nat} (kind : scope.kind = .function) (hx : scope.names.lookup x = some .local) (hy : scope.names.lookup y = some .local) (xy : x ≠ y) (hl : (d, NameKind.free) ∈ scope.names) (hl2 : scope.names.lookup d = some .free)
    (free : ∀ y ∈ scope.names, y.2 = .free → X.env.scope.names.lookup y.1 = some .cell) (hi : X.N[i]? = some d)
    (nc : (d == ("__classdict__" : Str)) = false) (ndx : (x == ("__debug__" : Str)) = false) (ndy : (y == ("__debug__" : Str)) = false) (ndd : (d == ("__debug__" : Str)) = false) (h : PrT i σ us rows H1) (tab : GxR.TabG H1 P) :
    Prov X pins σ P scope (.Tuple [.Name x p9, .Name y p10] kt3 p11) (.Tuple [.Name x p1, .Name y p2, .Subscript (.Name d p3) (.Tuple [.Name x p4, .Name y p5] kt2 p6) p7] kt p8) us rows H1 := by
  obtain ⟨a, kvs, ts, ks, hσ, hd, rfl, prs, hv⟩ := h
  intro its yl I cenv hC rv hs hc hloc Ilt ylt ne itr pl nI kp
  have ev : its = ts.map Value.ref := vals_ref_map rv
  subst ev
  have el : (ts.map V.ref).length = (ts.map Value.ref).toArray.size := by rw [List.size_toArray, List.length_map, List.length_map]
  have lts : ts.length = ks.length := Paired.length prs
  have sz : (ts.map Value.ref).toArray.size = ts.length := by rw [List.size_toArray, List.length_map]
  obtain ⟨HC, sC, tbC, ehC, IC⟩ := kp
  have tat : ∀ j, j < ts.length → ∃ (k : Key × Key) (u0 u1 : Value), ks[j]? = some k ∧ RelV (kV k.1) u0 ∧ RelV (kV k.2) u1 ∧ hC.IsTuple (ts.getD j 0) #[u0, u1] ∧ H1 (ts.getD j 0) = some (.tup [kV k.1, kV k.2]) := fun j lt => by
    have e1 : ts[j]? = some ts[j] := List.getElem?_eq_getElem lt
    obtain ⟨k, e2, e3⟩ := paired_get prs e1
    have ed : ts.getD j 0 = ts[j] := by rw [List.getD_eq_getElem?_getD, e1]; rfl
    have np : ts[j] ≠ P := fun z => by
      obtain ⟨ps, h1, _⟩ := tab
      rw [← z, e3] at h1
      cases h1
    obtain ⟨us, r2, p2, _⟩ := IC.tuple (SqT.of (show HC ts[j] = some (.tup [kV k.1, kV k.2]) by rw [tbC.2 _ np]; exact e3))
    cases r2 with
    | cons ra rb =>
      cases rb with
      | cons rb rc =>
        cases rc
        rw [ehC] at p2
        obtain ⟨o, q1, q2, q3, q4⟩ := p2
        exact ⟨k, _, _, e2, ra, rb, by rw [ed]; exact ⟨o, q1, q2, q3, q4⟩, by rw [ed]; exact e3⟩
  classical
  have T := GH.Turns.pair (prog := X.prog) (w := X.w) (cenv := cenv) (I := I) (ax := yl) (fp := List.range hC.objs.size) (items := (ts.map Value.ref).toArray) (xa := x) (xb := y) (pa := p9) (pb := p10) (pt := p11) (kt := kt3) (show cenv.scope.names.lookup x = some .local by rw [hs]; exact hx) (show cenv.scope.names.lookup y = some .local by rw [hs]; exact hy) xy (by rw [hs, kind]; rfl) (List.mem_range.mpr Ilt) (List.mem_range.mpr ylt) ne (fun z => by rw [hloc] at z; exact Nat.lt_irrefl _ (List.mem_range.mp z))
    (fun j => ts.getD j 0) (fun j => if lt : j < ts.length then (tat j lt).choose_spec.choose else .none) (fun j => if lt : j < ts.length then (tat j lt).choose_spec.choose_spec.choose else .none) (fun j lt => by
      rw [sz] at lt
      rw [List.getElem?_toArray, List.getElem?_map, List.getElem?_eq_getElem lt, List.getD_eq_getElem?_getD, List.getElem?_eq_getElem lt]
      rfl) (fun j lt => by
      rw [sz] at lt
      obtain ⟨k, u0, u1, _, _, _, t1, t2⟩ := tat j lt
      exact ⟨(fun z => by
        have t3 := t2
        rw [show ts.getD j 0 = I from z, nI] at t3
        cases t3), List.mem_range.mpr (let ⟨_, e, _⟩ := t1; Heap.lt_size e)⟩)
  rw [← el] at T
  refine ⟨_, _, T, ⟨itr, pl, fun j lt => ?_⟩, fun B Z j s m calm unit lt bd ns kp2 => ?_⟩
  · have lt : j < ts.length := by rw [List.length_map] at lt; exact lt
    have q := (tat j lt).choose_spec.choose_spec.choose_spec.2.2.2.1
    simp only [lt, dif_pos]
    exact q
  · have lt2 : j < ts.length := by rw [List.length_map] at lt; exact lt
    obtain ⟨b0, b1⟩ := bd
    simp only [lt2, dif_pos] at b0 b1
    have w := (tat j lt2).choose_spec.choose_spec.choose_spec
    obtain ⟨e2, r0, r1, _, _⟩ := w
    obtain ⟨H2, sB, tb, eh, IB⟩ := kp2
    have na : a ≠ P := fun z => by
      obtain ⟨ps, h1, _⟩ := tab
      rw [← z, hd] at h1
      cases h1
    obtain ⟨v, g1, g2⟩ := hv j _ e2
    rw [getD_of g2]
    exact elt_triple unit IB eh (by rw [hs]; exact kind) (show cenv.scope.names.lookup x = some .local by rw [hs]; exact hx) (show cenv.scope.names.lookup y = some .local by rw [hs]; exact hy) (by rw [hs]; exact hl) (show cenv.scope.names.lookup d = some .free by rw [hs]; exact hl2) (by rw [hs]; exact hc) (by rw [hs]; exact fun z hz e => IB.ok.has _ (.inl (free z hz e))) hi hσ (free _ hl rfl) nc ndx ndy ndd (by rw [tb.2 a na]; exact hd) g1 ns b0 b1 r0 r1
end
end GL
namespace K5
open PySem PySem.Spec PyProof.Rows L2
abbrev s__law_some : Stmt := topS 41
theorem sc__law_some : FnScope ["_law_box_here", "_law_items", "_law_many", "_law_left", "_law_found", "_law_turn"] ["_law_box_here", "_law_items", "_law_many"] (defScope s__law_some) := ⟨rfl, rfl, rfl, by decide +kernel, rfl, by decide +kernel, by decide +kernel⟩
/-- so many of some items, in a drawn sequence: a new list; the box goes on -/
def spSome (K : PySem.W.Frag) : Sp := fun vs H Q _ => ∃ (b l : Addr) (xs : List V) (m : Nat) (p q n : Int), vs = [.ref b, .ref l, .int m] ∧ H b = some (.lst (bx p q n)) ∧ Box p q n ∧ SqL K H l xs ∧ m ≤ xs.length ∧ xs.length ≤ 1000 ∧ n + m < 1000000 ∧
  ∀ (H' : Hp) (r : Addr) (ys rest : List V) (p' n' : Int), SameBut b H H' → H r = none → H' r = some (.lst ys) → H' b = some (.lst (bx p' q n')) → Box p' q n' → n' ≤ n + m → ys.length = m → (ys ++ rest).Perm xs → Q (.ref r) H'
theorem seqIndex_in {n : Nat} {d : Int} (h0 : 0 ≤ d) (h1 : d < n) : seqIndex? d n = some d.toNat := by
  unfold seqIndex?
  simp only []
  split <;> simp_all <;> omega
theorem erase_perm {α : Type} : ∀ {l : List α} {j : Nat} (h : j < l.length), (l[j] :: l.eraseIdx j).Perm l
  | _ :: _, 0, _ => List.Perm.refl _
  | a :: l, j + 1, h => by
    have hj : j < l.length := Nat.lt_of_succ_lt_succ h
    have ih := erase_perm (l := l) (j := j) hj
    show (l[j] :: a :: l.eraseIdx j).Perm (a :: l)
    exact (List.Perm.swap _ _ _).trans (List.Perm.cons a ih)
theorem perm_pick {ys xs l : List V} {j : Nat} {y : V} (h : (ys ++ l).Perm xs) (hj : l[j]? = some y) : (ys ++ [y] ++ l.eraseIdx j).Perm xs := by
  refine List.Perm.trans ?_ h
  rw [List.append_assoc]
  refine List.Perm.append_left ys ?_
  show (y :: l.eraseIdx j).Perm l
  obtain ⟨hl, e⟩ := List.getElem?_eq_some_iff.mp hj
  rw [← e]
  exact erase_perm hl
section
variable {P : Program} {w : World} {K : PySem.W.Frag} {mg : Str → Option Value} {base : Heap}
theorem ok_some {f fT : Addr} {fd fdT : FuncData} (B : Bt mg) (D : Df K mg "_law_some" s__law_some f fd ["_law_box_here", "_law_items", "_law_many"]) (D__law_take : Df K mg "_law_take" sTake fT fdT ["_law_box_here", "_law_many"]) :
    FnOk P w K mg base CX0 2 f fd ["_law_box_here", "_law_items", "_law_many"] (spSome K) := by
  have G__law_take : FnOk P w K mg base CX0 1 fT fdT ["_law_box_here", "_law_many"] spTake := ok_take (CX := CX0) D__law_take.F B.m_int
  refine D.F.ok sc__law_some (fun vs H Q E h => ?_) (fun cdv A outer s H vs Q E hr h => ?_)
  · obtain ⟨b, l, xs, m, p, q, n, rfl, _⟩ := h
    rfl
  · obtain ⟨b, l, xs, m, p, q, n, rfl, hb, Bx, hS, hm, hx, hn, k⟩ := h
    have S := sc__law_some
    refine ⟨_, (pss_cons (ps_par (i := 3) (j := 4) (by rfl) S.nd rfl rfl (by decide) rfl rfl (pa_cons (pe_callTy call_list_of (by rfl) B.m_list PyProof.Rows.boot_list (pa_cons (pv 1) pa_nil)) (pa_cons (pe_lst pa_nil) pa_nil)) (by rfl))
      (pss_cons (ps_for PassesOwn.never rfl (pi_range1 (by rfl) B.m_range (pa_cons (pv 2) pa_nil)) (pg_name (i := 5) S.nd rfl (.inl rfl))
        (pss_one (ps_expr (pe_bm PySem.F.plainAttrs_list PySem.F.slot_list_append PySem.F.type_list_append mt_append (pv 4) (pa_cons (pe_bm PySem.F.plainAttrs_list PySem.F.slot_list_pop PySem.F.type_list_pop mt_popAt (pv 3) (pa_cons (pe_call G__law_take (hr.mono (by decide)) (by rfl) D__law_take.g D__law_take.F.kp D__law_take.b .nil pass0 (pa_cons (pv 0) (pa_cons (pe_callB call_len_seq (by rfl) B.m_len PySem.boot_len (pa_cons (pv 3) pa_nil)) pa_nil))) pa_nil)) pa_nil)))))
      (pss_one (ps_ret (pv 4))))), ?_⟩
    -- left, found
    refine ⟨.ref l, rfl, l, xs, rfl, .inl hS, fun a na => ?_⟩
    refine ⟨Nat.zero_le _, fun r nr => ?_⟩
    have nra : r ≠ a := fun e => by rw [e, upd_same] at nr; cases nr
    have nba : b ≠ a := ne_of_none hb na
    have s1 : Same H (upd H a (.lst xs)) := same_upd na
    have s2 : Same (upd H a (.lst xs)) (upd (upd H a (.lst xs)) r (.lst [])) := same_upd nr
    have nr0 : H r = none := s1.free nr
    refine ⟨_, _, rfl, ?_⟩
    refine ⟨.int m, rfl, m, rfl, by omega, by omega, ?_⟩
    show ∃ W : Nat → Nat → L2.St → Hp → Prop, _
    refine for_range (lo := 0) (n := (m : Int).toNat) (fun i σ H' => ∃ (ys left : List V) (p' n' : Int) (t : Option V), σ = [some (.ref b), some (.ref l), some (.int m), some (.ref a), some (.ref r), t] ∧
        SameBut b H H' ∧ H' b = some (.lst (bx p' q n')) ∧ Box p' q n' ∧ n' ≤ n + i ∧ H' a = some (.lst left) ∧ H' r = some (.lst ys) ∧ ys.length = i ∧ (ys ++ left).Perm xs) ?_ ?_ ?_
    · refine ⟨[], xs, p, n, none, rfl, (SameBut.of_same s1).trans (SameBut.of_same s2), s2 _ _ (s1 _ _ hb), Bx, by omega, ?_, upd_same, rfl, List.Perm.refl _⟩
      rw [upd_ne nra.symm, upd_same]
    · rintro i σ H' hi ⟨ys, left, p', n', t, rfl, sb, hb', Bx', hn', ha', hr', hy, hp⟩
      have hlen : ys.length + left.length = xs.length := by
        have z := hp.length_eq
        rw [List.length_append] at z
        exact z
      have hi' : i < m := by omega
      refine ⟨.ref r, rfl, .inl ⟨rfl, _, SqL.of hr'⟩, .ref a, rfl, .inl ⟨rfl, _, SqL.of ha'⟩, ?_⟩
      refine ⟨.ref b, rfl, .ref a, rfl, a, left, rfl, .inl (SqL.of ha'), ?_⟩
      refine ⟨b, left.length, p', q, n', rfl, hb', Bx', by omega, by omega, by omega, fun d p'' n'' d0 d1 B2 hn2 => ?_⟩
      have nab : a ≠ b := fun e => nba e.symm
      have nrb : r ≠ b := fun e => by rw [e, hb] at nr0; cases nr0
      have ha2 : (upd H' b (.lst (bx p'' q n''))) a = some (.lst left) := by rw [upd_ne nab]; exact ha'
      have hj : d.toNat < left.length := by omega
      refine ⟨a, left, d, d.toNat, left[d.toNat], rfl, rfl, ha2, by omega, by omega, seqIndex_in d0 (by omega), List.getElem?_eq_getElem hj, ?_⟩
      refine ⟨r, ys, left[d.toNat], rfl, rfl, ?_, ?_, ?_⟩
      · rw [upd_ne nra, upd_ne nrb]
        exact hr'
      · exact small1000 (by omega)
      · refine ⟨ys ++ [left[d.toNat]], left.eraseIdx d.toNat, p'', n'', _, rfl, ?_, ?_, B2, by omega, ?_, upd_same, ?_, perm_pick hp (List.getElem?_eq_getElem hj)⟩
        · intro c o nc hc
          have n1 : c ≠ r := ne_of_none hc nr0
          have n2 : c ≠ a := ne_of_none hc na
          rw [upd_ne n1, upd_ne n2, upd_ne nc]
          exact sb c o nc hc
        · rw [upd_ne nrb.symm, upd_ne nba, upd_same]
        · rw [upd_ne nra.symm, upd_same]
        · rw [List.length_append, hy]
          rfl
    · rintro σ H' ⟨ys, left, p', n', t, rfl, sb, hb', Bx', hn', ha', hr', hy, hp⟩
      exact ⟨.ref r, rfl, k H' r ys left p' n' sb nr0 hr' hb' Bx' (by omega) (by omega) hp⟩
end
end K5
namespace K5
open PySem PySem.Spec PyProof.Rows L2
/-! ### kinds of values -/
inductive Kd (H : Hp) : V → String → Prop
  | non : Kd H .non "NoneType"
  | bl (b : Bool) : Kd H (.bl b) "bool"
  | int (i : Int) : Kd H (.int i) "int"
  | str (x : Str) : Kd H (.str x) "str"
  | lst {a : Addr} {xs : List V} (h : H a = some (.lst xs)) : Kd H (.ref a) "list"
  | tup {a : Addr} {xs : List V} (h : H a = some (.tup xs)) : Kd H (.ref a) "tuple"
  | dK {a : Addr} {kvs : List (Key × V)} (h : H a = some (.dK kvs)) : Kd H (.ref a) "dict"
theorem Kd.ty {K : PySem.W.Frag} {H : Hp} {x : V} {T : String} (h : Kd H x T) : TyX K H x (.type T) := by
  cases h with
  | non => exact .base .non
  | bl b => exact .base (.bl b)
  | int i => exact .base (.int i)
  | str x => exact .base (.str x)
  | lst h => exact .base (.lst h)
  | tup h => exact .base (.tup h)
  | dK h => exact .base (.dK h)
theorem Kd.mono {H H' : Hp} {x : V} {T : String} (h : Kd H x T) (e : Same H H') : Kd H' x T := by
  cases h with
  | non => exact .non
  | bl b => exact .bl b
  | int i => exact .int i
  | str x => exact .str x
  | lst h => exact .lst (e _ _ h)
  | tup h => exact .tup (e _ _ h)
  | dK h => exact .dK (e _ _ h)
def isI : V → Bool
  | .int _ => true
  | _ => false
def isIB : V → Bool
  | .int _ => true
  | .bl _ => true
  | _ => false
def isB : V → Bool
  | .bl _ => true
  | _ => false
def isS : V → Bool
  | .str _ => true
  | _ => false
theorem Kd.int_ {H : Hp} {x : V} {T : String} (h : Kd H x T) : kitB T "int" = some (isIB x) := by cases h <;> (simp only [isIB, isB, isS]; decide +kernel)
theorem Kd.bool_ {H : Hp} {x : V} {T : String} (h : Kd H x T) : kitB T "bool" = some (isB x) := by cases h <;> (simp only [isIB, isB, isS]; decide +kernel)
theorem Kd.str_ {H : Hp} {x : V} {T : String} (h : Kd H x T) : kitB T "str" = some (isS x) := by cases h <;> (simp only [isIB, isB, isS]; decide +kernel)
section
variable {X : Cx} {K : PySem.W.Frag} {σ : L2.St} {H : Hp} {ta tb tc : TE} {i j k : Int} {p : Addr} {xs : List V} {v x : V} {a b : Bool}
theorem val_isi {T C : String} (ha : Val ta σ H x) (hx : Kd H x T) (h : kitB T C = some b) : Val (tCB (rIsi K) (tCons ta (tCons (tC (.ty C)) tNil))) σ H (.bl b) := fun Q q =>
  ha _ ⟨x, .ty C, .type T, .type C, b, rfl, .ty C, hx.ty, kit_ty h, q⟩
theorem val_andV (ha : Val ta σ H (.bl a)) (hb : a = true → Val tb σ H (.bl b)) : Val (tAndV ta tb) σ H (.bl (a && b)) := fun Q q => ha _ ⟨a, rfl, by
  cases a with
  | true => exact iteT (hb rfl _ q)
  | false => exact iteF q⟩
theorem val_notV (ha : Val ta σ H (.bl a)) : Val (tNotV ta) σ H (.bl (!a)) := fun Q q => ha _ ⟨a, rfl, q⟩
theorem val_chain {g1 g2 : Int → Int → Bool} (ha : Val ta σ H (.int i)) (hb : Val tb σ H (.int j)) (hc : Val tc σ H (.int k)) :
    Val (tChain (rI0 fun i j => .bl (g1 i j)) (rI0 fun i j => .bl (g2 i j)) ta tb tc) σ H (.bl (g1 i j && g2 j k)) := fun Q q =>
  ha _ (hb _ ⟨i, j, rfl, rfl, g1 i j, rfl, by
    cases e : g1 i j with
    | true =>
      rw [e] at q
      exact iteT (hc _ ⟨j, k, rfl, rfl, q⟩)
    | false =>
      rw [e] at q
      exact iteF q⟩)
theorem pe_tyN {n : String} {y : Str} {pos : Pos} (hv : bootBuiltins y = some (.type n)) (hg : Gl X y) (hm : X.mg y = none) (hn : y ≠ "__name__" := by decide) (hdb : (y == ("__debug__" : Str)) = false := by decide) : PE X (.Name y pos) (tC (.ty n)) := pe_bltn hg hm hv rfl (hn := hn) (hd := hdb)
theorem bt_int : bootBuiltins "int" = some (.type "int") := by decide +kernel
theorem bt_bool : bootBuiltins "bool" = some (.type "bool") := by decide +kernel
theorem bt_str : bootBuiltins "str" = some (.type "str") := by decide +kernel
theorem val_call {sp : Sp} {E : XK} {t : TA} {vs : List V} (h : ∀ Q : List V → Hp → Prop, Q vs H → t σ H Q) (hs : ∀ Q : VK, Q v H → sp vs H Q E) : Val (tCall sp [] E t) σ H v := fun Q q =>
  h _ (by rw [List.append_nil]; exact hs Q q)
theorem va_nil : ∀ Q : List V → Hp → Prop, Q [] H → tNil σ H Q := fun _ q => q
theorem va_cons {t : TA} {vs : List V} (ha : Val ta σ H v) (ht : ∀ Q : List V → Hp → Prop, Q vs H → t σ H Q) : ∀ Q : List V → Hp → Prop, Q (v :: vs) H → tCons ta t σ H Q := fun Q q => ha _ (ht _ q)
def rLenS : List V → Hp → VK → Prop := fun xs H Q => ∃ z, xs = [.str z] ∧ z.length ≤ sizeLine ∧ Q (.int z.length) H
theorem val_lenS {z : Str} (h : Val ta σ H (.str z)) (hz : z.length ≤ sizeLine) : Val (tCB rLenS (tCons ta tNil)) σ H (.int z.length) := fun Q q => h _ ⟨z, rfl, hz, q⟩
theorem val_sb0 {g : Str → Bool} {z : Str} (h : Val ta σ H (.str z)) : Val (tBM0 K "str" (fun x xs H Q => ∃ a, x = .str a ∧ xs = [] ∧ True ∧ Q (.bl (g a)) H) ta) σ H (.bl (g z)) := fun Q q =>
  h _ ⟨rfl, z, rfl, rfl, True.intro, q⟩
end
/-! ### forms -/
def worthsOk : V → Bool
  | .int i => decide (2 ≤ i) && decide (i ≤ 4)
  | _ => false
def isName (z : Str) : Bool := (decide ((1 : Int) ≤ (z.length : Int)) && decide ((z.length : Int) ≤ 8)) && (Txt.isascii z && (Txt.isalpha z && Txt.islower z))
def isDoor (z : Str) : Bool := isName z && !decide (V.str z = V.str "any")
def spIsInt : Sp := fun vs H Q _ => ∃ (x : V) (T : String), vs = [x] ∧ Kd H x T ∧ Q (.bl (isI x)) H
def spIsWorths : Sp := fun vs H Q _ => ∃ (x : V) (T : String), vs = [x] ∧ Kd H x T ∧ Q (.bl (worthsOk x)) H
def spIsName : Sp := fun vs H Q _ => ∃ z : Str, vs = [.str z] ∧ z.length ≤ 10000000 ∧ Q (.bl (isName z)) H
def spIsDoor : Sp := fun vs H Q _ => ∃ z : Str, vs = [.str z] ∧ z.length ≤ 10000000 ∧ Q (.bl (isDoor z)) H
abbrev s_is_integer : Stmt := topS 6
theorem sc_is_integer : FnScope ["value"] ["value"] (defScope s_is_integer) := ⟨rfl, rfl, rfl, by decide +kernel, rfl, by decide +kernel, by decide +kernel⟩
abbrev s_is_worths : Stmt := topS 8
theorem sc_is_worths : FnScope ["value"] ["value"] (defScope s_is_worths) := ⟨rfl, rfl, rfl, by decide +kernel, rfl, by decide +kernel, by decide +kernel⟩
abbrev s_is_name : Stmt := topS 10
theorem sc_is_name : FnScope ["value"] ["value"] (defScope s_is_name) := ⟨rfl, rfl, rfl, by decide +kernel, rfl, by decide +kernel, by decide +kernel⟩
abbrev s_is_door : Stmt := topS 11
theorem sc_is_door : FnScope ["value"] ["value"] (defScope s_is_door) := ⟨rfl, rfl, rfl, by decide +kernel, rfl, by decide +kernel, by decide +kernel⟩
theorem big_size {n : Nat} (h : n ≤ 10000000) : n ≤ sizeLine := Nat.le_trans h (by decide)
section
variable {P : Program} {w : World} {K : PySem.W.Frag} {mg : Str → Option Value} {base : Heap}
theorem ok_is_integer {f : Addr} {fd : FuncData} (B : Bt mg) (D : Df K mg "is_integer" s_is_integer f fd ["value"]) : FnOk P w K mg base CX0 1 f fd ["value"] spIsInt := by
  refine D.F.ok sc_is_integer (fun vs H Q E h => ?_) (fun cdv A outer s H vs Q E hr h => ?_)
  · obtain ⟨x, T, rfl, _⟩ := h
    rfl
  · obtain ⟨x, T, rfl, hx, k⟩ := h
    have S := sc_is_integer
    refine ⟨_, (pss_one (ps_ret (pe_and (pe_callB call_isi (by rfl) B.m_isinstance PyProof.Rows.boot_isinstance (pa_cons (pv 0) (pa_cons (pe_tyN bt_int (by rfl) B.m_int) pa_nil))) (pe_one (pe_not (pe_callB call_isi (by rfl) B.m_isinstance PyProof.Rows.boot_isinstance (pa_cons (pv 0) (pa_cons (pe_tyN bt_bool (by rfl) B.m_bool) pa_nil)))))))), ?_⟩
    refine (val_andV (val_isi (val_var rfl) hx hx.int_) fun _ => val_notV (val_isi (val_var rfl) hx hx.bool_)) _ ?_
    have e : (isIB x && !isB x) = isI x := by cases x <;> rfl
    rw [e]
    exact k
theorem ok_is_worths {f fI : Addr} {fd fdI : FuncData} (B : Bt mg) (D : Df K mg "is_worths" s_is_worths f fd ["value"]) (D_is_integer : Df K mg "is_integer" s_is_integer fI fdI ["value"]) : FnOk P w K mg base CX0 2 f fd ["value"] spIsWorths := by
  have G_is_integer : FnOk P w K mg base CX0 1 fI fdI ["value"] spIsInt := ok_is_integer B D_is_integer
  refine D.F.ok sc_is_worths (fun vs H Q E h => ?_) (fun cdv A outer s H vs Q E hr h => ?_)
  · obtain ⟨x, T, rfl, _⟩ := h
    rfl
  · obtain ⟨x, T, rfl, hx, k⟩ := h
    have S := sc_is_worths
    refine ⟨_, (pss_one (ps_ret (pe_and (pe_call G_is_integer (hr.mono (by decide)) (by rfl) D_is_integer.g D_is_integer.F.kp D_is_integer.b .nil pass0 (pa_cons (pv 0) pa_nil)) (pe_one (pe_chain op_le op_le pe_int (pv 0) pe_int))))), ?_⟩
    refine (val_call (va_cons (val_var rfl) va_nil) fun Q q => ⟨x, T, rfl, hx, q⟩) _ ⟨_, rfl, ?_⟩
    cases hx with
    | int i => exact iteT ((val_chain val_c (val_var rfl) val_c) _ k)
    | _ => exact iteF k
theorem ok_is_name {f : Addr} {fd : FuncData} (B : Bt mg) (D : Df K mg "is_name" s_is_name f fd ["value"]) : FnOk P w K mg base CX0 1 f fd ["value"] spIsName := by
  refine D.F.ok sc_is_name (fun vs H Q E h => ?_) (fun cdv A outer s H vs Q E hr h => ?_)
  · obtain ⟨z, rfl, _⟩ := h
    rfl
  · obtain ⟨z, rfl, hz, k⟩ := h
    have S := sc_is_name
    refine ⟨_, (pss_cons (ps_if (pt_not (pt_val (pe_callB call_isi (by rfl) B.m_isinstance PyProof.Rows.boot_isinstance (pa_cons (pv 0) (pa_cons (pe_tyN bt_str (by rfl) B.m_str) pa_nil)))))
        (pss_one (ps_ret pe_bl))
        pss_nil)
      (pss_one (ps_ret (pe_and (pe_chain op_le op_le pe_int (pe_callB call_len_str (by rfl) B.m_len PySem.boot_len (pa_cons (pv 0) pa_nil)) pe_int) (pe_and (pe_bm0 PySem.F.plainAttrs_str PySem.F.slot_str_isascii PySem.F.type_str_isascii mt_isascii (pv 0)) (pe_and (pe_bm0 PySem.F.plainAttrs_str PySem.F.slot_str_isalpha PySem.F.type_str_isalpha mt_isalpha (pv 0)) (pe_one (pe_bm0 PySem.F.plainAttrs_str PySem.F.slot_str_islower PySem.F.type_str_islower mt_islower (pv 0))))))))), ?_⟩
    refine (val_isi (val_var rfl) (.str z) (Kd.str_ (H := H) (.str z))) _ ⟨_, rfl, ?_⟩
    refine iteF ?_
    exact (val_andV (val_chain val_c (val_lenS (val_var rfl) (big_size hz)) val_c) fun _ => val_andV (val_sb0 (val_var rfl)) fun _ => val_andV (val_sb0 (val_var rfl)) fun _ => val_sb0 (val_var rfl)) _ k
theorem ok_is_door {f fN : Addr} {fd fdN : FuncData} (B : Bt mg) (D : Df K mg "is_door" s_is_door f fd ["value"]) (D_is_name : Df K mg "is_name" s_is_name fN fdN ["value"]) : FnOk P w K mg base CX0 2 f fd ["value"] spIsDoor := by
  have G_is_name : FnOk P w K mg base CX0 1 fN fdN ["value"] spIsName := ok_is_name B D_is_name
  refine D.F.ok sc_is_door (fun vs H Q E h => ?_) (fun cdv A outer s H vs Q E hr h => ?_)
  · obtain ⟨z, rfl, _⟩ := h
    rfl
  · obtain ⟨z, rfl, hz, k⟩ := h
    have S := sc_is_door
    refine ⟨_, (pss_one (ps_ret (pe_and (pe_call G_is_name (hr.mono (by decide)) (by rfl) D_is_name.g D_is_name.F.kp D_is_name.b .nil pass0 (pa_cons (pv 0) pa_nil)) (pe_one (pe_cmpR op_ne (pv 0) pe_str (nomark _)))))), ?_⟩
    exact (val_andV (val_call (va_cons (val_var rfl) va_nil) fun Q q => ⟨z, rfl, hz, q⟩) fun _ => val_op (val_var rfl) val_c fun Q q => ⟨rfl, q⟩) _ k
end
end K5
namespace K5
open PySem PySem.Spec PyProof.Rows L2
/-! ### numbers as words -/
theorem dec_range : ∀ c : Nat, c < 128 → Unicode.isDecimal c = true → 48 ≤ c ∧ c < 58 := by
  have h : ∀ c : Fin 128, Unicode.isDecimal c.val = true → 48 ≤ c.val ∧ c.val < 58 := by decide +kernel
  exact fun c hc => h ⟨c, hc⟩
def okNum (z : Str) : Bool := match PySem.intText? z with
  | some n => decide (0 ≤ n ∧ n ≤ 999)
  | none => false
theorem okNum_spec {z : Str} (h : okNum z = true) : ∃ n, PySem.intText? z = some n ∧ 0 ≤ n ∧ n ≤ 999 := by
  unfold okNum at h
  cases e : PySem.intText? z with
  | none => rw [e] at h; cases h
  | some n =>
    rw [e] at h
    exact ⟨n, rfl, of_decide_eq_true h⟩
theorem ok1 : ∀ a : Fin 10, okNum ⟨#[48 + a.val]⟩ = true := by decide +kernel
theorem ok2 : ∀ a b : Fin 10, okNum ⟨#[48 + a.val, 48 + b.val]⟩ = true := by decide +kernel
theorem ok3 : ∀ a b c : Fin 10, okNum ⟨#[48 + a.val, 48 + b.val, 48 + c.val]⟩ = true := by decide +kernel
theorem digits3 {z : Str} (h3 : z.length ≤ 3) (ha : Txt.isascii z = true) (hd : Txt.isdecimal z = true) : okNum z = true := by
  obtain ⟨⟨l⟩⟩ := z
  have hall : ∀ c ∈ l, 48 ≤ c ∧ c < 58 := by
    intro c hc
    unfold Txt.isascii at ha
    unfold Txt.isdecimal at hd
    rw [Bool.and_eq_true] at hd
    have h1 := hd.2
    rw [List.all_toArray, List.all_eq_true] at h1 ha
    exact dec_range c (of_decide_eq_true (ha c hc)) (h1 c hc)
  have hl : 0 < l.length := by
    unfold Txt.isdecimal at hd
    rw [Bool.and_eq_true] at hd
    exact of_decide_eq_true hd.1
  have hl3 : l.length ≤ 3 := h3
  match l, hl, hl3, hall with
  | [a], _, _, hall =>
    have q := hall a (by simp)
    have z := ok1 ⟨a - 48, by omega⟩
    rw [show 48 + (a - 48) = a by omega] at z
    exact z
  | [a, b], _, _, hall =>
    have q1 := hall a (by simp)
    have q2 := hall b (by simp)
    have z := ok2 ⟨a - 48, by omega⟩ ⟨b - 48, by omega⟩
    rw [show 48 + (a - 48) = a by omega, show 48 + (b - 48) = b by omega] at z
    exact z
  | [a, b, c], _, _, hall =>
    have q1 := hall a (by simp)
    have q2 := hall b (by simp)
    have q3 := hall c (by simp)
    have z := ok3 ⟨a - 48, by omega⟩ ⟨b - 48, by omega⟩ ⟨c - 48, by omega⟩
    rw [show 48 + (a - 48) = a by omega, show 48 + (b - 48) = b by omega, show 48 + (c - 48) = c by omega] at z
    exact z
def numV (z : Str) : Int := (PySem.intText? z).getD 0
def numOf (z : Str) (many : Int) : Int :=
  if (decide ((3 : Int) < (z.length : Int)) || !(Txt.isascii z && Txt.isdecimal z)) = true then -1
  else if (decide (V.str (toString (numV z)) = V.str z) && decide (numV z < many)) = true then numV z else -1
section
variable {X : Cx} {K : PySem.W.Frag} {σ : L2.St} {H : Hp} {ta tb tc : TE} {t u : TT} {i j k : Int} {p : Addr} {xs : List V} {v x : V} {a b : Bool}
theorem ans_or2 (h1 : Ans t σ H a) (h2 : a = false → Ans u σ H b) : Ans (tOr t u) σ H (a || b) := by
  intro Q q
  refine h1 _ ?_
  cases a with
  | true => exact iteT q
  | false => exact iteF (h2 rfl Q q)
theorem ans_and3 (h1 : Ans t σ H a) (h2 : a = true → Ans u σ H b) : Ans (tAnd t u) σ H (a && b) := by
  intro Q q
  refine h1 _ ?_
  cases a with
  | true => exact iteT (h2 rfl Q q)
  | false => exact iteF q
theorem ans_i0 {g : Int → Int → Bool} (ha : Val ta σ H (.int i)) (hb : Val tb σ H (.int j)) : Ans (tTest (tOp (rI0 fun i j => .bl (g i j)) ta tb)) σ H (g i j) := fun Q q =>
  (val_i0b ha hb) _ ⟨_, rfl, q⟩
theorem ans_eq2 (ha : Val ta σ H x) (hb : Val tb σ H v) (hs : scal x v = true) : Ans (tTest (tOp rEq ta tb)) σ H (decide (x = v)) := ans_eq ha hb hs rfl
theorem val_ite (ht : Ans t σ H a) (h1 : a = true → Val ta σ H x) (h2 : a = false → Val tb σ H v) : Val (tIf t ta tb) σ H (if a = true then x else v) := fun Q q => ht _ (by
  cases a with
  | true => exact iteT (h1 rfl Q q)
  | false => exact iteF (h2 rfl Q q))
theorem val_neg (h : Val ta σ H (.int i)) : Val (tUn (rU fun i => .int (-i)) ta) σ H (.int (-i)) := fun Q q => h _ ⟨i, rfl, q⟩
theorem val_intS {z : Str} {n : Int} (h : Val ta σ H (.str z)) (hn : PySem.intText? z = some n) (hl : z.length ≤ 640) : Val (tCB (fun xs H Q => ∃ a n, xs = [.str a] ∧ PySem.intText? a = some n ∧ a.length ≤ 640 ∧ Q (.int n) H) (tCons ta tNil)) σ H (.int n) := fun Q q => h _ ⟨z, n, rfl, hn, hl, q⟩
theorem val_strI {n : Int} (h : Val ta σ H (.int n)) (hl : n.natAbs.log2 < 1920) : Val (tCB (fun xs H Q => ∃ i, xs = [.int i] ∧ i.natAbs.log2 < 1920 ∧ Q (.str (toString i)) H) (tCons ta tNil)) σ H (.str (toString n)) := fun Q q => h _ ⟨n, rfl, hl, q⟩
end
def spNumber : Sp := fun vs H Q _ => ∃ (z : Str) (m : Int), vs = [.str z, .int m] ∧ z.length ≤ 10000000 ∧ Q (.int (numOf z m)) H
abbrev s_number : Stmt := topS 16
theorem sc_number : FnScope ["word", "many", "worth"] ["word", "many"] (defScope s_number) := ⟨rfl, rfl, rfl, by decide +kernel, rfl, by decide +kernel, by decide +kernel⟩
theorem log_small {n : Nat} (h : n ≤ 999) : n.log2 < 1920 := by
  by_cases h0 : n = 0
  · rw [h0]; decide
  · exact Nat.lt_of_lt_of_le ((Nat.log2_lt h0).mpr (show n < 2 ^ 10 by omega)) (by decide)
section
variable {P : Program} {w : World} {K : PySem.W.Frag} {mg : Str → Option Value} {base : Heap}
theorem ok_number {f : Addr} {fd : FuncData} (B : Bt mg) (D : Df K mg "number" s_number f fd ["word", "many"]) : FnOk P w K mg base CX0 1 f fd ["word", "many"] spNumber := by
  refine D.F.ok sc_number (fun vs H Q E h => ?_) (fun cdv A outer s H vs Q E hr h => ?_)
  · obtain ⟨z, m, rfl, _⟩ := h
    rfl
  · obtain ⟨z, m, rfl, hz, k⟩ := h
    have S := sc_number
    refine ⟨_, (pss_cons (ps_if (PW.pt (pw_or (pt_cmpR op_gt (pe_callB call_len_str (by rfl) B.m_len PySem.boot_len (pa_cons (pv 0) pa_nil)) pe_int (nomark _)) (pw_or1 (pt_not (PW.pt (pw_and (pt_val (pe_bm0 PySem.F.plainAttrs_str PySem.F.slot_str_isascii PySem.F.type_str_isascii mt_isascii (pv 0))) (pw_and1 (pt_val (pe_bm0 PySem.F.plainAttrs_str PySem.F.slot_str_isdecimal PySem.F.type_str_isdecimal mt_isdecimal (pv 0))))))))))
        (pss_one (ps_ret (pe_un un_neg pe_int)))
        pss_nil)
      (pss_cons (ps_set (i := 2) S.nd rfl (.inl rfl) (pe_callTy call_int_str (by rfl) B.m_int PyProof.Rows.boot_int (pa_cons (pv 0) pa_nil)))
      (pss_one (ps_ret (pe_ifExp (PW.pt (pw_and (pt_cmpR op_eq (pe_callTy call_str_int (by rfl) B.m_str (by decide +kernel) (pa_cons (pv 2) pa_nil)) (pv 0) (nomark _)) (pw_and1 (pt_cmpR op_lt (pv 2) (pv 1) (nomark _))))) (pv 2) (pe_un un_neg pe_int)))))), ?_⟩
    refine (ans_or2 (ans_i0 (val_lenS (val_var rfl) (big_size hz)) val_c) fun _ => ans_not (ans_and3 (ans_val (val_sb0 (val_var rfl))) fun _ => ans_val (val_sb0 (val_var rfl)))) _ ?_
    by_cases c : (decide ((3 : Int) < (z.length : Int)) || !(Txt.isascii z && Txt.isdecimal z)) = true
    · rw [c]
      refine iteT ((val_neg val_c) _ ?_)
      have e : numOf z m = -1 := if_pos c
      rw [e] at k
      exact k
    · have e : numOf z m = if (decide (V.str (toString (numV z)) = V.str z) && decide (numV z < m)) = true then numV z else -1 := if_neg c
      rw [Bool.not_eq_true] at c
      rw [c]
      rw [Bool.or_eq_false_iff, Bool.not_eq_false', Bool.and_eq_true] at c
      obtain ⟨c1, c2, c3⟩ := c
      have h3 : z.length ≤ 3 := by
        have := of_decide_eq_false c1
        omega
      obtain ⟨n, hn, n0, n1⟩ := okNum_spec (digits3 h3 c2 c3)
      have en : numV z = n := by
        unfold numV
        rw [hn]
        rfl
      refine iteF ?_
      dsimp only [tNext, tSeq, tAsg]
      refine (val_intS (val_var rfl) hn (by omega)) _ ?_
      refine (val_ite (ans_and3 (ans_eq2 (val_strI (val_var rfl) (log_small (by omega))) (val_var rfl) rfl) fun _ => ans_i0 (val_var rfl) (val_var rfl)) (fun _ => val_var rfl) fun _ => val_neg val_c) _ ?_
      rw [en] at e
      rw [e] at k
      cases q : (decide (V.str (toString n) = V.str z) && decide (n < m)) with
      | true =>
        rw [q, if_pos rfl] at k
        rw [if_pos rfl]
        exact k
      | false =>
        rw [q, if_neg Bool.false_ne_true] at k
        rw [if_neg Bool.false_ne_true]
        exact k
end
end K5
namespace K5
open PySem PySem.Spec PyProof.Rows L2
/-! ### errors -/
/-- the error x's class at C, its __init__ at fI -/
structure Er (K : PySem.W.Frag) (mg : Str → Option Value) (x : Str) (C fI : Addr) : Prop where
  O : OexC K C
  g : mg x = some (.ref C)
  iC : PySem.W.findIn K (.ref C) "__init__" = some (some (.ref fI))
  tI : PySem.W.typeIn K (.ref fI) = some (.type "function")
  nv : PySem.W.findIn K (.ref C) "value" = some none
/-- an error of the class at C with this value lies behind H -/
def ErrK (C : Addr) (v : V) (H : Hp) (E : XK) : Prop := ∀ (d : Addr) (H' : Hp), Same H H' → H d = none → H' d = some (.xd [(("value" : Str), v)]) → E (.ref C) (some d) H'
theorem ErrK.mono {C : Addr} {v : V} {H H1 : Hp} {E : XK} (h : ErrK C v H E) (e : Same H H1) : ErrK C v H1 E := fun d H' e2 nd hd => h d H' (e.trans e2) (e.free nd) hd
def spErr (K : PySem.W.Frag) : Sp := fun vs H Q _ => ∃ (a C : Addr) (v : V), vs = [.ref a, v] ∧ OexC K C ∧ PySem.W.findIn K (.ref C) "value" = some none ∧ H a = some (exo a C none) ∧
  ∀ dx, H dx = none → dx ≠ a → Q .non (upd (upd H dx (exd dx [(("value" : Str), v)])) a (exo a C (some dx)))
abbrev s_err : Stmt := inClass (topS 1) 0
theorem sc_err : FnScope ["self", "value"] ["self", "value"] (defScope s_err) := ⟨rfl, rfl, rfl, by decide +kernel, rfl, by decide +kernel, by decide +kernel⟩
section
variable {P : Program} {w : World} {K : PySem.W.Frag} {mg : Str → Option Value} {base : Heap}
theorem ok_err {f : Addr} {fd : FuncData} (F : Fun K "__init__" "WireError.__init__" s_err f fd) : FnOk P w K mg base CX0 1 f fd ["self", "value"] (spErr K) := by
  refine F.ok sc_err (fun vs H Q E h => ?_) (fun cdv A outer s H vs Q E hr h => ?_)
  · obtain ⟨a, C, v, rfl, _⟩ := h
    rfl
  · obtain ⟨a, C, v, rfl, T, hn, ha, k⟩ := h
    refine ⟨_, pss_one (ps_ost (pv 0) (pv 1)), ?_⟩
    exact ⟨v, rfl, .ref a, rfl, a, C, rfl, T, hn, .inl ⟨ha, fun dx nd ne => k dx nd ne⟩⟩
end
/-- raise X(e), the value of e known -/
theorem raise_run {K : PySem.W.Frag} {C : Addr} {ta : TE} {σ : L2.St} {H : Hp} {v : V} {Q : XK} (T : OexC K C) (hn : PySem.W.findIn K (.ref C) "value" = some none) (hv : Val ta σ H v) (h : ErrK C v H Q) :
    tMkO C (spErr K) [] (tCons ta tNil) σ H Q := by
  refine hv _ ⟨by show 1 ≤ 1000; decide, fun a na => ?_⟩
  refine ⟨a, C, v, rfl, T, hn, upd_same, fun dx nd ne => ⟨rfl, dx, [(("value" : Str), v)], upd_same, ?_, ?_, ?_⟩⟩
  · rw [upd_ne ne, upd_same]
  · rw [upd_ne ne] at nd
    exact nd
  · have nd' : H dx = none := by
      rw [upd_ne ne] at nd
      exact nd
    refine h dx _ (fun b o e => ?_) nd' upd_same
    have n1 : b ≠ dx := ne_of_none e nd'
    have n2 : b ≠ a := ne_of_none e na
    rw [upd_ne n1, del_ne n2, upd_ne n2, upd_ne n1, upd_ne n2]
    exact e
/-! ### texts -/
def rRepS : R2 := fun x y H Q => ∃ z n, x = .str z ∧ y = .int n ∧ MulOk z n ∧ Q (.str (Txt.mul z n)) H
theorem op_repS {X : Cx} : OpR X (binaryOp .Mult) rRepS := by
  intro pins s σ H x y v u Q I rx ry h
  obtain ⟨z, n, rfl, rfl, hc, q⟩ := h
  obtain ⟨t, rfl⟩ := rx
  obtain ⟨t', rfl⟩ := ry
  exact SB.mul hc fun t' k => ⟨.str _, H, I.tok _, ⟨_, rfl⟩, q⟩
/-! ### lines -/
theorem lk_hd {f : Str} {v : V} {r : List (Str × V)} : List.lookup f ((f, v) :: r) = some v := by simp [List.lookup]
theorem lk_tl {f g : Str} {v : V} {r : List (Str × V)} (h : ¬ f = g) : List.lookup f ((g, v) :: r) = List.lookup f r := by
  have e : (f == g) = false := by simpa using h
  simp [List.lookup, e]
theorem put_hd {f : Str} {v x : V} {r : List (Str × V)} : putF f v ((f, x) :: r) = (f, v) :: r := by
  unfold putF
  rw [if_pos rfl]
theorem put_tl {f g : Str} {v x : V} {r : List (Str × V)} (h : ¬ g = f) : putF f v ((g, x) :: r) = (g, x) :: putF f v r := by
  show (if g = f then _ else _) = _
  rw [if_neg h]
structure ClL (K : PySem.W.Frag) (C : Addr) : Prop where
  cl : Cls K C
  nr : NoAttr K C "rows"
  na : NoAttr K C "at"
def lf (r : Addr) (n : Int) : List (Str × V) := [("rows", .ref r), ("at", .int n)]
theorem lf_rows {r : Addr} {n : Int} : (lf r n).lookup ("rows" : Str) = some (.ref r) := lk_hd
theorem lf_at {r : Addr} {n : Int} : (lf r n).lookup ("at" : Str) = some (.int n) := (lk_tl (by decide +kernel)).trans lk_hd
theorem lf_no {r : Addr} {n : Int} {m : Str} (h1 : ¬ m = "rows") (h2 : ¬ m = "at") : (lf r n).lookup m = none := (lk_tl h1).trans (lk_tl h2)
theorem lf_put {r : Addr} {n k : Int} : putF "at" (.int k) (lf r n) = lf r k := (put_tl (by decide +kernel)).trans (congrArg _ put_hd)
/-- a reader of these rows, at a line -/
structure LinesAt (C : Addr) (H : Hp) (l dx r : Addr) (rows : List Str) (n : Nat) : Prop where
  o : H l = some (.ins C dx (lf r n))
  r : H r = some (.lst (rows.map V.str))
  le : n ≤ rows.length
theorem LinesAt.mono {C : Addr} {H H' : Hp} {l dx r : Addr} {rows : List Str} {n : Nat} (h : LinesAt C H l dx r rows n) (e : Same H H') : LinesAt C H' l dx r rows n := ⟨e _ _ h.o, e _ _ h.r, h.le⟩
/-- sizes that are never met -/
structure Sz (rows : List Str) : Prop where
  len : rows.length ≤ 14001
  row : ∀ z ∈ rows, z.length ≤ 14000
  ok : ∀ z ∈ rows, PyData.strOk z = true
/-! ### what stands in the parts of a text -/
theorem cps_append (x y : Str) : (x ++ y).cps.toList = x.cps.toList ++ y.cps.toList := by
  show (x.cps ++ y.cps).toList = _
  exact Array.toList_append
theorem join_mem {y p : Str} {c : Nat} : ∀ {ps : List Str}, p ∈ ps → c ∈ p.cps.toList → c ∈ (Str.join y ps).cps.toList
  | [x], hp, hc => by
    have e : p = x := by simpa using hp
    rw [← e]
    exact hc
  | x :: z :: r, hp, hc => by
    show c ∈ (x ++ y ++ Str.join y (z :: r)).cps.toList
    rw [cps_append, cps_append]
    rcases List.mem_cons.mp hp with e | e
    · rw [e] at hc
      exact List.mem_append_left _ (List.mem_append_left _ hc)
    · exact List.mem_append_right _ (join_mem e hc)
theorem join_len {y p : Str} : ∀ {ps : List Str}, p ∈ ps → p.length ≤ (Str.join y ps).length
  | [x], hp => by
    have e : p = x := by simpa using hp
    rw [← e]
    exact Nat.le_refl _
  | x :: z :: r, hp => by
    have e0 : (Str.join y (x :: z :: r)).length = x.length + y.length + (Str.join y (z :: r)).length := by
      show (x.cps ++ y.cps ++ (Str.join y (z :: r)).cps).size = _
      rw [Array.size_append, Array.size_append]
      rfl
    rw [e0]
    rcases List.mem_cons.mp hp with e | e
    · rw [e]
      omega
    · have := join_len (y := y) e
      omega
theorem join_many {y : Str} (hy : 1 ≤ y.length) : ∀ {ps : List Str}, ps.length ≤ (Str.join y ps).length + 1
  | [] => Nat.zero_le _
  | [x] => Nat.le_add_left _ _
  | x :: z :: r => by
    have ih := join_many hy (ps := z :: r)
    have e0 : (Str.join y (x :: z :: r)).length = x.length + y.length + (Str.join y (z :: r)).length := by
      show (x.cps ++ y.cps ++ (Str.join y (z :: r)).cps).size = _
      rw [Array.size_append, Array.size_append]
      rfl
    rw [e0, List.length_cons]
    omega
theorem split_len {x y p : Str} (h : p ∈ Txt.split x y) : p.length ≤ x.length := by
  have := join_len (y := y) h
  rw [StrLaws.join_split] at this
  exact this
theorem split_ok {x y p : Str} (h : p ∈ Txt.split x y) (hx : PyData.strOk x = true) : PyData.strOk p = true := by
  unfold PyData.strOk at hx ⊢
  rw [Array.all_eq_true'] at hx ⊢
  intro c hc
  have := join_mem (y := y) h (Array.mem_toList_iff.mpr hc)
  rw [StrLaws.join_split] at this
  exact hx c (Array.mem_toList_iff.mp this)
theorem cut_ok {x : Str} {lo hi : Option Int} (hx : PyData.strOk x = true) : PyData.strOk (cutS x lo hi) = true := by
  unfold PyData.strOk at hx ⊢
  rw [Array.all_eq_true'] at hx ⊢
  intro c hc
  refine hx c (Array.mem_toList_iff.mp ?_)
  have h1 : c ∈ (cutS x lo hi).cps.toList := Array.mem_toList_iff.mpr hc
  have h2 : c ∈ (x.cps.toList.drop (HT.sIx x.length 0 lo)).take (HT.sIx x.length x.length hi - HT.sIx x.length 0 lo) := h1
  exact List.mem_of_mem_drop (List.mem_of_mem_take h2)
theorem sz_rows {z : Str} (hz : z.length ≤ 14000) (ho : PyData.strOk z = true) : Sz (Txt.split z "\n") where
  len := by
    have := join_many (y := "\n") (by decide +kernel) (ps := Txt.split z "\n")
    rw [StrLaws.join_split] at this
    omega
  row := fun p hp => Nat.le_trans (split_len hp) hz
  ok := fun p hp => split_ok hp ho
def margin (dp : Nat) : Str := Txt.mul "  " (dp : Int)
def cleanWords (ws : List Str) : List Str := if inV (.str "") (ws.map V.str) = true then [] else ws
def restWords (row : Str) (dp : Nat) : List Str := Txt.split (cutS row (some ((margin dp).length : Int)) none) " "
def rowWords (row : Str) (dp : Nat) : List Str := if Txt.startswith row (margin dp) = true then cleanWords (restWords row dp) else []
def wordsAt (rows : List Str) (n dp : Nat) : List Str := match rows[n]? with
  | none => []
  | some row => rowWords row dp
theorem words_ok {rows : List Str} {n dp : Nat} (sz : Sz rows) : ∀ z ∈ wordsAt rows n dp, PyData.strOk z = true ∧ z.length ≤ 14000 := by
  intro z hz
  unfold wordsAt at hz
  cases e : rows[n]? with
  | none =>
    rw [e] at hz
    cases hz
  | some row =>
    rw [e] at hz
    have hr : row ∈ rows := List.mem_of_getElem? e
    have h2 : z ∈ restWords row dp := by
      unfold rowWords cleanWords at hz
      dsimp only at hz
      split at hz
      · split at hz
        · cases hz
        · exact hz
      · cases hz
    exact ⟨split_ok h2 (cut_ok (sz.ok _ hr)), Nat.le_trans (split_len h2) (Nat.le_trans (cutS_length _ _ _) (sz.row _ hr))⟩
theorem words_many {rows : List Str} {n dp : Nat} (sz : Sz rows) : (wordsAt rows n dp).length ≤ 14001 := by
  unfold wordsAt
  cases e : rows[n]? with
  | none => exact Nat.zero_le _
  | some row =>
    have hr : row ∈ rows := List.mem_of_getElem? e
    have h1 : (restWords row dp).length ≤ 14001 := by
      have := join_many (y := " ") (by decide +kernel) (ps := restWords row dp)
      unfold restWords at this ⊢
      rw [StrLaws.join_split] at this
      have h2 := cutS_length row (some ((margin dp).length : Int)) none
      have h3 := sz.row _ hr
      omega
    show (rowWords row dp).length ≤ _
    unfold rowWords cleanWords
    split
    · split
      · exact Nat.zero_le _
      · exact h1
    · exact Nat.zero_le _
/-- a list or tuple of texts, as data -/
theorem dpAll_strs {K : PySem.W.Frag} {H : Hp} : ∀ l : List Str, DpAll K H (l.map V.str) (l.map PyData.str)
  | [] => .nil
  | z :: r => .cons (.str z) (dpAll_strs r)
theorem lay_strs : ∀ {l : List Str}, (∀ z ∈ l, PyData.strOk z = true) → PyData.canLayAll0 (l.map PyData.str) = true ∧ PyData.depthAll (l.map PyData.str) = 0
  | [], _ => ⟨by simp [PyData.canLayAll0], by simp [PyData.depthAll]⟩
  | z :: r, h => by
    have ih := lay_strs (l := r) fun y hy => h y (List.mem_cons_of_mem _ hy)
    have hz := h z (List.mem_cons_self ..)
    constructor
    · simp [PyData.canLayAll0, PyData.canLay0, hz, ih.1]
    · simp [PyData.depthAll, PyData.depth, ih.2]
theorem shaped_strs {l : List Str} (h : ∀ z ∈ l, PyData.strOk z = true) : SeqAt.shaped (.list (l.map PyData.str)) = true := by
  have q := lay_strs h
  unfold SeqAt.shaped
  simp [PyData.canLay0, PyData.depth, q.1, q.2]
theorem eqv_strs : ∀ a b : List Str, PyData.eqvAll (a.map PyData.str) (b.map PyData.str) = decide (a = b)
  | [], [] => by simp [PyData.eqvAll]
  | [], _ :: _ => by simp [PyData.eqvAll]
  | _ :: _, [] => by simp [PyData.eqvAll]
  | x :: a, y :: b => by
    rw [List.map_cons, List.map_cons, PyData.eqvAll, eqv_strs a b, PyData.eqv]
    by_cases h : x = y
    · subst h
      simp
    · simp [h]
theorem margin_ok {dp : Nat} (h : dp ≤ 3) : MulOk ("  " : Str) (dp : Int) ∧ (margin dp).length ≤ 6 := by
  match dp, h with
  | 0, _ => exact ⟨⟨by decide, fun q => absurd (by decide) q, fun q => absurd (by decide) q⟩, by decide +kernel⟩
  | 1, _ => exact ⟨⟨by decide, fun _ q => absurd q (by decide), fun _ q => absurd q (by decide)⟩, by decide +kernel⟩
  | 2, _ => exact ⟨⟨by decide, fun _ _ => by decide +kernel, fun _ _ => by decide +kernel⟩, by decide +kernel⟩
  | 3, _ => exact ⟨⟨by decide, fun _ _ => by decide +kernel, fun _ _ => by decide +kernel⟩, by decide +kernel⟩
end K5
namespace K5
open PySem PySem.Spec PyProof.Rows L2
theorem cutS_le {z : Str} {lo hi : Option Int} : (cutS z lo hi).length ≤ z.length := cutS_length z lo hi
abbrev s_Lines___init__ : Stmt := inClass (topS 15) 0
theorem sc_Lines___init__ : FnScope ["self", "text"] ["self", "text"] (defScope s_Lines___init__) := ⟨rfl, rfl, rfl, by decide +kernel, rfl, by decide +kernel, by decide +kernel⟩
abbrev s_Lines_words : Stmt := inClass (topS 15) 1
theorem sc_Lines_words : FnScope ["self", "depth", "margin", "words"] ["self", "depth"] (defScope s_Lines_words) := ⟨rfl, rfl, rfl, by decide +kernel, rfl, by decide +kernel, by decide +kernel⟩
abbrev s_Lines_step : Stmt := inClass (topS 15) 5
theorem sc_Lines_step : FnScope ["self"] ["self"] (defScope s_Lines_step) := ⟨rfl, rfl, rfl, by decide +kernel, rfl, by decide +kernel, by decide +kernel⟩
abbrev s_Lines_need : Stmt := inClass (topS 15) 6
theorem sc_Lines_need : FnScope ["self", "right"] ["self", "right"] (defScope s_Lines_need) := ⟨rfl, rfl, rfl, by decide +kernel, rfl, by decide +kernel, by decide +kernel⟩
abbrev s_Lines_need_end : Stmt := inClass (topS 15) 7
theorem sc_Lines_need_end : FnScope ["self"] ["self"] (defScope s_Lines_need_end) := ⟨rfl, rfl, rfl, by decide +kernel, rfl, by decide +kernel, by decide +kernel⟩
/-! ### promises -/
def rowsOf (z : Str) : List Str := Txt.split z "\n"
def spLinesInit (C CT : Addr) : Sp := fun vs H Q E => ∃ (l dx : Addr) (x : V) (T : String), vs = [.ref l, x] ∧ H l = some (.ins C dx []) ∧ Kd H x T ∧
  (∀ z : Str, x = .str z → z.length ≤ 14000 ∧ ∀ (H' : Hp) (r : Addr), SameBut l H H' → H r = none → LinesAt C H' l dx r (rowsOf z) 0 → Q .non H') ∧
  (isS x = false → ErrK CT (.int (-1)) H E)
def spWords (C : Addr) : Sp := fun vs H Q _ => ∃ (l dx r : Addr) (rows : List Str) (n dp : Nat), vs = [.ref l, .int dp] ∧ LinesAt C H l dx r rows n ∧ Sz rows ∧ dp ≤ 3 ∧
  ∀ (H' : Hp) (p : Addr), Same H H' → H p = none → H' p = some (.lst ((wordsAt rows n dp).map V.str)) → Q (.ref p) H'
def spBegins (C : Addr) : Sp := fun vs H Q _ => ∃ (l dx r : Addr) (rows : List Str) (n : Nat) (z : Str), vs = [.ref l, .str z] ∧ LinesAt C H l dx r rows n ∧ Sz rows ∧ PyData.strOk z = true ∧
  ∀ H' : Hp, Same H H' → Q (.bl (decide ((wordsAt rows n 0).take 1 = [z]))) H'
def spStep (C : Addr) : Sp := fun vs H Q _ => ∃ (l dx r : Addr) (rows : List Str) (n : Nat), vs = [.ref l] ∧ LinesAt C H l dx r rows n ∧ n < rows.length ∧
  ∀ H' : Hp, SameBut l H H' → LinesAt C H' l dx r rows (n + 1) → Q .non H'
def spNeed (K : PySem.W.Frag) (C CT : Addr) : Sp := fun vs H Q E => ∃ (l dx r : Addr) (rows : List Str) (n : Nat) (x : V) (b : Bool), vs = [.ref l, x] ∧ LinesAt C H l dx r rows n ∧ TruV K x H b ∧
  (b = true → Q .non H) ∧ (b = false → ErrK CT (.int n) H E)
def spNeedEnd (C CT : Addr) : Sp := fun vs H Q E => ∃ (l dx r : Addr) (rows : List Str) (n : Nat), vs = [.ref l] ∧ LinesAt C H l dx r rows n ∧
  (n = rows.length → Q .non H) ∧ (n ≠ rows.length → ErrK CT (.int n) H E)
section
variable {X : Cx} {K : PySem.W.Frag} {σ : L2.St} {H : Hp} {ta tb tc : TE} {t u : TT} {i j k : Int} {p : Addr} {xs : List V} {v x : V} {a b : Bool}
theorem val_repS {z : Str} {n : Int} (ha : Val ta σ H (.str z)) (hb : Val tb σ H (.int n)) (hc : MulOk z n) : Val (tOp rRepS ta tb) σ H (.str (Txt.mul z n)) := val_op ha hb fun Q q => ⟨z, n, rfl, rfl, hc, q⟩
theorem val_sw {z y : Str} (ha : Val ta σ H (.str z)) (hb : Val tb σ H (.str y)) : Val (tBM K "str" (fun x xs H Q => ∃ a b, x = .str a ∧ xs = [.str b] ∧ Q (.bl (Txt.startswith a b)) H) ta (tCons tb tNil)) σ H (.bl (Txt.startswith z y)) := fun Q q =>
  ha _ ⟨rfl, hb _ ⟨z, y, rfl, rfl, q⟩⟩
theorem val_cutS {z : Str} {n : Int} (ha : Val ta σ H (.str z)) (hb : Val tb σ H (.int n)) (hz : z.length ≤ sizeLine) : Val (tSl rSlS ta (tPart tb) tNoPart) σ H (.str (cutS z (some n) none)) := fun Q q =>
  ha _ (hb _ ⟨n, rfl, z, rfl, hz, q⟩)
end
section
variable {P : Program} {w : World} {K : PySem.W.Frag} {mg : Str → Option Value} {base : Heap}
/-- an error of a callee leaves the def as its own -/
theorem pxp {X : Cx} {E : XK} (hs : X.stack = X.env :: X.outer) (hf : X.env.frame = some X.env.locals) (hex : X.ex = []) {E₁ : Value → Shared → Prop}
    (hx : X.xe = fun e s' => wpAny (model X.prog X.w) X.A (leaving X.env e) (fun _ s'' => L2.CX X.prog X.w X.outer X.H_0 X.s_0 E e s'') E₁ s') : Passes (L2.CX X.prog X.w) X E :=
  passes_call (W := fun c d _ H => E c d H) (takes_of hs hf hex hx) fun _ _ _ _ h => h
theorem ok_Lines_init {f CL CT fE : Addr} {fd fdE : FuncData} (B : Bt mg) (L : ClL K CL) (F : Fun K "__init__" "Lines.__init__" s_Lines___init__ f fd) (T : Er K mg "BadText" CT fE) (FE : Fun K "__init__" "WireError.__init__" s_err fE fdE) (bE : Binds K fdE ["self", "value"] []) :
    FnOk P w K mg base (L2.CX P w) 4 f fd ["self", "text"] (spLinesInit CL CT) := by
  have GE : FnOk P w K mg base CX0 1 fE fdE ["self", "value"] (spErr K) := ok_err FE
  refine F.okX sc_Lines___init__ (fun vs H Q E h => ?_) (fun cdv A outer s H vs Q E hr h => ?_)
  · obtain ⟨l, dx, x, T, rfl, _⟩ := h
    rfl
  · obtain ⟨l, dx, x, Ty, rfl, hl, hx, k, ke⟩ := h
    have S := sc_Lines___init__
    refine ⟨_, (pss_cons (ps_if (pt_not (pt_val (pe_callB call_isi (by rfl) B.m_isinstance PyProof.Rows.boot_isinstance (pa_cons (pv 1) (pa_cons (pe_tyN bt_str (by rfl) B.m_str) pa_nil)))))
        (pss_one (ps_raise rfl (takes_of rfl rfl rfl rfl) (pmk_oex T.O T.iC T.tI GE (hr.mono (by decide)) bE .nil pass0 (by rfl) T.g (pa_cons (pe_un un_neg pe_int) pa_nil))))
        pss_nil)
      (pss_cons (ps_fld (pv 0) (pe_bm PySem.F.plainAttrs_str PySem.F.slot_str_split PySem.F.type_str_split mt_split (pv 1) (pa_cons pe_str pa_nil)) rfl)
      (pss_one (ps_fld (pv 0) pe_int rfl)))), ?_⟩
    refine (val_isi (val_var rfl) hx hx.str_) _ ⟨_, rfl, ?_⟩
    cases hx with
    | str z =>
      obtain ⟨hz, kk⟩ := k z rfl
      refine iteF ?_
      refine ⟨_, rfl, rfl, z, "\n", rfl, rfl, by decide +kernel, by have : z.length + 2 ≤ 10000000 := by omega
                                                                    exact big_size this, fun r nr => ?_⟩
      have nlr : l ≠ r := ne_of_none hl nr
      refine ⟨_, rfl, l, CL, dx, _, rfl, by rw [upd_ne nlr]; exact hl, L.cl, L.nr, by decide, ?_⟩
      refine ⟨_, rfl, l, CL, dx, _, rfl, upd_same, L.cl, L.na, by show 1 < 1000; decide, ?_⟩
      refine kk _ r (fun a o na e => ?_) nr ⟨?_, ?_, Nat.zero_le _⟩
      · rw [upd_ne na, upd_ne na, upd_ne (ne_of_none e nr)]
        exact e
      · rw [upd_same]
        have e : putF "at" (V.int 0) (putF "rows" (V.ref r) []) = lf r 0 := (put_tl (by decide +kernel)).trans rfl
        rw [e]
        rfl
      · rw [upd_ne nlr.symm, upd_ne nlr.symm, upd_same]
        rfl
    | _ =>
      refine iteT ?_
      exact raise_run T.O T.nv (val_neg val_c) (ke rfl)
theorem ok_words {f CL : Addr} {fd : FuncData} (B : Bt mg) (L : ClL K CL) (F : Fun K "words" "Lines.words" s_Lines_words f fd) : FnOk P w K mg base CX0 1 f fd ["self", "depth"] (spWords CL) := by
  refine F.ok sc_Lines_words (fun vs H Q E h => ?_) (fun cdv A outer s H vs Q E hr h => ?_)
  · obtain ⟨l, dx, r, rows, n, dp, rfl, _⟩ := h
    rfl
  · obtain ⟨l, dx, r, rows, n, dp, rfl, hl, sz, hd, k⟩ := h
    have S := sc_Lines_words
    refine ⟨_, (pss_cons (ps_set (i := 2) S.nd rfl (.inl rfl) (pe_op op_repS pe_str (pv 1)))
      (pss_cons (ps_if (PW.pt (pw_or (pt_cmpR op_eq (pe_fld (pv 0) rfl) (pe_callB call_len_seq (by rfl) B.m_len PySem.boot_len (pa_cons (pe_fld (pv 0) rfl) pa_nil)) (nomark _)) (pw_or1 (pt_not (pt_val (pe_bm PySem.F.plainAttrs_str PySem.F.slot_str_startswith PySem.F.type_str_startswith mt_startswith (pe_ix ix_list (pe_fld (pv 0) rfl) (pe_fld (pv 0) rfl) (fun _ _ => rfl)) (pa_cons (pv 2) pa_nil)))))))
        (pss_one (ps_ret (pe_lst pa_nil)))
        pss_nil)
      (pss_cons (ps_set (i := 3) S.nd rfl (.inl rfl) (pe_bm PySem.F.plainAttrs_str PySem.F.slot_str_split PySem.F.type_str_split mt_split (pe_slice sl_str (pe_ix ix_list (pe_fld (pv 0) rfl) (pe_fld (pv 0) rfl) (fun _ _ => rfl)) (po_some (pe_callB call_len_str (by rfl) B.m_len PySem.boot_len (pa_cons (pv 2) pa_nil))) po_none) (pa_cons pe_str pa_nil)))
      (pss_one (ps_ret (pe_ifExp (pt_cmpR op_in_seq pe_str (pv 3) (by rfl)) (pe_lst pa_nil) (pv 3))))))), ?_⟩
    have hm := margin_ok hd
    have hR : SqL K H r (rows.map V.str) := SqL.of hl.r
    refine (show Val _ _ _ (V.str (margin dp)) from val_repS val_c (val_var rfl) hm.1) _ ?_
    have vat : ∀ σ : L2.St, σ[0]? = some (some (.ref l)) → Val (tFld K (tVar 0) "at") σ H (.int n) := fun σ h0 => val_fld (val_var h0) hl.o L.cl L.na lf_at
    have vrw : ∀ σ : L2.St, σ[0]? = some (some (.ref l)) → Val (tFld K (tVar 0) "rows") σ H (.ref r) := fun σ h0 => val_fld (val_var h0) hl.o L.cl L.nr lf_rows
    by_cases c : n = rows.length
    · have e : wordsAt rows n dp = [] := by
        unfold wordsAt
        rw [c, List.getElem?_eq_none (Nat.le_refl _)]
      rw [e] at k
      refine (ans_or1 (ans_eq (vat _ rfl) (val_lenL (vrw _ rfl) hR) rfl (decide_eq_true (by rw [List.length_map, c])))) _ ?_
      refine iteT ⟨Nat.zero_le _, fun p np => ?_⟩
      exact k _ p (same_upd np) np upd_same
    · have hn : n < rows.length := by
        have := hl.le
        omega
      have hg : rows[n]? = some rows[n] := List.getElem?_eq_getElem hn
      have hgV : (rows.map V.str)[n]? = some (.str rows[n]) := by
        rw [List.getElem?_map, hg]
        rfl
      have hz : rows[n].length ≤ 14000 := sz.row _ (List.getElem_mem hn)
      have vrow : ∀ σ : L2.St, σ[0]? = some (some (.ref l)) → Val (tOp (rIxL K) (tFld K (tVar 0) "rows") (tFld K (tVar 0) "at")) σ H (.str rows[n]) := fun σ h0 => val_ixL (vrw σ h0) (vat σ h0) hR (atI_nat hgV)
      have ew : wordsAt rows n dp = rowWords rows[n] dp := by
        unfold wordsAt
        rw [hg]
      rw [ew] at k
      refine (ans_or (ans_eq (vat _ rfl) (val_lenL (vrw _ rfl) hR) rfl (decide_eq_false (by rw [List.length_map]; intro q; injection q with q; omega))) (ans_not (ans_val (val_sw (vrow _ rfl) (val_var rfl))))) _ ?_
      by_cases c2 : Txt.startswith rows[n] (margin dp) = true
      · have er : rowWords rows[n] dp = cleanWords (restWords rows[n] dp) := if_pos c2
        rw [er] at k
        rw [c2]
        refine iteF ?_
        dsimp only [tNext, tSeq, tAsg]
        refine (val_cutS (vrow _ rfl) (val_lenS (val_var rfl) (big_size (by have := hm.2; omega))) (big_size (by omega))) _ ?_
        have hc := cutS_le (z := rows[n]) (lo := some ((margin dp).length : Int)) (hi := none)
        refine ⟨rfl, _, " ", rfl, rfl, by decide +kernel, big_size (by omega), fun p np => ?_⟩
        have hp : (upd H p (.lst ((restWords rows[n] dp).map V.str))) p = some (.lst ((restWords rows[n] dp).map V.str)) := upd_same
        refine ⟨_, rfl, p, _, rfl, .inl (SqL.of hp), rfl, ?_, _, rfl, ?_⟩
        · rw [List.all_map, List.all_eq_true]
          intro z hz
          rfl
        · have s1 : Same H (upd H p (.lst ((restWords rows[n] dp).map V.str))) := same_upd np
          unfold cleanWords at k
          cases c4 : inV (.str "") ((restWords rows[n] dp).map V.str) with
          | true =>
            rw [c4, if_pos rfl] at k
            refine iteT ⟨Nat.zero_le _, fun q nq => ?_⟩
            exact k _ q (s1.trans (same_upd nq)) (s1.free nq) upd_same
          | false =>
            rw [c4, if_neg Bool.false_ne_true] at k
            exact iteF ⟨_, rfl, k _ p s1 np hp⟩
      · have er : rowWords rows[n] dp = [] := if_neg c2
        rw [er] at k
        rw [Bool.not_eq_true] at c2
        rw [c2]
        refine iteT ⟨Nat.zero_le _, fun p np => ?_⟩
        exact k _ p (same_upd np) np upd_same
theorem ok_step {f CL : Addr} {fd : FuncData} (L : ClL K CL) (F : Fun K "step" "Lines.step" s_Lines_step f fd) : FnOk P w K mg base CX0 1 f fd ["self"] (spStep CL) := by
  refine F.ok sc_Lines_step (fun vs H Q E h => ?_) (fun cdv A outer s H vs Q E hr h => ?_)
  · obtain ⟨l, dx, r, rows, n, rfl, _⟩ := h
    rfl
  · obtain ⟨l, dx, r, rows, n, rfl, hl, hn, k⟩ := h
    refine ⟨_, (pss_one (ps_fldaug (pv 0) pe_int in_add)), ?_⟩
    refine ⟨_, rfl, l, CL, dx, _, _, rfl, hl.o, L.cl, L.na, lf_at, n, 1, rfl, rfl, dx, _, hl.o, by show 2 < 1000; decide, ?_⟩
    refine k _ (SameBut.upd l H _) ⟨?_, ?_, hn⟩
    · rw [upd_same, lf_put]
      rfl
    · rw [upd_ne (ne_of hl.r hl.o (by intro q; cases q))]
      exact hl.r
theorem ok_need {f CL CT fE : Addr} {fd fdE : FuncData} (L : ClL K CL) (F : Fun K "need" "Lines.need" s_Lines_need f fd) (T : Er K mg "BadText" CT fE) (FE : Fun K "__init__" "WireError.__init__" s_err fE fdE) (bE : Binds K fdE ["self", "value"] []) :
    FnOk P w K mg base (L2.CX P w) 4 f fd ["self", "right"] (spNeed K CL CT) := by
  have GE : FnOk P w K mg base CX0 1 fE fdE ["self", "value"] (spErr K) := ok_err FE
  refine F.okX sc_Lines_need (fun vs H Q E h => ?_) (fun cdv A outer s H vs Q E hr h => ?_)
  · obtain ⟨l, dx, r, rows, n, x, b, rfl, _⟩ := h
    rfl
  · obtain ⟨l, dx, r, rows, n, x, b, rfl, hl, ht, k, ke⟩ := h
    refine ⟨_, (pss_one (ps_if (pt_not (pt_truth (pv 1) (by intro _; rfl)))
        (pss_one (ps_raise rfl (takes_of rfl rfl rfl rfl) (pmk_oex T.O T.iC T.tI GE (hr.mono (by decide)) bE .nil pass0 (by rfl) T.g (pa_cons (pe_fld (pv 0) rfl) pa_nil))))
        pss_nil)), ?_⟩
    refine ⟨_, rfl, b, ht, ?_⟩
    cases b with
    | true => exact iteF (k rfl)
    | false =>
      refine iteT ?_
      exact raise_run T.O T.nv (val_fld (val_var rfl) hl.o L.cl L.na lf_at) (ke rfl)
theorem ok_need_end {f fN CL CT fE : Addr} {fd fdN fdE : FuncData} (B : Bt mg) (L : ClL K CL) (F : Fun K "need_end" "Lines.need_end" s_Lines_need_end f fd) (M_need : Mf K CL "need" "Lines.need" s_Lines_need fN fdN ["self", "right"]) (T : Er K mg "BadText" CT fE) (FE : Fun K "__init__" "WireError.__init__" s_err fE fdE) (bE : Binds K fdE ["self", "value"] []) :
    FnOk P w K mg base (L2.CX P w) 5 f fd ["self"] (spNeedEnd CL CT) := by
  have G_need : FnOk P w K mg base (L2.CX P w) 4 fN fdN ["self", "right"] (spNeed K CL CT) := ok_need L M_need.F T FE bE
  refine F.okX sc_Lines_need_end (fun vs H Q E h => ?_) (fun cdv A outer s H vs Q E hr h => ?_)
  · obtain ⟨l, dx, r, rows, n, rfl, _⟩ := h
    rfl
  · obtain ⟨l, dx, r, rows, n, rfl, hl, k, ke⟩ := h
    refine ⟨_, (pss_one (ps_expr (pe_meth (pv 0) L.cl M_need.m G_need (hr.mono (by decide)) M_need.b .nil (pxp rfl rfl rfl rfl) (pa_cons (pe_cmpR op_eq (pe_fld (pv 0) rfl) (pe_callB call_len_seq (by rfl) B.m_len PySem.boot_len (pa_cons (pe_fld (pv 0) rfl) pa_nil)) (nomark _)) pa_nil)))), ?_⟩
    refine ⟨_, rfl, l, dx, _, rfl, hl.o, lf_no (by decide +kernel) (by decide +kernel), ?_⟩
    have hR : SqL K H r (rows.map V.str) := SqL.of hl.r
    refine (val_op (val_fld (val_var rfl) hl.o L.cl L.na lf_at) (val_lenL (val_fld (val_var rfl) hl.o L.cl L.nr lf_rows) hR) fun Q q => ⟨rfl, q⟩) _ ?_
    refine ⟨l, dx, r, rows, n, _, _, rfl, hl, rfl, fun e => k ?_, fun e => ke ?_⟩
    · have := of_decide_eq_true e
      rw [List.length_map] at this
      injection this with this
      omega
    · have := of_decide_eq_false e
      rw [List.length_map] at this
      intro q
      exact this (by rw [q])
end
end K5
namespace K5
open PySem PySem.Spec PyProof.Rows L2
/-! ### values of any kind, as data -/
mutual
inductive Dq (H : Hp) : V → PyData → Prop
  | non : Dq H .non .none
  | bl (b : Bool) : Dq H (.bl b) (.bool b)
  | int (i : Int) : Dq H (.int i) (.int i)
  | str (x : Str) : Dq H (.str x) (.str x)
  | lst {a : Addr} {xs : List V} {ds : List PyData} : H a = some (.lst xs) → DqA H xs ds → Dq H (.ref a) (.list ds)
  | tup {a : Addr} {xs : List V} {ds : List PyData} : H a = some (.tup xs) → DqA H xs ds → Dq H (.ref a) (.tuple ds)
  | dic {a : Addr} : H a = some (.dK []) → Dq H (.ref a) (.dict [])
inductive DqA (H : Hp) : List V → List PyData → Prop
  | nil : DqA H [] []
  | cons {v : V} {vs : List V} {d : PyData} {ds : List PyData} : Dq H v d → DqA H vs ds → DqA H (v :: vs) (d :: ds)
end
mutual
theorem Dq.mono {H H' : Hp} (e : Same H H') : ∀ (d : PyData) {v : V}, Dq H v d → Dq H' v d
  | .none, _, h => by cases h; exact .non
  | .bool b, _, h => by cases h; exact .bl b
  | .int i, _, h => by cases h; exact .int i
  | .str x, _, h => by cases h; exact .str x
  | .list ds, _, h => by
    cases h with
    | lst h a => exact .lst (e _ _ h) (DqA.mono e ds a)
  | .tuple ds, _, h => by
    cases h with
    | tup h a => exact .tup (e _ _ h) (DqA.mono e ds a)
  | .dict kvs, _, h => by
    cases h with
    | dic h => exact .dic (e _ _ h)
theorem DqA.mono {H H' : Hp} (e : Same H H') : ∀ (ds : List PyData) {vs : List V}, DqA H vs ds → DqA H' vs ds
  | [], _, h => by cases h; exact .nil
  | d :: ds, _, h => by
    cases h with
    | cons a b => exact .cons (Dq.mono e d a) (DqA.mono e ds b)
end
theorem Dq.kd {H : Hp} {v : V} {d : PyData} (h : Dq H v d) : ∃ T, Kd H v T := by
  cases h with
  | non => exact ⟨_, .non⟩
  | bl b => exact ⟨_, .bl b⟩
  | int i => exact ⟨_, .int i⟩
  | str x => exact ⟨_, .str x⟩
  | lst h a => exact ⟨_, .lst h⟩
  | tup h a => exact ⟨_, .tup h⟩
  | dic h => exact ⟨_, .dK h⟩
theorem DqA.len {H : Hp} : ∀ {vs : List V} {ds : List PyData}, DqA H vs ds → vs.length = ds.length
  | _, _, .nil => rfl
  | _, _, .cons a b => by rw [List.length_cons, List.length_cons, DqA.len b]
theorem DqA.at_ {H : Hp} : ∀ {vs : List V} {ds : List PyData} (i : Nat) {d : PyData}, DqA H vs ds → ds[i]? = some d → ∃ v, vs[i]? = some v ∧ Dq H v d
  | _, _, i, d, .nil, h => by cases h
  | _, _, 0, d, .cons a b, h => by
    have h := Option.some.inj h
    rw [← h]
    exact ⟨_, rfl, a⟩
  | _, _, i + 1, d, .cons a b, h => DqA.at_ i b h
mutual
def listIn : PyData → Bool
  | .none | .bool _ | .int _ | .str _ => false
  | .list _ => true
  | .tuple xs => listInA xs
  | .dict _ => false
def listInA : List PyData → Bool
  | [] => false
  | x :: xs => listIn x || listInA xs
end
section
variable {X : Cx} {pins : List (Addr × Obj)} {σ : L2.St} {H : Hp} {s : Shared}
theorem reads_d0 {a : Addr} (I : Inv X pins σ H s) (h : H a = some (.dK [])) : ∃ as, Reads s.heap (.ref a) (.dict []) as ∧ sysModules ∉ as := by
  obtain ⟨_, nm, vs, rel, dd⟩ := dk_of I.hok h
  cases rel
  obtain ⟨o, es, ep, ho, hc, hd, _, ps, _⟩ := dd
  have e0 : es.toList = [] := by
    revert ps
    generalize es.toList = l
    intro ps
    cases ps
    rfl
  have r1 : ReadsAll s.heap (es.toList.map (·.key)) (([] : List (PyData × PyData)).map (·.1)) [] := by
    rw [e0]
    exact .nil
  have r2 : ReadsAll s.heap (es.toList.map (·.val)) (([] : List (PyData × PyData)).map (·.2)) [] := by
    rw [e0]
    exact .nil
  refine ⟨_, Reads.dict ho hc.1 hd r1 r2, fun q => ?_⟩
  have : sysModules = a := by simpa using q
  rw [this] at nm
  simp at nm
mutual
theorem Dq.reads (I : Inv X pins σ H s) : ∀ (d : PyData) (v : V) (u : Value), Dq H v d → RelV v u → ∃ as, Reads s.heap u d as ∧ (listIn d = false → sysModules ∉ as)
  | .none, _, _, h, r => by
    cases h
    cases r
    exact ⟨_, Reads.none, by simp⟩
  | .bool b, _, _, h, r => by
    cases h
    cases r
    exact ⟨_, Reads.bool b, by simp⟩
  | .int i, _, _, h, r => by
    cases h
    obtain ⟨t, rfl⟩ := r
    exact ⟨_, Reads.int i t, by simp⟩
  | .str x, _, _, h, r => by
    cases h
    obtain ⟨t, rfl⟩ := r
    exact ⟨_, Reads.str x t, by simp⟩
  | .list ds, _, _, h, r => by
    cases h with
    | lst hs ha =>
      cases r
      obtain ⟨its, rv, ⟨o, n, ho, hc, _, hd⟩, _⟩ := I.list (SqL.of (K := X.K) hs)
      obtain ⟨as, hr, hm⟩ := Dq.readsAll I ds _ its ha rv
      exact ⟨_, Reads.list ho hc hd hr, fun e => by cases e⟩
  | .tuple ds, _, _, h, r => by
    cases h with
    | tup hs ha =>
      cases r
      obtain ⟨its, rv, ⟨o, ho, hc, n, hd⟩, _⟩ := I.tuple (SqT.of (K := X.K) hs)
      obtain ⟨as, hr, hm⟩ := Dq.readsAll I ds _ its ha rv
      exact ⟨_, Reads.tuple ho hc hd hr, hm⟩
  | .dict _, _, _, h, r => by
    cases h with
    | dic h =>
      cases r
      obtain ⟨as, r, m⟩ := reads_d0 I h
      exact ⟨as, r, fun _ => m⟩
theorem Dq.readsAll (I : Inv X pins σ H s) : ∀ (ds : List PyData) (vs : List V) (us : List Value), DqA H vs ds → Vals vs us → ∃ as, ReadsAll s.heap us ds as ∧ (listInA ds = false → sysModules ∉ as)
  | [], _, _, h, r => by
    cases h
    cases r
    exact ⟨_, ReadsAll.nil, by simp⟩
  | d :: ds, _, _, h, r => by
    cases h with
    | cons h1 h2 =>
      cases r with
      | cons r1 r2 =>
        obtain ⟨as, q1, m1⟩ := Dq.reads I d _ _ h1 r1
        obtain ⟨bs, q2, m2⟩ := Dq.readsAll I ds _ _ h2 r2
        refine ⟨_, ReadsAll.cons q1 q2, fun e m => ?_⟩
        have e : (listIn d || listInA ds) = false := e
        rw [Bool.or_eq_false_iff] at e
        exact (List.mem_append.mp m).elim (m1 e.1) (m2 e.2)
end
end
end K5
namespace K5
open PySem PySem.Spec PyProof.Rows L2
/-! ### forms of values -/
theorem bt_tuple : bootBuiltins "tuple" = some (.type "tuple") := by decide +kernel
theorem val_lenT {K : PySem.W.Frag} {σ : L2.St} {H : Hp} {ta : TE} {p : Addr} {xs : List V} (h : Val ta σ H (.ref p)) (hS : SqT K H p xs) : Val (tCB (rLenSq K) (tCons ta tNil)) σ H (.int xs.length) := fun Q q => h _ ⟨p, xs, rfl, .inr hS, q⟩
section
variable {P : Program} {w : World} {K : PySem.W.Frag} {mg : Str → Option Value} {base : Heap}
end
end K5
namespace K5
open PySem PySem.Spec PyProof.Rows L2
/-! ### a tuple of texts that the head has laid -/
structure KTup (K : PySem.W.Frag) (p : Addr) (ys : List Str) : Prop where
  sq : ∀ H : Hp, SqT K H p (ys.map V.str)
  nd : ∃ ob, K.lookup p = some ob ∧ ob.cls = .type "tuple" ∧ ob.dict = none
def tTupKx (K : PySem.W.Frag) (to : TE) (t : TA) : TE := fun σ H Q => to σ H fun x H1 => ∃ (p : Addr) (ys : List Str), x = .ref p ∧ KTup K p ys ∧ t σ H1 fun vs H2 => ∃ (z : Str) (j : Nat), vs = [.str z] ∧ ys[j]? = some z ∧ (∀ m, m < j → ys[m]? ≠ some z) ∧ Q (.int (j : Nat)) H2
theorem pe_tupKx {X : Cx} {o e : Expr} {to : TE} {t : TA} {apos cpos : Pos} (ho : PE X o to) (ha : PA X [e] t)
    (hbase : attributeBase o "index" X.env (eval o X.env) = eval o X.env := by rfl)
    (hfew : ((backTo cpos (starEach [e] X.env)).all (fun x => !x.1) && (backToKw cpos (keywordEach [] X.env)).all (fun x => x.1.isSome) && decide (([e] : List Expr).length + ([] : List Keyword).length + (if ([] : List Keyword).isEmpty then 0 else 1) < 30)) = true := by rfl)
    (hline : (apos.endLine == cpos.line) = true := by rfl) 
    (star1 : starEach [e] X.env = (false, eval e X.env) :: starEach [] X.env := by rfl) (hplain : (backTo cpos (starEach [] X.env)).any (·.1) = false := by rfl) :
    PE X (.Call (.Attribute o "index" apos) [e] [] cpos) (tTupKx X.K to t) := by
  refine ⟨fun pins s σ H Q I h => wpAny_Call_method_late hbase hfew hline rfl (thn (ho.run pins s σ H _ I h) fun v s1 ⟨x, H1, I1, r1, p, ys, ex, hF, q1⟩ => ?_)⟩
  subst ex
  cases r1
  obtain ⟨ob, hob, hc, hd⟩ := hF.nd
  have h1 := I1.kIn p ob hob
  refine ⟨"tuple", "tuple.index", PySem.F.plainAttrs_tuple, PySem.F.slot_tuple_index, PySem.F.type_tuple_index, ⟨ob, h1, hc⟩, fun a e2 => ?_, ?_⟩
  · cases e2
    exact ⟨ob, h1, hd⟩
  · have hA := ha.run cpos pins s1 σ H1 _ I1 q1
    rw [star1] at hA ⊢
    refine Calls.callWith_builtin (by show (false || (backTo cpos (starEach [] X.env)).any (·.1)) = false; rw [hplain] <;> rfl) (Calls.evalArgs_plain (thn hA fun us s2 ⟨vs, H2, I2, r2, z, j, ev, hj, hf, q2⟩ => ?_))
    exact mt_tup_index pins s2 σ H2 (.ref p) vs (.ref p) us Q I2 rfl r2 ⟨p, ys, z, j, rfl, ev, hF.sq H2, hj, hf, q2⟩
theorem ansI {σ : L2.St} {H : Hp} {ta tb : TE} {g : Int → Int → Bool} {i j : Int} (ha : Val ta σ H (.int i)) (hb : Val tb σ H (.int j)) : Ans (tTest (tOp (rI0 fun i j => .bl (g i j)) ta tb)) σ H (g i j) := ans_i0 ha hb
theorem inV_strs (z : Str) : ∀ l : List Str, inV (.str z) (l.map V.str) = decide (z ∈ l)
  | [] => by simp [inV]
  | y :: r => by
    have ih := inV_strs z r
    unfold inV at ih ⊢
    rw [List.map_cons, List.any_cons, ih]
    by_cases h : z = y
    · subst h
      simp [eqV]
    · have h2 : (y == z) = false := by
        rw [beq_eq_false_iff_ne]
        exact fun e => h e.symm
      simp [eqV, h, h2]
/-! ### answers as words -/
def ansV : Option Int → V
  | none => .non
  | some i => .int i
theorem busy_lost : ("busy" : Str) ≠ "lost" := by decide +kernel
section
variable {P : Program} {w : World} {K : PySem.W.Frag} {mg : Str → Option Value} {base : Heap} {aw : Addr}
end
end K5
namespace K5
open PySem PySem.Spec PyProof.Rows L2
theorem meth_run {C a dx : Addr} {m : Str} {fs : List (Str × V)} {sp : Sp} {E : XK} {ta : TE} {t : TA} {σ : L2.St} {H : Hp} {Q : VK} (ho : Val ta σ H (.ref a)) (ha : H a = some (.ins C dx fs)) (hm : fs.lookup m = none) (h : t σ H fun vs H2 => sp (.ref a :: (vs ++ [])) H2 Q E) :
    tMeth C m sp [] E ta t σ H Q := ho _ ⟨a, dx, fs, rfl, ha, hm, h⟩
theorem bm_run {K : PySem.W.Frag} {T : String} {r : V → List V → Hp → VK → Prop} {to : TE} {t : TA} {σ : L2.St} {H : Hp} {Q : VK} {x : V} (ho : Val to σ H x) (ht : tyV K T x H) (ha : t σ H fun vs H2 => r x vs H2 Q) : tBM K T r to t σ H Q := ho _ ⟨ht, ha⟩
theorem meth0_run {C a dx : Addr} {m : Str} {fs : List (Str × V)} {sp : Sp} {E : XK} {ta : TE} {σ : L2.St} {H : Hp} {Q : VK} (ho : Val ta σ H (.ref a)) (ha : H a = some (.ins C dx fs)) (hm : fs.lookup m = none) (h : sp [.ref a] H Q E) :
    tMeth C m sp [] E ta tNil σ H Q := ho _ ⟨a, dx, fs, rfl, ha, hm, h⟩
theorem at_but {H : Hp} {o u : HO} {a b : Addr} (h : H a = some u) (hb : H b ≠ some u) : (upd H b o) a = some u := by
  have e : a ≠ b := fun z => hb (by rw [← z]; exact h)
  rw [upd_ne e]
  exact h
/-! ### a run is read -/
theorem len_zero {z : Str} (h : z.length = 0) : z = "" := by
  obtain ⟨l⟩ := z
  have e : l = #[] := Array.eq_empty_of_size_eq_zero h
  rw [e]
  rfl
theorem DqA.app {H : Hp} : ∀ {xs ys : List V} {ds es : List PyData}, DqA H xs ds → DqA H ys es → DqA H (xs ++ ys) (ds ++ es)
  | _, _, _, _, .nil, h => h
  | _, _, _, _, .cons a b, h => .cons a (DqA.app b h)
/-- tuples and empty dicts are kept -/
structure TK (H H' : Hp) : Prop where
  t : ∀ x xs, H x = some (.tup xs) → H' x = some (.tup xs)
  d : ∀ x, H x = some (.dK []) → H' x = some (.dK [])
theorem TK.but {H H' : Hp} {a : Addr} {u : HO} (h : SameBut a H H') (ha : H a = some u) (n1 : ∀ xs, u ≠ .tup xs) (n2 : u ≠ .dK []) : TK H H' :=
  ⟨fun x xs e => h x _ (fun c => n1 xs (by rw [c, ha] at e; exact Option.some.inj e)) e, fun x e => h x _ (fun c => n2 (by rw [c, ha] at e; exact Option.some.inj e)) e⟩
mutual
theorem Dq.tk {H H' : Hp} (k : TK H H') : ∀ (d : PyData) {v : V}, listIn d = false → Dq H v d → Dq H' v d
  | .none, _, _, h => by cases h; exact .non
  | .bool b, _, _, h => by cases h; exact .bl b
  | .int i, _, _, h => by cases h; exact .int i
  | .str x, _, _, h => by cases h; exact .str x
  | .list ds, _, e, h => by cases e
  | .tuple ds, _, e, h => by
    cases h with
    | tup h a => exact .tup (k.t _ _ h) (DqA.tk k ds e a)
  | .dict kvs, _, _, h => by
    cases h with
    | dic h => exact .dic (k.d _ h)
theorem DqA.tk {H H' : Hp} (k : TK H H') : ∀ (ds : List PyData) {vs : List V}, listInA ds = false → DqA H vs ds → DqA H' vs ds
  | [], _, _, h => by cases h; exact .nil
  | d :: ds, _, e, h => by
    have e : (listIn d || listInA ds) = false := e
    rw [Bool.or_eq_false_iff] at e
    cases h with
    | cons a b => exact .cons (Dq.tk k d e.1 a) (DqA.tk k ds e.2 b)
end
theorem listInA_app : ∀ xs ys : List PyData, listInA (xs ++ ys) = (listInA xs || listInA ys)
  | [], _ => rfl
  | x :: xs, ys => by
    show (listIn x || listInA (xs ++ ys)) = ((listIn x || listInA xs) || listInA ys)
    rw [listInA_app, Bool.or_assoc]
section
variable {P : Program} {w : World} {K : PySem.W.Frag} {mg : Str → Option Value} {base : Heap} {CL CT aw fL fWords fStep fNeed fEv : Addr} {dL dWords dStep dNeed dEv : FuncData}
end
end K5
namespace K5
open PySem PySem.Spec PyProof.Rows L2
/-! ### words for worths and answers -/
def wOf (z : Str) (m : Nat) : List Int := if z = "any" then (List.range m).map Int.ofNat else if 0 ≤ numOf z m then [numOf z m] else []
def ansOf (z : Str) (m : Nat) : Option Int := if z = "busy" then some (-2) else if z = "lost" then some (-1) else if 0 ≤ numOf z m then some (numOf z m) else none
def asOf (z : Str) (m : Nat) : List Int := match ansOf z m with
  | some i => [i]
  | none => wOf z m
structure Gw (K : PySem.W.Frag) (mg : Str → Option Value) (aw : Addr) : Prop where
  a : mg "ANSWER_WORDS" = some (.ref aw)
  k : KTup K aw ["busy", "lost"]
abbrev s_worths_of : Stmt := topS 34
theorem sc_worths_of : FnScope ["word", "worths", "worth"] ["word", "worths"] (defScope s_worths_of) := ⟨rfl, rfl, rfl, by decide +kernel, rfl, by decide +kernel, by decide +kernel⟩
abbrev s_answers_of : Stmt := topS 35
theorem sc_answers_of : FnScope ["word", "worths", "answer"] ["word", "worths"] (defScope s_answers_of) := ⟨rfl, rfl, rfl, by decide +kernel, rfl, by decide +kernel, by decide +kernel⟩
abbrev s_answer_of : Stmt := topS 36
theorem sc_answer_of : FnScope ["word", "worths", "worth"] ["word", "worths"] (defScope s_answer_of) := ⟨rfl, rfl, rfl, by decide +kernel, rfl, by decide +kernel, by decide +kernel⟩
def spAnsOf : Sp := fun vs H Q _ => ∃ (z : Str) (m : Nat), vs = [.str z, .int m] ∧ z.length ≤ 10000000 ∧ Q (ansV (ansOf z m)) H
def spList (f : Str → Nat → List Int) : Sp := fun vs H Q _ => ∃ (z : Str) (m : Nat), vs = [.str z, .int m] ∧ m ≤ 4 ∧ z.length ≤ 10000000 ∧ ∀ (H' : Hp) (p : Addr), Same H H' → H p = none → H' p = some (.lst ((f z m).map V.int)) → Q (.ref p) H'
section
variable {P : Program} {w : World} {K : PySem.W.Frag} {mg : Str → Option Value} {base : Heap} {aw : Addr}
theorem ok_worths_of {f fN : Addr} {fd fdN : FuncData} (B : Bt mg) (D : Df K mg "worths_of" s_worths_of f fd ["word", "worths"]) (D_number : Df K mg "number" s_number fN fdN ["word", "many"]) : FnOk P w K mg base CX0 2 f fd ["word", "worths"] (spList wOf) := by
  have G_number : FnOk P w K mg base CX0 1 fN fdN ["word", "many"] spNumber := ok_number B D_number
  refine D.F.ok sc_worths_of (fun vs H Q E h => ?_) (fun cdv A outer s H vs Q E hr h => ?_)
  · obtain ⟨z, m, rfl, _⟩ := h
    rfl
  · obtain ⟨z, m, rfl, m4, hz, k⟩ := h
    have S := sc_worths_of
    refine ⟨_, (pss_cons (ps_if (pt_cmpR op_eq (pv 0) pe_str (nomark _))
        (pss_one (ps_ret (pe_listRg (by rfl) (by rfl) B.m_list (prg_1 (by rfl) B.m_range (pv 1)))))
        pss_nil)
      (pss_cons (ps_set (i := 2) S.nd rfl (.inl rfl) (pe_call G_number (hr.mono (by decide)) (by rfl) D_number.g D_number.F.kp D_number.b .nil pass0 (pa_cons (pv 0) (pa_cons (pv 1) pa_nil))))
      (pss_one (ps_ret (pe_ifExp (pt_cmpR op_ge (pv 2) pe_int (nomark _)) (pe_lst (pa_cons (pv 2) pa_nil)) (pe_lst pa_nil)))))), ?_⟩
    refine (ans_eq2 (val_var rfl) val_c rfl) _ ?_
    by_cases c : z = "any"
    · subst c
      rw [decide_eq_true rfl]
      refine iteT ?_
      dsimp only [tRet, tLstRg, tRg1]
      refine (val_var (v := .int (m : Nat)) rfl) _ ⟨_, rfl, RgOk.of_le (by decide) (by omega) (by decide) (by omega), fun q nq => ?_⟩
      refine k _ q (same_upd nq) nq ?_
      rw [upd_same]
      have e : wOf "any" m = (List.range m).map Int.ofNat := if_pos rfl
      rw [e]
      unfold rgV
      rw [List.map_map, show ((m : Int) - 0).toNat = m by omega]
      congr 2
      refine List.map_congr_left fun i _ => ?_
      show V.int (0 + (i : Int)) = V.int (i : Int)
      rw [Int.zero_add]
    · rw [decide_eq_false (fun e => c (V.str.inj e))]
      refine iteF ?_
      dsimp only [tNext, tSeq, tAsg]
      refine (val_call (v := .int (numOf z m)) (va_cons (val_var rfl) (va_cons (val_var rfl) va_nil)) fun Q q => ⟨z, m, rfl, hz, q⟩) _ ?_
      have e : wOf z m = if 0 ≤ numOf z m then [numOf z m] else [] := if_neg c
      rw [e] at k
      refine (ansI (i := numOf z m) (j := 0) (val_var rfl) val_c) _ ?_
      refine ite2 (fun e => ?_) fun e => ?_
      · rw [if_pos (of_decide_eq_true e)] at k
        exact (val_var rfl) _ ⟨by show 1 ≤ sizeLine; decide, fun p np => k _ p (same_upd np) np upd_same⟩
      · rw [if_neg (fun c => e (decide_eq_true c))] at k
        exact ⟨Nat.zero_le _, fun p np => k _ p (same_upd np) np upd_same⟩
theorem ok_answer_of {f fN : Addr} {fd fdN : FuncData} (B : Bt mg) (W : Gw K mg aw) (D : Df K mg "answer_of" s_answer_of f fd ["word", "worths"]) (D_number : Df K mg "number" s_number fN fdN ["word", "many"]) : FnOk P w K mg base CX0 2 f fd ["word", "worths"] spAnsOf := by
  have G_number : FnOk P w K mg base CX0 1 fN fdN ["word", "many"] spNumber := ok_number B D_number
  refine D.F.ok sc_answer_of (fun vs H Q E h => ?_) (fun cdv A outer s H vs Q E hr h => ?_)
  · obtain ⟨z, m, rfl, _⟩ := h
    rfl
  · obtain ⟨z, m, rfl, hz, k⟩ := h
    have S := sc_answer_of
    have gA := W.a
    refine ⟨_, (pss_cons (ps_if (pt_cmpR op_in_seq (pv 0) (pe_glob (v := .ref aw) (by rfl) gA rfl) (by rfl))
        (pss_one (ps_ret (pe_op op_sub (pe_tupKx (pe_glob (v := .ref aw) (by rfl) gA rfl) (pa_cons (pv 0) pa_nil)) pe_int)))
        pss_nil)
      (pss_cons (ps_set (i := 2) S.nd rfl (.inl rfl) (pe_call G_number (hr.mono (by decide)) (by rfl) D_number.g D_number.F.kp D_number.b .nil pass0 (pa_cons (pv 0) (pa_cons (pv 1) pa_nil))))
      (pss_one (ps_ret (pe_ifExp (pt_cmpR op_ge (pv 2) pe_int (nomark _)) (pv 2) pe_non))))), ?_⟩
    have bl := busy_lost
    have inA : inV (.str z) ((["busy", "lost"] : List Str).map V.str) = decide (z ∈ (["busy", "lost"] : List Str)) := inV_strs z _
    try dsimp only [tSeq, tIfS, tTest, tOp]
    refine (val_var rfl) _ ?_
    refine val_c _ ⟨aw, _, rfl, .inr (W.k.sq _), rfl, rfl, _, rfl, ?_⟩
    rw [inA]
    by_cases hb : z = "busy"
    · subst hb
      rw [decide_eq_true (List.mem_cons_self ..)]
      refine iteT ?_
      try dsimp only [tRet, tOp, tTupKx, tCons, tNil]
      refine val_c _ ⟨aw, _, rfl, W.k, ?_⟩
      refine (val_var rfl) _ ⟨"busy", 0, rfl, rfl, fun m hm => absurd hm (Nat.not_lt_zero _), ?_⟩
      refine val_c _ ⟨_, _, rfl, rfl, ?_⟩
      have e : ansV (ansOf "busy" m) = .int (((0 : Nat) : Int) - 2) := by
        unfold ansOf
        rw [if_pos rfl]
        rfl
      rw [e] at k
      exact k
    · by_cases hl : z = "lost"
      · subst hl
        rw [decide_eq_true (List.mem_cons_of_mem _ (List.mem_cons_self ..))]
        refine iteT ?_
        try dsimp only [tRet, tOp, tTupKx, tCons, tNil]
        refine val_c _ ⟨aw, _, rfl, W.k, ?_⟩
        refine (val_var rfl) _ ⟨"lost", 1, rfl, rfl, fun m hm => ?_, ?_⟩
        · obtain rfl : m = 0 := by omega
          intro c
          exact bl (Option.some.inj c)
        refine val_c _ ⟨_, _, rfl, rfl, ?_⟩
        have e : ansV (ansOf "lost" m) = .int (((1 : Nat) : Int) - 2) := by
          unfold ansOf
          rw [if_neg bl.symm, if_pos rfl]
          rfl
        rw [e] at k
        exact k
      · rw [decide_eq_false (by simp only [List.mem_cons, List.not_mem_nil, or_false]; intro c; exact c.elim hb hl)]
        have e : ansOf z m = if 0 ≤ numOf z m then some (numOf z m) else none := by
          unfold ansOf
          rw [if_neg hb, if_neg hl]
        rw [e] at k
        refine iteF ?_
        dsimp only [tNext, tSeq, tAsg]
        refine (val_call (v := .int (numOf z m)) (va_cons (val_var rfl) (va_cons (val_var rfl) va_nil)) fun Q q => ⟨z, m, rfl, hz, q⟩) _ ?_
        refine (ansI (i := numOf z m) (j := 0) (val_var rfl) val_c) _ ?_
        refine ite2 (fun e => ?_) fun e => ?_
        · rw [if_pos (of_decide_eq_true e)] at k
          exact (val_var rfl) _ k
        · rw [if_neg (fun c => e (decide_eq_true c))] at k
          exact val_c _ k
theorem ok_answers_of {f fN fW fA : Addr} {fd fdN fdW fdA : FuncData} (B : Bt mg) (W : Gw K mg aw) (D : Df K mg "answers_of" s_answers_of f fd ["word", "worths"]) (Dw : Df K mg "worths_of" s_worths_of fW fdW ["word", "worths"]) (Da : Df K mg "answer_of" s_answer_of fA fdA ["word", "worths"])
    (D_number : Df K mg "number" s_number fN fdN ["word", "many"]) : FnOk P w K mg base CX0 3 f fd ["word", "worths"] (spList asOf) := by
  have Gw : FnOk P w K mg base CX0 2 fW fdW ["word", "worths"] (spList wOf) := ok_worths_of B Dw D_number
  have Ga : FnOk P w K mg base CX0 2 fA fdA ["word", "worths"] spAnsOf := ok_answer_of B W Da D_number
  refine D.F.ok sc_answers_of (fun vs H Q E h => ?_) (fun cdv A outer s H vs Q E hr h => ?_)
  · obtain ⟨z, m, rfl, _⟩ := h
    rfl
  · obtain ⟨z, m, rfl, m4, hz, k⟩ := h
    have S := sc_answers_of
    refine ⟨_, (pss_cons (ps_set (i := 2) S.nd rfl (.inl rfl) (pe_call Ga (hr.mono (by decide)) (by rfl) Da.g Da.F.kp Da.b .nil pass0 (pa_cons (pv 0) (pa_cons (pv 1) pa_nil))))
      (pss_one (ps_ret (pe_ifExp (pt_cmpR op_isN1 (pv 2) pe_non (nomark _)) (pe_call Gw (hr.mono (by decide)) (by rfl) Dw.g Dw.F.kp Dw.b .nil pass0 (pa_cons (pv 0) (pa_cons (pv 1) pa_nil))) (pe_lst (pa_cons (pv 2) pa_nil)))))), ?_⟩
    dsimp only [tNext, tSeq, tAsg]
    refine (val_call (v := ansV (ansOf z m)) (va_cons (val_var rfl) (va_cons (val_var rfl) va_nil)) fun Q q => ⟨z, m, rfl, hz, q⟩) _ ?_
    have e : asOf z m = match ansOf z m with
      | some i => [i]
      | none => wOf z m := rfl
    rw [e] at k
    cases q : ansOf z m with
    | none =>
      rw [q] at k
      refine (ans_isN (x := ansV none) (b := true) (val_var rfl) (decide_eq_true rfl)) _ (iteT ?_)
      dsimp only [tRet, tCall, tCons, tNil]
      exact (val_var rfl) _ ((val_var rfl) _ ⟨z, m, rfl, m4, hz, k⟩)
    | some i =>
      rw [q] at k
      refine (ans_isN (x := ansV (some i)) (b := false) (val_var rfl) (decide_eq_false fun c => nomatch c)) _ (iteF ?_)
      exact (val_var rfl) _ ⟨by show 1 ≤ sizeLine; decide, fun p np => k _ p (same_upd np) np upd_same⟩
end
end K5
namespace K5
open PySem PySem.Spec PyProof.Rows L2
/-- a def whose code object is at c -/
structure FunT (K : PySem.W.Frag) (x qual : Str) (st : Stmt) (f : Addr) (fd : FuncData) (c : Addr) : Prop where
  ex : ∃ (oc : Value) (od : Option Addr) (kV doc pm : Value) (an : Option Addr) (ct : Value) (osl : Array (Option Value)),
    fd = PySem.W.fnOf x qual (defArgs st) (defBody st) (defScope st) .none kV doc pm an (.ref c) ct ∧ K.lookup f = some ⟨oc, od, .func fd, osl⟩ ∧ PySem.W.codeIn K (.ref c) qual = true
  kp : PySem.W.keepIn K (.ref f) = true
theorem FunT.okC {P : Program} {w : World} {K : PySem.W.Frag} {mg : Str → Option Value} {base : Heap} {x qual : Str} {st : Stmt} {f c : Addr} {fd : FuncData} {N ps : List Str} {k : Nat} {sp : Sp} (F : FunT K x qual st f fd c) (S : FnScope N ps (defScope st)) (len : ∀ vs H Q E, sp vs H Q E → vs.length = ps.length)
    (hbody : ∀ (A : Around) (outer : List Env) (s : Shared) (H : Hp) (vs : List V) (Q : VK) (E : XK), Room k (A.deeper (envOfC qual (defScope st) s.heap.objs.size f (.ref c))) → sp vs H Q E →
      ∃ t, PSs (cxOf (L2.CX P w) P w K mg base N qual (defScope st) f (.ref c) A outer s H E) (defBody st) t ∧ t { nx := fun _ H' => Q .non H', rt := Q } (start N vs) H) : FnOk P w K mg base (L2.CX P w) (k + 1) f fd ps sp := by
  obtain ⟨oc, od, kV, doc, pm, an, ct, osl, e, l1, l2⟩ := F.ex
  subst e
  exact fn_of l1 l2 S len hbody
def hide (H : Hp) (L : List Addr) : Hp := fun b => if b ∈ L then none else H b
theorem hide_in {H : Hp} {L : List Addr} {b : Addr} (h : b ∈ L) : hide H L b = none := if_pos h
theorem hide_out {H : Hp} {L : List Addr} {b : Addr} (h : b ∉ L) : hide H L b = H b := if_neg h
theorem hide_same {H : Hp} {L : List Addr} : Same (hide H L) H := fun b o e => by
  by_cases h : b ∈ L
  · rw [hide_in h] at e
    cases e
  · rw [hide_out h] at e
    exact e
/-- all but the thing at P is kept -/
def ButP (P : Addr) (H H' : Hp) : Prop := ∀ b o, b ≠ P → H b = some o → H' b = some o
theorem ButP.of_same {P : Addr} {H H' : Hp} (e : Same H H') : ButP P H H' := fun b o _ h => e b o h
theorem ButP.trans {P : Addr} {H H1 H2 : Hp} (x : ButP P H H1) (y : ButP P H1 H2) : ButP P H H2 := fun b o n h => y b o n (x b o n h)
theorem ButP.tab {P : Addr} {H H' : Hp} (e : GxR.Tabbed P H H') : ButP P H H' := fun b o n h => by
  rw [e.2 b n]
  exact h
theorem tab_same {P : Addr} {H H' : Hp} (t : GxR.TabG H P) (e : Same H H') : GxR.TabG H' P := let ⟨ps, h1, h2⟩ := t; ⟨ps, e _ _ h1, h2⟩
end K5
namespace K5
open PySem PySem.Spec PyProof.Rows L2
/-! ### outcomes -/
def putAll : List Int → Int → List (Int × Int) → Option (List (Int × Int))
  | [], _, acc => some acc
  | a :: as, b, acc => if a ∈ acc.map (·.1) then none else putAll as b (acc ++ [(a, b)])
def outRow (m n : Nat) (ws : List Str) (acc : List (Int × Int)) : Option (List (Int × Int)) := match ws with
  | [a, b] => if asOf a m ≠ [] ∧ 0 ≤ numOf b n then putAll (asOf a m) (numOf b n) acc else none
  | _ => none
def outsOf (m n : Nat) : List Str → List (Int × Int) → Option (List (Int × Int))
  | [], acc => some acc
  | r :: rs, acc => (outRow m n (Txt.split r " ") acc).bind (outsOf m n rs)
def dkv (acc : List (Int × Int)) : List (Key × V) := acc.map fun q => (.inl q.1, .int q.2)
def OutsAt (H : Hp) (p : Addr) (acc : List (Int × Int)) : Prop := ∃ (ks : List Int) (ts : List Addr) (bs : List (Int × Int)), H p = some (.tup (ts.map V.ref)) ∧ bs.map (·.1) = ks ∧ ks.Perm (acc.map (·.1)) ∧ ks.Pairwise (· ≤ ·) ∧ (∀ q ∈ bs, q ∈ acc) ∧
  Paired (fun (t : Addr) (q : Int × Int) => H t = some (.tup [.int q.1, .int q.2])) ts bs
theorem dkv_some {acc : List (Int × Int)} {a : Int} : (valV (dkv acc) (.inl a)).isSome = decide (a ∈ acc.map (·.1)) := by
  induction acc with
  | nil => rfl
  | cons q r ih =>
    by_cases e : q.1 = a
    · have e2 : valV (dkv (q :: r)) (.inl a) = some (.int q.2) := valV_pos (show (Sum.inl q.1 : Key) = .inl a by rw [e])
      rw [e2]
      exact (decide_eq_true (by rw [List.map_cons, e]; exact List.mem_cons_self ..)).symm
    · have e2 : valV (dkv (q :: r)) (.inl a) = valV (dkv r) (.inl a) := valV_neg (show ¬ (Sum.inl q.1 : Key) = .inl a from fun z => e (by injection z))
      rw [e2, ih]
      exact decide_eq_decide.mpr ⟨fun h => List.mem_cons_of_mem _ h, fun h => (List.mem_cons.mp h).elim (fun z => absurd z.symm e) id⟩
theorem dkv_none {acc : List (Int × Int)} {a : Int} (h : a ∉ acc.map (·.1)) : valV (dkv acc) (.inl a) = none := by
  have e := dkv_some (acc := acc) (a := a)
  rw [decide_eq_false h] at e
  cases q : valV (dkv acc) (.inl a) with
  | none => rfl
  | some v =>
    rw [q] at e
    cases e
theorem dkv_put {acc : List (Int × Int)} {a b : Int} (h : a ∉ acc.map (·.1)) : putK (dkv acc) (.inl a) (.int b) = dkv (acc ++ [(a, b)]) := by
  rw [putK_new _ (dkv_none h)]
  unfold dkv
  rw [List.map_append]
  rfl
theorem dkv_get {a b : Int} : ∀ {acc : List (Int × Int)}, (acc.map (·.1)).Nodup → (a, b) ∈ acc → valV (dkv acc) (.inl a) = some (.int b)
  | q :: r, nd, h => by
    rw [List.map_cons, List.nodup_cons] at nd
    rcases List.mem_cons.mp h with e | e
    · subst e
      exact valV_pos rfl
    · have ne : q.1 ≠ a := fun z => nd.1 (by rw [z]; exact List.mem_map_of_mem (f := (·.1)) e)
      exact (valV_neg (show ¬ (Sum.inl q.1 : Key) = .inl a from fun z => ne (by injection z))).trans (dkv_get nd.2 e)
theorem nodup_bound {lo : Int} : ∀ (k : Nat) (l : List Int), l.Nodup → (∀ x ∈ l, lo ≤ x ∧ x < lo + k) → l.length ≤ k
  | 0, l, _, h => by
    cases l with
    | nil => exact Nat.le_refl _
    | cons x r =>
      have := h x (List.mem_cons_self ..)
      omega
  | k + 1, l, nd, h => by
    have ih := nodup_bound (lo := lo) k (l.erase (lo + k)) (nd.erase _) fun x hx => by
      have h1 := (nd.mem_erase_iff).mp hx
      have h2 := h x h1.2
      have := h1.1
      omega
    have e := List.length_erase (a := lo + k) (l := l)
    split at e <;> omega
theorem num_lt {z : Str} {m : Int} (h : 0 ≤ numOf z m) : numOf z m < m := by
  unfold numOf at h ⊢
  split
  · rename_i c
    rw [if_pos c] at h
    exact absurd h (by decide)
  · rename_i c
    rw [if_neg c] at h
    split
    · rename_i c2
      rw [Bool.and_eq_true] at c2
      exact of_decide_eq_true c2.2
    · rename_i c2
      rw [if_neg c2] at h
      exact absurd h (by decide)
theorem wOf_in {z : Str} {m : Nat} {a : Int} (h : a ∈ wOf z m) : 0 ≤ a ∧ a < m := by
  unfold wOf at h
  split at h
  · obtain ⟨i, hi, rfl⟩ := List.mem_map.mp h
    have := List.mem_range.mp hi
    exact ⟨Int.natCast_nonneg i, Int.ofNat_lt.mpr this⟩
  · split at h
    · rename_i c
      rw [List.mem_singleton.mp h]
      exact ⟨c, num_lt c⟩
    · cases h
theorem asOf_in {z : Str} {m : Nat} {a : Int} (m4 : m ≤ 4) (h : a ∈ asOf z m) : -2 ≤ a ∧ a < 4 := by
  unfold asOf at h
  cases q : ansOf z m with
  | none =>
    rw [q] at h
    have := wOf_in h
    omega
  | some i =>
    rw [q] at h
    have e : a = i := List.mem_singleton.mp h
    unfold ansOf at q
    split at q
    · cases q; omega
    · split at q
      · cases q; omega
      · split at q
        · rename_i c
          cases q
          have := num_lt c
          omega
        · cases q
theorem drop_cons {α : Type} : ∀ {l : List α} {i : Nat} {a : α}, l[i]? = some a → l.drop i = a :: l.drop (i + 1)
  | x :: r, 0, _, e => by
    cases e
    rfl
  | x :: r, i + 1, _, e => drop_cons (l := r) (i := i) e
  | [], _, _, e => by cases e
theorem two_of' {ws : List Str} (h : ws.length = 2) : ∃ a b, ws = [a, b] := by
  match ws, h with
  | [a, b], _ => exact ⟨a, b, rfl⟩
theorem outRow_len {m n : Nat} {ws : List Str} {acc : List (Int × Int)} (h : ws.length ≠ 2) : outRow m n ws acc = none := by
  match ws, h with
  | [], _ => rfl
  | [_], _ => rfl
  | [_, _], h => exact absurd rfl h
  | _ :: _ :: _ :: _, _ => rfl
theorem truL {K : PySem.W.Frag} {H : Hp} {p : Addr} {xs : List V} (h : SqL K H p xs) : TruV K (.ref p) H (!xs.isEmpty) := .inl ⟨_, h, rfl⟩
theorem pick {acc : List (Int × Int)} : ∀ {ys : List Int}, (∀ a ∈ ys, ∃ b, (a, b) ∈ acc) → ∃ bs : List (Int × Int), bs.map (·.1) = ys ∧ ∀ q ∈ bs, q ∈ acc
  | [], _ => ⟨[], rfl, fun q h => nomatch h⟩
  | y :: r, h => by
    obtain ⟨b, hb⟩ := h y (List.mem_cons_self ..)
    obtain ⟨bs, e1, e2⟩ := pick (ys := r) fun a ha => h a (List.mem_cons_of_mem _ ha)
    refine ⟨(y, b) :: bs, by rw [List.map_cons, e1], fun q hq => ?_⟩
    rcases List.mem_cons.mp hq with c | c
    · rw [c]
      exact hb
    · exact e2 q c
theorem paired_map' {α β γ : Type} {R : α → β → Prop} {f : γ → β} : ∀ {l : List α} {m : List γ}, Paired R l (m.map f) → Paired (fun a c => R a (f c)) l m
  | _, [], .nil => .nil
  | _, c :: r, .cons h t => .cons h (paired_map' t)
def spOuts (CL CT PT : Addr) : Sp := fun vs H Q E => ∃ (l dx r : Addr) (rows : List Str) (at_ : Nat) (z : Str) (m n : Nat), vs = [.ref l, .str z, .int m, .int n] ∧ LinesAt CL H l dx r rows at_ ∧ m ≤ 4 ∧ z.length ≤ 14000 ∧ GxR.TabG H PT ∧
  match outsOf m n (Txt.split z ", ") [] with
  | none => ErrK CT (.int (at_ : Nat)) H E
  | some acc => ∀ (H' : Hp) (p : Addr), ButP PT H H' → GxR.TabG H' PT → OutsAt H' p acc → Q (.ref p) H'
abbrev s_read_outcomes : Stmt := topS 33
theorem sc_read_outcomes : FnScope ["lines", "text", "worths", "many", "row", "words", "answers", "behind", "answer", "outcomes"] ["lines", "text", "worths", "many"] (defScope s_read_outcomes) := ⟨rfl, rfl, rfl, by decide +kernel, rfl, by decide +kernel, by decide +kernel⟩
theorem free_outs : ∀ y ∈ ([(".0", .local), ("answer", .local), ("outcomes", .free)] : List (Str × NameKind)), y.2 = .free → (defScope s_read_outcomes).names.lookup y.1 = some .cell := by decide +kernel
structure EnO (P : Program) (w : World) (K : PySem.W.Frag) (mg : Str → Option Value) (base : Heap) (CL CT aw fNeed fA fN : Addr) (dNeed dA dN : FuncData) : Prop where
  B : Bt mg
  ms : mg "sorted" = none
  L : ClL K CL
  Mn : Mf K CL "need" "Lines.need" s_Lines_need fNeed dNeed ["self", "right"]
  Gn : FnOk P w K mg base (L2.CX P w) 4 fNeed dNeed ["self", "right"] (spNeed K CL CT)
  Da : Df K mg "answers_of" s_answers_of fA dA ["word", "worths"]
  Ga : FnOk P w K mg base CX0 3 fA dA ["word", "worths"] (spList asOf)
  Dn : Df K mg "number" s_number fN dN ["word", "many"]
  Gm : FnOk P w K mg base CX0 1 fN dN ["word", "many"] spNumber
section
variable {P : Program} {w : World} {K : PySem.W.Frag} {mg : Str → Option Value} {base : Heap} {CL CT aw fNeed fA fN : Addr} {dNeed dA dN : FuncData}
theorem ok_read_outcomes {f c PT : Addr} {fd : FuncData} (N : EnO P w K mg base CL CT aw fNeed fA fN dNeed dA dN) (F : FunT K "read_outcomes" "read_outcomes" s_read_outcomes f fd c) (TB : GxR.TabB base mg c PT) :
    FnOk P w K mg base (L2.CX P w) 6 f fd ["lines", "text", "worths", "many"] (spOuts CL CT PT) := by
  refine F.okC sc_read_outcomes (fun vs H Q E h => ?_) (fun A outer s H vs Q E hr h => ?_)
  · obtain ⟨l, dx, r, rows, at_, z, m, n, rfl, _⟩ := h
    rfl
  · obtain ⟨l, dx, r, rows, at_, z, m, n, rfl, hl, m4, hz, tab, k⟩ := h
    have S := sc_read_outcomes
    refine ⟨_, (pss_cons (ps_set (i := 9) S.nd rfl (.inr rfl) pe_dnewK)
      (pss_cons (ps_for (passes_of rfl) rfl (pi_list (pe_bm PySem.F.plainAttrs_str PySem.F.slot_str_split PySem.F.type_str_split mt_split (pv 1) (pa_cons pe_str pa_nil))) (pg_name (i := 4) S.nd rfl (.inl rfl))
        (pss_cons (ps_set (i := 5) S.nd rfl (.inl rfl) (pe_bm PySem.F.plainAttrs_str PySem.F.slot_str_split PySem.F.type_str_split mt_split (pv 4) (pa_cons pe_str pa_nil)))
        (pss_cons (ps_expr (pe_meth (pv 0) N.L.cl N.Mn.m N.Gn (hr.mono (by decide)) N.Mn.b .nil (pxp rfl rfl rfl rfl) (pa_cons (pe_cmpR op_eq (pe_callB call_len_seq (by rfl) N.B.m_len PySem.boot_len (pa_cons (pv 5) pa_nil)) pe_int (nomark _)) pa_nil)))
        (pss_cons (ps_set (i := 6) S.nd rfl (.inl rfl) (pe_call N.Ga (hr.mono (by decide)) (by rfl) N.Da.g N.Da.F.kp N.Da.b .nil pass0 (pa_cons (pe_ix ix_list (pv 5) pe_int (fun _ _ => rfl)) (pa_cons (pv 2) pa_nil))))
        (pss_cons (ps_set (i := 7) S.nd rfl (.inl rfl) (pe_call N.Gm (hr.mono (by decide)) (by rfl) N.Dn.g N.Dn.F.kp N.Dn.b .nil pass0 (pa_cons (pe_ix ix_list (pv 5) pe_int (fun _ _ => rfl)) (pa_cons (pv 3) pa_nil))))
        (pss_cons (ps_expr (pe_meth (pv 0) N.L.cl N.Mn.m N.Gn (hr.mono (by decide)) N.Mn.b .nil (pxp rfl rfl rfl rfl) (pa_cons (pe_andT (pv 6) (pe_one (pe_cmpR op_ge (pv 7) pe_int (nomark _)))) pa_nil)))
        (pss_one (ps_for (passes_of rfl) rfl (pi_list (pv 6)) (pg_name (i := 8) S.nd rfl (.inl rfl))
          (pss_cons (ps_expr (pe_meth (pv 0) N.L.cl N.Mn.m N.Gn (hr.mono (by decide)) N.Mn.b .nil (pxp rfl rfl rfl rfl) (pa_cons (pe_cmp (pc_dnotin (hu_of hr) (pv 8) (pv 9)) (by rfl)) pa_nil)))
          (pss_one (ps_dput (hu_of hr) (pv 9) (pv 8) (pv 7) rfl)))))))))))
      (pss_one (ps_ret (GL.pe_tupNew (Pr := GL.PrN 9) hr TB rfl rfl rfl (by decide +kernel) rfl free_outs (pe_callB (call_sortedDI rfl) (by rfl) N.ms (by decide +kernel) (pa_cons (pv 9) pa_nil))
        (fun pins σ us rows H1 h t => GL.prov_name (i := 9) rfl rfl (by decide +kernel) rfl free_outs rfl (by decide +kernel) (by decide +kernel) (by decide +kernel) h t) rfl (by rfl) N.B.m_tuple))))), ?_⟩
    dsimp only [tSeq, tAsg]
    intro d nd
    have H1d : (upd H d (.dK [])) d = some (.dK []) := upd_same
    have s1 : Same H (upd H d (.dK [])) := same_upd nd
    generalize (upd H d (.dK [])) = H1 at H1d s1 ⊢
    refine ⟨_, rfl, rfl, z, ", ", rfl, rfl, by decide +kernel, big_size (by omega), fun p np => ?_⟩
    have H2p : (upd H1 p (.lst ((Txt.split z ", ").map V.str))) p = some (.lst ((Txt.split z ", ").map V.str)) := upd_same
    have s2 : Same H1 (upd H1 p (.lst ((Txt.split z ", ").map V.str))) := same_upd np
    have H2d := s2 _ _ H1d
    have s02 := s1.trans s2
    generalize (upd H1 p (.lst ((Txt.split z ", ").map V.str))) = H2 at H2p H2d s02 ⊢
    refine ⟨p, rfl, ⟨_, SqL.of H2p⟩, for_list (K := K) (a := p) (xs := (Txt.split z ", ").map V.str) (fun i σ' H' => ∃ (t4 t5 t6 t7 t8 : Option V) (acc : List (Int × Int)), σ' = [some (.ref l), some (.str z), some (.int m), some (.int n), t4, t5, t6, t7, t8, some (.ref d)] ∧ Same H H' ∧ H' d = some (.dK (dkv acc)) ∧ H' p = some (.lst ((Txt.split z ", ").map V.str)) ∧
      outsOf m n ((Txt.split z ", ").drop i) acc = outsOf m n (Txt.split z ", ") [] ∧ (acc.map (·.1)).Nodup ∧ ∀ a ∈ acc.map (·.1), (-2 : Int) ≤ a ∧ a < 4) ?_ ?_ ?_ ?_⟩
    · exact ⟨_, _, _, _, _, [], rfl, s02, H2d, H2p, rfl, List.nodup_nil, fun a h => nomatch h⟩
    · rintro i σ' H' _ ⟨_, _, _, _, _, acc, _, _, _, hp, _⟩
      exact SqL.of hp
    · rintro i x σ' H' ex ⟨t4, t5, t6, t7, t8, acc, rfl, sm, hd, hp, er, nk, bk⟩
      obtain ⟨row, erow, rfl⟩ : ∃ row, (Txt.split z ", ")[i]? = some row ∧ x = .str row := by
        rw [List.getElem?_map] at ex
        cases q : (Txt.split z ", ")[i]? with
        | none => rw [q] at ex; cases ex
        | some row => rw [q] at ex; exact ⟨row, rfl, (Option.some.inj ex).symm⟩
      have rlen : row.length ≤ 14000 := Nat.le_trans (split_len (List.mem_of_getElem? erow)) hz
      have edr : (Txt.split z ", ").drop i = row :: (Txt.split z ", ").drop (i + 1) := drop_cons erow
      rw [edr] at er
      have er : (outRow m n (Txt.split row " ") acc).bind (outsOf m n ((Txt.split z ", ").drop (i + 1))) = outsOf m n (Txt.split z ", ") [] := er
      have bad : outRow m n (Txt.split row " ") acc = none → ErrK CT (.int (at_ : Nat)) H E := fun e => by
        rw [e] at er
        have er : none = outsOf m n (Txt.split z ", ") [] := er
        rw [← er] at k
        exact k
      dsimp only [gName, tSeq, tAsg]
      refine ⟨_, rfl, rfl, row, " ", rfl, rfl, by decide +kernel, big_size (by omega), fun q nq => ?_⟩
      have H1q : (upd H' q (.lst ((Txt.split row " ").map V.str))) q = some (.lst ((Txt.split row " ").map V.str)) := upd_same
      have sq : Same H' (upd H' q (.lst ((Txt.split row " ").map V.str))) := same_upd nq
      have hd := sq _ _ hd
      have hp := sq _ _ hp
      have sm := sm.trans sq
      generalize (upd H' q (.lst ((Txt.split row " ").map V.str))) = H3 at H1q sq hd hp sm ⊢
      clear sq nq
      have hl3 := hl.mono sm
      have hS : SqL K H3 q ((Txt.split row " ").map V.str) := SqL.of H1q
      refine meth_run (val_var rfl) hl3.o (lf_no (by decide +kernel) (by decide +kernel)) ?_
      refine (val_op (val_lenL (val_var rfl) hS) val_c fun Q q => ⟨rfl, q⟩) _ ?_
      refine ⟨l, dx, r, rows, at_, _, _, rfl, hl3, rfl, fun e => ?_, fun e => (bad ?_).mono sm⟩
      · have e2 : ((Txt.split row " ").map V.str).length = 2 := by
          have := of_decide_eq_true e
          injection this with this
          omega
        rw [List.length_map] at e2
        obtain ⟨a, b, eab⟩ := two_of' e2
        rw [eab] at hS er bad H1q
        have alen : a.length ≤ 10000000 := by
          have := split_len (x := row) (y := " ") (p := a) (by rw [eab]; exact List.mem_cons_self ..)
          omega
        have blen : b.length ≤ 10000000 := by
          have := split_len (x := row) (y := " ") (p := b) (by rw [eab]; exact List.mem_cons_of_mem _ (List.mem_cons_self ..))
          omega
        dsimp only [tNext, tSeq, tAsg]
        dsimp only [tCall, tCons, tNil]
        refine (val_ixL (val_var rfl) val_c hS (atI_nat (j := 0) rfl)) _ ((val_var rfl) _ ⟨a, m, rfl, m4, alen, fun H4 pa s4 npa hpa => ?_⟩)
        have hS4 : SqL K H4 q ([a, b].map V.str) := SqL.of (s4 _ _ H1q)
        refine (val_call (v := .int (numOf b n)) (va_cons (val_ixL (val_var rfl) val_c hS4 (atI_nat (j := 1) rfl)) (va_cons (val_var rfl) va_nil)) fun Q q => ⟨b, n, rfl, blen, q⟩) _ ?_
        have hd4 := s4 _ _ hd
        have hp4 := s4 _ _ hp
        have sm4 := sm.trans s4
        have hl4 := hl.mono sm4
        clear hS4 hS hd hp sm hl3 H1q
        clear s4
        have npp : pa ≠ d := fun c => by
          rw [c, hd4] at hpa
          cases hpa
        have npd : p ≠ d := fun c => by
          rw [c, hd4] at hp4
          cases hp4
        refine meth_run (val_var rfl) hl4.o (lf_no (by decide +kernel) (by decide +kernel)) ?_
        dsimp only [tCons, tNil, tAndT]
        refine (val_var rfl) _ ⟨_, truL (SqL.of hpa), ?_⟩
        by_cases ea : asOf a m = []
        · rw [ea] at hpa
          rw [ea]
          refine iteF ?_
          exact ⟨l, dx, r, rows, at_, .ref pa, false, rfl, hl4, truL (SqL.of hpa), (fun e => nomatch e), fun _ => (bad (if_neg fun c => c.1 ea)).mono sm4⟩
        · have ne : (!((asOf a m).map V.int).isEmpty) = true := by
            cases q : asOf a m with
            | nil => exact absurd q ea
            | cons _ _ => rfl
          rw [ne]
          refine iteT ?_
          refine (val_op (val_var rfl) val_c fun Q q => ⟨_, _, rfl, rfl, q⟩) _ ?_
          refine ⟨l, dx, r, rows, at_, _, _, rfl, hl4, rfl, fun e => ?_, fun e => (bad (if_neg fun c => ?_)).mono sm4⟩
          · have b0 : 0 ≤ numOf b n := of_decide_eq_true e
            have eo : outRow m n [a, b] acc = putAll (asOf a m) (numOf b n) acc := if_pos ⟨ea, b0⟩
            rw [eo] at er bad
            dsimp only [tNext, tSeq]
            unfold tFor iList
            have inA : ∀ x ∈ asOf a m, -2 ≤ x ∧ x < 4 := fun x h => asOf_in m4 h
            generalize asOf a m = as at hpa er bad inA
            generalize numOf b n = bh at b0 er bad
            refine (val_var rfl) _ ⟨pa, rfl, ⟨_, SqL.of hpa⟩, for_list (K := K) (a := pa) (xs := as.map V.int) (fun j σ' H' => ∃ (t8 : Option V) (acc2 : List (Int × Int)), σ' = [some (.ref l), some (.str z), some (.int m), some (.int n), some (.str row), some (.ref q), some (.ref pa), some (.int bh), t8, some (.ref d)] ∧ Same H H' ∧ H' d = some (.dK (dkv acc2)) ∧ H' p = some (.lst ((Txt.split z ", ").map V.str)) ∧ H' pa = some (.lst (as.map V.int)) ∧
              putAll (as.drop j) bh acc2 = putAll as bh acc ∧ (acc2.map (·.1)).Nodup ∧ ∀ a ∈ acc2.map (·.1), (-2 : Int) ≤ a ∧ a < 4) ?_ ?_ ?_ ?_⟩
            · exact ⟨_, acc, rfl, sm4, hd4, hp4, hpa, rfl, nk, bk⟩
            · rintro j σ' H' _ ⟨_, _, _, _, _, _, h, _⟩
              exact SqL.of h
            · rintro j x σ' H' ex ⟨t8', acc2, rfl, sm5, hd5, hp5, hpa5, er5, nk5, bk5⟩
              obtain ⟨aj, ej, rfl⟩ : ∃ aj, as[j]? = some aj ∧ x = .int aj := by
                rw [List.getElem?_map] at ex
                cases q : as[j]? with
                | none => rw [q] at ex; cases ex
                | some aj => rw [q] at ex; exact ⟨aj, rfl, (Option.some.inj ex).symm⟩
              rw [drop_cons ej] at er5
              have er5 : (if aj ∈ acc2.map (·.1) then none else putAll (as.drop (j + 1)) bh (acc2 ++ [(aj, bh)])) = putAll as bh acc := er5
              have hl5 := hl.mono sm5
              dsimp only [gName, tSeq]
              refine meth_run (val_var rfl) hl5.o (lf_no (by decide +kernel) (by decide +kernel)) ?_
              dsimp only [tCons, tNil, tDNotIn]
              refine (val_var rfl) _ ((val_var rfl) _ ⟨d, _, rfl, DGet.k (k := .inl aj) hd5, ?_⟩)
              rw [dkv_some]
              refine ⟨l, dx, r, rows, at_, _, _, rfl, hl5, rfl, fun e => ?_, fun e => (bad ?_).mono sm5⟩
              · have nin : aj ∉ acc2.map (·.1) := fun c => by
                  rw [decide_eq_true c] at e
                  cases e
                rw [if_neg nin] at er5
                have few : (dkv acc2).length < sizeLine := by
                  have := nodup_bound (lo := -2) 6 _ nk5 bk5
                  unfold dkv
                  rw [List.length_map]
                  rw [List.length_map] at this
                  exact Nat.lt_of_le_of_lt this (by decide)
                dsimp only [tNext, sDPut]
                refine (val_var rfl) _ ((val_var rfl) _ ((val_var rfl) _ ⟨d, _, rfl, DPut.k (k := .inl aj) hd5 few, ?_⟩))
                rw [dkv_put nin]
                refine ⟨_, acc2 ++ [(aj, bh)], rfl, fun b o e => ?_, upd_same, ?_, ?_, er5, ?_, ?_⟩
                · rw [upd_ne (ne_of_none e nd)]
                  exact sm5 b o e
                · rw [upd_ne npd]
                  exact hp5
                · rw [upd_ne npp]
                  exact hpa5
                · rw [List.map_append, List.nodup_append]
                  refine ⟨nk5, List.nodup_cons.mpr ⟨List.not_mem_nil, List.nodup_nil⟩, fun x hx y hy c => ?_⟩
                  rw [List.mem_singleton.mp hy] at c
                  have c : x = aj := c
                  exact nin (by rw [← c]; exact hx)
                · intro x hx
                  rw [List.map_append] at hx
                  rcases List.mem_append.mp hx with h | h
                  · exact bk5 x h
                  · rw [List.mem_singleton.mp h]
                    exact inA aj (List.mem_of_getElem? ej)
              · have ain : aj ∈ acc2.map (·.1) := by
                  cases c : decide (aj ∈ acc2.map (·.1)) with
                  | true => exact of_decide_eq_true c
                  | false =>
                    rw [c] at e
                    cases e
                rw [if_pos ain] at er5
                exact er5.symm
            · rintro σ' H' ⟨t8', acc2, rfl, sm5, hd5, hp5, hpa5, er5, nk5, bk5⟩
              rw [List.length_map, List.drop_length] at er5
              rw [← er5] at er
              exact ⟨_, _, _, _, _, acc2, rfl, sm5, hd5, hp5, er, nk5, bk5⟩
          · exact of_decide_eq_false e c.2
      · have e2 : (Txt.split row " ").length ≠ 2 := fun c => by
          have := of_decide_eq_false e
          rw [List.length_map, c] at this
          exact this rfl
        exact outRow_len e2
    · rintro σ' H' ⟨t4, t5, t6, t7, t8, acc, rfl, sm, hd, hp, er, nk, bk⟩
      rw [List.length_map, List.drop_length] at er
      have er : some acc = outsOf m n (Txt.split z ", ") [] := er
      rw [← er] at k
      have k : ∀ (H' : Hp) (p : Addr), ButP PT H H' → GxR.TabG H' PT → OutsAt H' p acc → Q (.ref p) H' := k
      have few : (acc.map (·.1)).length < 64 := Nat.lt_of_le_of_lt (nodup_bound (lo := -2) 6 _ nk bk) (by decide)
      dsimp only [tRet, GL.tTupNew]
      refine (val_var rfl) _ ⟨d, dkv acc, acc.map (·.1), rfl, .inl hd, by unfold dkv; rw [List.map_map, List.map_map]; rfl, few, fun ys p2 perm pw np2 => ?_⟩
      have gi : ∀ a ∈ ys, ∃ b, (a, b) ∈ acc := fun a h => by
        obtain ⟨⟨a', b⟩, h1, h2⟩ := List.mem_map.mp (perm.mem_iff.mp h)
        have h2 : a' = a := h2
        exact ⟨b, by rw [← h2]; exact h1⟩
      obtain ⟨bs, hb1, hb2⟩ := pick gi
      have sm6 : Same H (upd H' p2 (.lst (ys.map V.int))) := sm.trans (same_upd np2)
      have hd6 : (upd H' p2 (.lst (ys.map V.int))) d = some (.dK (dkv acc)) := (same_upd np2) _ _ hd
      have hp6 : (upd H' p2 (.lst (ys.map V.int))) p2 = some (.lst (ys.map V.int)) := upd_same
      generalize (upd H' p2 (.lst (ys.map V.int))) = H6 at sm6 hd6 hp6 ⊢
      have ylen : ys.length < 64 := by
        rw [perm.length_eq]
        exact few
      refine ⟨p2, ys.map V.int, bs.map fun q => [V.int q.1, V.int q.2], rfl, hp6, by rw [List.length_map]; omega, tab_same tab sm6, ⟨d, dkv acc, ys.map Sum.inl, rfl, hd6, by rw [List.map_map]; rfl, fun j kk e => ?_⟩, by rw [List.length_map, List.length_map, ← hb1, List.length_map], fun r hr => ?_, fun H7 H8 p3 ts tb7 sm8 prs hp3 => ?_⟩
      · rw [List.getElem?_map] at e
        rw [← hb1, List.getElem?_map] at e
        rw [List.getElem?_map]
        cases q : bs[j]? with
        | none => rw [q] at e; cases e
        | some b =>
          rw [q] at e
          obtain rfl : Sum.inl b.1 = kk := Option.some.inj e
          exact ⟨.int b.2, dkv_get nk (hb2 b (List.mem_of_getElem? q)), rfl⟩
      · obtain ⟨q, _, rfl⟩ := List.mem_map.mp hr
        exact (by decide : 2 ≤ 10)
      · have b7 : ButP PT H H8 := (ButP.of_same sm6).trans ((ButP.tab tb7).trans (ButP.of_same sm8))
        refine k H8 p3 b7 (tab_same tb7.1 sm8) ⟨ys, ts, bs, hp3, hb1, perm, pw, hb2, paired_map' (R := fun (t : Addr) (r : List V) => H8 t = some (.tup r)) (f := fun q : Int × Int => [V.int q.1, V.int q.2]) prs⟩
end
end K5
namespace K5
open PySem PySem.Spec PyProof.Rows L2
/-! ### sorted(d) of a dict whose keys are pairs of a text and a number -/
def RawD (h : Heap) (d : Addr) (es : Array DictEntry) (ep : Nat) : Prop := ∃ o, h.get? d = some o ∧ o.ExactDict ∧ o.data = .dict es ep
section
variable {prog : Program} {w : World} {A : Around} {d : Addr} {es : Array DictEntry} {ep : Nat}
theorem RawD.at_ {h h' : Heap} (x : RawD h d es ep) (k : ∀ o, h.get? d = some o → h'.get? d = some o) : RawD h' d es ep := let ⟨o, ho, r⟩ := x; ⟨o, k o ho, r⟩
theorem walks_raw (hh : A.handled = none) (I : Addr) (ne : d ≠ I) : Walks prog w A I [I, d] [I] es.size (fun i v => ∃ en, es[i]? = some en ∧ v = en.key) (fun i h => h.IsKeyIter I d i es.size ep ∧ RawD h d es ep) where
  sub := fun b hb => by simp at hb; simp [hb]
  frame := fun _ _ _ st hk => ⟨st.1.at fun o e => hk I (by simp) o e, st.2.at_ fun o e => hk d (by simp) o e⟩
  item := fun i s Q E hi st hQ => by
    obtain ⟨it, o, ho, hc, hd⟩ := st
    refine next_key_item it ho hd rfl (Array.getElem?_eq_getElem hi) fun h' it' sb => ?_
    exact hQ _ h' s.toks ⟨_, Array.getElem?_eq_getElem hi, rfl⟩ ⟨it', o, sb.extBut d o ne ho, hc, hd⟩ fun b o hb e => sb.extBut b o (fun h => hb (by simp [h])) e
  done := fun s Q E st hQ => by
    obtain ⟨it, o, ho, hc, hd⟩ := st
    exact next_key_end hh it ho hd rfl (Nat.le_refl _) fun h' he' => hQ h' s.toks fun b o hb e => he' b o (fun h => hb (by simp [h])) e
  self := fun _ _ _ _ st hQ => wpAny_pyIter_keyiter st.1 hQ
theorem kdl_raw (lo : (d == sysModules) = false) : PySem.W.KdlSrc prog w "dict" d d es.size (fun i v => ∃ en, es[i]? = some en ∧ v = en.key) (fun h => RawD h d es ep) where
  type := fun _ ⟨o, ho, hc, _⟩ => ⟨o, ho, hc.1⟩
  there := fun _ ⟨o, ho, _⟩ => ⟨Heap.lt_size ho, Heap.lt_size ho⟩
  keep := fun _ _ hm hk => hm.at_ fun o e => hk d (.inl rfl) o e
  notList := by decide
  notTuple := by decide
  hint := fun _ _ _ _ ⟨o, ho, hc, _⟩ hq => PySem.W.kdl_hint_dict ⟨o, ho, hc.1⟩ hq
  iter := fun _ s hh hm => by
    obtain ⟨o, ho, hc, hd⟩ := hm
    exact ⟨_, _, (fun _ _ hq => iter_keys lo ho hc hd hq), walks_raw hh _ (Nat.ne_of_lt (Heap.lt_size ho)), ⟨⟨_, Heap.get?_push_size _ rfl, rfl, rfl⟩, o, Heap.get?_push_of_some _ ho, hc, hd⟩⟩
end
def keyV (k : Str × Int) : List Key := [.inr k.1, .inl k.2]
def encK (k : Str × Int) : PyData := .tuple [.str k.1, .int k.2]
def sortK (ks : List (Str × Int)) : List (Str × Int) := ks.mergeSort (PySem.W.dataLe false encK)
theorem bs_of {H : Hp} : ∀ (kvs : List (List Key × V)) (xs : List (List Key × Addr × Value)) (ks : List (Str × Int)), KT H kvs xs → kvs.map (·.1) = ks.map keyV →
    ∃ bs : List ((Str × Int) × Addr), bs.map (·.1) = ks ∧ bs.map (·.2) = xs.map (·.2.1) ∧ ∀ b ∈ bs, H b.2 = some (.tup [.str b.1.1, .int b.1.2])
  | [], _, [], .nil, _ => ⟨[], rfl, rfl, fun b h => nomatch h⟩
  | [], _, _ :: _, _, e => by cases e
  | _ :: _, _, [], _, e => by cases e
  | p :: ps, _, k :: ks, .cons (b := x) (l₂ := xs) h t, e => by
    rw [List.map_cons, List.map_cons] at e
    injection e with e1 e2
    obtain ⟨bs, c1, c2, c3⟩ := bs_of ps xs ks t e2
    refine ⟨(k, x.2.1) :: bs, by rw [List.map_cons, c1], by rw [List.map_cons, List.map_cons, c2], fun b hb => ?_⟩
    rcases List.mem_cons.mp hb with c | c
    · rw [c]
      have := h.2.1
      rw [e1] at this
      exact this
    · exact c3 b c
theorem each_refs {H : Hp} : ∀ bs : List ((Str × Int) × Addr), (∀ b ∈ bs, H b.2 = some (.tup [.str b.1.1, .int b.1.2])) → PySem.W.EachIs (fun v (b : (Str × Int) × Addr) => v = Value.ref b.2 ∧ H b.2 = some (.tup [.str b.1.1, .int b.1.2])) (bs.map fun b => Value.ref b.2) bs
  | [], _ => .nil
  | b :: r, h => .cons ⟨rfl, h b (List.mem_cons_self ..)⟩ (each_refs r fun c hc => h c (List.mem_cons_of_mem _ hc))
theorem each_ts {H : Hp} : ∀ {out : List Value} {cs : List ((Str × Int) × Addr)}, PySem.W.EachIs (fun v (b : (Str × Int) × Addr) => v = Value.ref b.2 ∧ H b.2 = some (.tup [.str b.1.1, .int b.1.2])) out cs →
    ∃ ts : List Addr, out = ts.map Value.ref ∧ Paired (fun t k => H t = some (.tup [.str k.1, .int k.2])) ts (cs.map (·.1))
  | _, _, .nil => ⟨[], rfl, .nil⟩
  | _, _, .cons (b := b) h t => by
    obtain ⟨ts, rfl, pr⟩ := each_ts t
    exact ⟨b.2 :: ts, by rw [h.1]; rfl, .cons h.2 pr⟩
section
variable {X : Cx}
theorem call_sortedDT (hcalm : X.calm = true) (hu : X.A.units + 64 < cLine) : CallR X (.builtin "sorted") (fun xs H Q => ∃ (a : Addr) (kvs : List (List Key × V)) (ks : List (Str × Int)), xs = [.ref a] ∧ H a = some (.dT kvs) ∧ kvs.map (·.1) = ks.map keyV ∧
    ∀ (ts : List Addr) (p : Addr), Paired (fun t k => H t = some (.tup [.str k.1, .int k.2])) ts (sortK ks) → H p = none → Q (.ref p) (upd H p (.lst (ts.map V.ref)))) := by
  intro pins s σ H xs us Q I r q
  obtain ⟨a, kvs, ks, ex, hd, hks, q⟩ := q
  subst ex
  obtain ⟨u, eu, rx⟩ := vals1 r
  subst eu
  cases rx
  obtain ⟨z, lo, xs, pr, o, es, ep, ho, hc, hdt, he, nd⟩ := (show ObjOk X.prog X.w H s.heap a (.dT kvs) from I.hok a _ hd)
  have l1 : es.size = xs.length := size_of_entries he
  have l2 : kvs.length = xs.length := Paired.length pr
  have l3 : kvs.length = ks.length := by
    have e := congrArg List.length hks
    rw [List.length_map, List.length_map] at e
    exact e
  have h16 : es.size ≤ sizeLine := by omega
  refine Calls.call_function_entry PyProof.Rows.kind_sorted PyProof.Rows.plain_sorted PyProof.Rows.entry_sorted (PyProof.Rows.args_sorted1 _) ?_
  unfold Builtin.«sorted»
  refine wpAny_bind (m := checkCount "sorted" 1 1 _) (wpAny_pure ?_)
  refine wpAny_bind (PySem.W.kdu_collect (A := X.A.in1) (kdl_raw (es := es) (ep := ep) lo) (I.ok.hd hcalm) ⟨o, ho, hc, hdt⟩ h16 fun h' tk acc hk hacc => ?_)
  have hal : acc.toList.length = ks.length := by rw [Array.length_toList, hacc.1]; omega
  have I1 : Inv X pins σ H { s with heap := h', toks := tk } := I.kept hk
  refine wpAny_bind (wpAny_newList ?_ (by rw [hal]; omega))
  have hoL : (h'.push (seqObj "list" acc.toList.toArray 0)).get? h'.objs.size = some (seqObj "list" acc.toList.toArray 0) := Heap.get?_push_size _ rfl
  show wpAny _ _ _ _ _ { s with heap := h'.push (seqObj "list" acc.toList.toArray 0), toks := tk }
  obtain ⟨bs, b1, b2, b3⟩ := bs_of (H := H) kvs xs ks pr hks
  have ea : acc.toList = bs.map fun b => Value.ref b.2 := by
    have e0 : (bs.map fun b => Value.ref b.2) = xs.map fun x => Value.ref x.2.1 := by
      have e1 := congrArg (List.map Value.ref) b2
      rw [List.map_map, List.map_map] at e1
      exact e1
    rw [e0]
    apply List.ext_getElem?
    intro j
    rw [List.getElem?_map]
    cases hj : acc.toList[j]? with
    | none =>
      have h1 := List.getElem?_eq_none_iff.mp hj
      rw [List.getElem?_eq_none (by omega)]
      all_goals rfl
    | some v =>
      obtain ⟨en, hen, hv⟩ := hacc.2 j v (by rw [← Array.getElem?_toList]; exact hj)
      have qe := entry_at he j
      rw [hen] at qe
      cases hb : xs[j]? with
      | none =>
        rw [hb] at qe
        exact nomatch (show some en = none from qe)
      | some b =>
        rw [hb] at qe
        have e2 : en = entryOfKey (tupleKind (mixKind X.prog X.w)) b := Option.some.inj qe
        rw [hv, e2]
        all_goals rfl
  have lb : bs.length = ks.length := by rw [← b1, List.length_map]
  have each : PySem.W.EachIs (fun v (b : (Str × Int) × Addr) => v = .ref b.2 ∧ H b.2 = some (.tup [.str b.1.1, .int b.1.2])) acc.toList bs := by
    rw [ea]
    exact each_refs bs fun b hb => b3 b hb
  have rd : PySem.W.EachIs (fun v (b : (Str × Int) × Addr) => ∃ as, Reads (h'.push (seqObj "list" acc.toList.toArray 0)) v (encK b.1) as ∧ h'.objs.size ∉ as) acc.toList bs := by
    refine each.mono fun v b ⟨e1, e2⟩ => ?_
    obtain ⟨us, rv, ⟨o2, q1, q2, n2, q3⟩, _⟩ := I1.tuple (SqT.of e2)
    cases rv with
    | cons ra rb =>
      cases rb with
      | cons rb rc =>
        cases rc
        obtain ⟨t, rfl⟩ := ra
        obtain ⟨t2, rfl⟩ := rb
        rw [e1]
        exact ⟨_, .tuple (Heap.get?_push_of_some _ q1) q2 q3 (.cons (.str _ _) (.cons (.int _ _) .nil)), by simp⟩
  refine wpAny_bind (wpAny_holding (PySem.W.list_sort_data (enc := fun b : (Str × Int) × Addr => encK b.1) (s := { s with heap := h'.push (seqObj "list" acc.toList.toArray 0), toks := tk }) hoL each rd (PySem.W.AllAlike.of fun b c => rfl) (PySem.W.Sortable.tuples fun b => ⟨_, _, rfl⟩) (by omega) (fun b _ => ?_) fun out lo2 eo => ?_))
  · show X.A.units + 1 + 1 + (encK b.1).depth < cLine
    have : (encK b.1).depth ≤ 2 := by simp [encK, PyData.depth, PyData.depthAll]
    omega
  · obtain ⟨e', he'⟩ := PyProof.Rows.sortedHeap_at (vs := acc.toList) (out := out.toArray) hoL
    have em : (bs.mergeSort (PySem.W.dataLe false fun b : (Str × Int) × Addr => encK b.1)).map (·.1) = sortK ks := by
      rw [← b1]
      exact List.map_mergeSort fun _ _ _ _ => rfl
    generalize (bs.mergeSort (PySem.W.dataLe false fun b : (Str × Int) × Addr => encK b.1)) = cs at eo em
    obtain ⟨ts, rfl, pts⟩ := each_ts eo
    rw [em] at pts
    have hlen : (ts.map V.ref).length ≤ sizeLine := by
      rw [List.length_map] at lo2 ⊢
      omega
    refine wpAny_pure ⟨_, rfl, .ref h'.objs.size, upd H h'.objs.size (.lst (ts.map V.ref)), I1.laid (t' := tk) (fun b u e => ?_) (Nat.le_refl _)
      (show ObjOk X.prog X.w _ _ _ (.lst (ts.map V.ref)) from ⟨hlen, ts.map Value.ref, e', GL.vals_refs ts, he'⟩), rfl, q ts _ pts (I1.hok.fresh (Nat.le_refl _))⟩
    have hb : b < h'.objs.size := Heap.lt_size e
    rw [PyProof.Rows.sortedHeap_old (Nat.ne_of_lt hb) (by rw [size_push']; exact Nat.lt_succ_of_lt hb)]
    exact Heap.get?_push_of_some _ e
end
end K5
namespace K5
open PySem PySem.Spec PyProof.Rows L2
/-! ### a state -/
abbrev Outs := List (Int × Int)
abbrev StA := List ((Str × Int) × Outs)
def rowSt (m n : Nat) (ws : List Str) (acc : StA) : Option StA := match ws with
  | a :: b :: c :: d :: r => if c = "->" ∧ isDoor a = true ∧ wOf b m ≠ [] ∧ ∀ w ∈ wOf b m, (a, w) ∉ acc.map (·.1) then (outsOf m n (Txt.split (Txt.join " " (d :: r)) ", ") []).map fun os => acc ++ (wOf b m).map fun w => ((a, w), os) else none
  | _ => none
def stR (m n : Nat) : List Str → Nat → StA → Except Nat (Nat × StA)
  | [], at_, acc => .ok (at_, acc)
  | z :: rs, at_, acc => if rowWords z 1 = [] then .ok (at_, acc) else match rowSt m n (rowWords z 1) acc with
    | none => .error at_
    | some acc' => stR m n rs (at_ + 1) acc'
/-- all but the things of L is kept -/
def But (L : List Addr) (H H' : Hp) : Prop := ∀ b o, b ∉ L → H b = some o → H' b = some o
theorem But.of_same {L : List Addr} {H H' : Hp} (e : Same H H') : But L H H' := fun b o _ h => e b o h
theorem But.trans {L : List Addr} {H H1 H2 : Hp} (x : But L H H1) (y : But L H1 H2) : But L H H2 := fun b o n h => y b o n (x b o n h)
theorem But.mono {L L' : List Addr} {H H1 : Hp} (x : But L H H1) (h : ∀ b ∈ L, b ∈ L') : But L' H H1 := fun b o n e => x b o (fun c => n (h b c)) e
structure Tabs (P1 P2 : Addr) (H : Hp) : Prop where
  a : GxR.TabG H P1
  b : GxR.TabG H P2
theorem Tabs.same {P1 P2 : Addr} {H H' : Hp} (t : Tabs P1 P2 H) (e : Same H H') : Tabs P1 P2 H' := ⟨tab_same t.a e, tab_same t.b e⟩
def ErrT (L : List Addr) (P1 P2 C : Addr) (v : V) (H : Hp) (E : XK) : Prop := ∀ (d : Addr) (H' : Hp), But L H H' → Tabs P1 P2 H' → H' d = some (.xd [(("value" : Str), v)]) → E (.ref C) (some d) H'
theorem ErrT.of {L : List Addr} {P1 P2 C : Addr} {v : V} {H Hk : Hp} {E : XK} (h : ErrT L P1 P2 C v H E) (k : But L H Hk) (t : Tabs P1 P2 Hk) : ErrK C v Hk E := fun d H' s _ hd => h d H' (k.trans (But.of_same s)) (t.same s) hd
/-- the rows of a state stand on the ledger: the dict d -/
def rkv (acc : StA) (as : List Addr) : List (List Key × V) := (acc.zip as).map fun q => (keyV q.1.1, V.ref q.2)
/-- what a state is, as a tuple at p -/
def StAt (H : Hp) (p : Addr) (acc : StA) : Prop := ∃ (ts : List Addr) (bs : List ((Str × Int) × Addr)), H p = some (.tup (ts.map V.ref)) ∧ bs.map (·.1) = sortK (acc.map (·.1)) ∧ (∀ b ∈ bs, ∃ os, (b.1, os) ∈ acc ∧ OutsAt H b.2 os) ∧
  Paired (fun (t : Addr) (b : (Str × Int) × Addr) => H t = some (.tup [.str b.1.1, .int b.1.2, .ref b.2])) ts bs
def spState (CL CT P1 P2 : Addr) : Sp := fun vs H Q E => ∃ (l dx r : Addr) (rows : List Str) (at_ m n : Nat), vs = [.ref l, .int m, .non, .int n] ∧ LinesAt CL H l dx r rows at_ ∧ Sz rows ∧ m ≤ 4 ∧ Tabs P1 P2 H ∧ P1 ≠ P2 ∧
  match stR m n (rows.drop at_) at_ [] with
  | .error e => ErrT [l, P1, P2] P1 P2 CT (.int (e : Nat)) H E
  | .ok (at', acc) => ∀ (H' : Hp) (p : Addr), But [l, P1, P2] H H' → Tabs P1 P2 H' → LinesAt CL H' l dx r rows at' → StAt H' p acc → Q (.ref p) H'
abbrev s_read_state : Stmt := topS 32
theorem sc_read_state : FnScope ["lines", "worths", "doors", "many", "words", "called_with", "worth", "outcomes", "rows"] ["lines", "worths", "doors", "many"] (defScope s_read_state) := ⟨rfl, rfl, rfl, by decide +kernel, rfl, by decide +kernel, by decide +kernel⟩
theorem free_state : ∀ y ∈ ([(".0", .local), ("door", .local), ("worth", .local), ("rows", .free)] : List (Str × NameKind)), y.2 = .free → (defScope s_read_state).names.lookup y.1 = some .cell := by decide +kernel
abbrev ZA := List ((Str × Int) × Addr × Outs)
def zacc (zs : ZA) : StA := zs.map fun z => (z.1, z.2.2)
def tkv (zs : ZA) : List (List Key × V) := zs.map fun z => (keyV z.1, V.ref z.2.1)
theorem keyV_inj {a b : Str × Int} (e : keyV a = keyV b) : a = b := by
  unfold keyV at e
  injection e with e1 e2
  injection e2 with e2 _
  injection e1 with e1
  injection e2 with e2
  exact Prod.ext e1 e2
theorem zacc_keys (zs : ZA) : (zacc zs).map (·.1) = zs.map (·.1) := by
  unfold zacc
  rw [List.map_map]
  rfl
theorem tkv_some {zs : ZA} {k : Str × Int} : (valV (tkv zs) (keyV k)).isSome = decide (k ∈ zs.map (·.1)) := by
  induction zs with
  | nil => rfl
  | cons q r ih =>
    by_cases e : q.1 = k
    · have e2 : valV (tkv (q :: r)) (keyV k) = some (.ref q.2.1) := valV_pos (show keyV q.1 = keyV k by rw [e])
      rw [e2]
      exact (decide_eq_true (by rw [List.map_cons, e]; exact List.mem_cons_self ..)).symm
    · have e2 : valV (tkv (q :: r)) (keyV k) = valV (tkv r) (keyV k) := valV_neg (show ¬ keyV q.1 = keyV k from fun z => e (keyV_inj z))
      rw [e2, ih]
      exact decide_eq_decide.mpr ⟨fun h => List.mem_cons_of_mem _ h, fun h => (List.mem_cons.mp h).elim (fun z => absurd z.symm e) id⟩
theorem tkv_put {zs : ZA} {k : Str × Int} {p : Addr} {os : Outs} (h : k ∉ zs.map (·.1)) : putK (tkv zs) (keyV k) (.ref p) = tkv (zs ++ [(k, p, os)]) := by
  have e := tkv_some (zs := zs) (k := k)
  rw [decide_eq_false h] at e
  have e2 : valV (tkv zs) (keyV k) = none := by
    cases q : valV (tkv zs) (keyV k) with
    | none => rfl
    | some v =>
      rw [q] at e
      cases e
  rw [putK_new _ e2]
  unfold tkv
  rw [List.map_append]
  rfl
theorem tkv_get : ∀ {zs : ZA} {z : (Str × Int) × Addr × Outs}, (zs.map (·.1)).Nodup → z ∈ zs → valV (tkv zs) (keyV z.1) = some (.ref z.2.1)
  | q :: r, z, nd, h => by
    rw [List.map_cons, List.nodup_cons] at nd
    rcases List.mem_cons.mp h with e | e
    · subst e
      exact valV_pos rfl
    · have ne : q.1 ≠ z.1 := fun c => nd.1 (by rw [c]; exact List.mem_map_of_mem (f := (·.1)) e)
      exact (valV_neg (show ¬ keyV q.1 = keyV z.1 from fun c => ne (keyV_inj c))).trans (tkv_get nd.2 e)
theorem wOf_nodup {z : Str} {m : Nat} : (wOf z m).Nodup := by
  unfold wOf
  split
  · exact List.Pairwise.map Int.ofNat (fun a b h e => h (Int.ofNat.inj e)) List.nodup_range
  · split
    · exact List.nodup_cons.mpr ⟨List.not_mem_nil, List.nodup_nil⟩
    · exact List.nodup_nil
theorem wOf_len {z : Str} {m : Nat} (h : m ≤ 4) : (wOf z m).length ≤ 4 := by
  unfold wOf
  split
  · rw [List.length_map, List.length_range]
    exact h
  · split <;> simp
theorem stR_stop {m n : Nat} {rows : List Str} {at_ : Nat} {acc : StA} (h : wordsAt rows at_ 1 = []) : stR m n (rows.drop at_) at_ acc = .ok (at_, acc) := by
  unfold wordsAt at h
  cases q : rows[at_]? with
  | none =>
    rw [List.drop_eq_nil_of_le (List.getElem?_eq_none_iff.mp q)]
    rfl
  | some z =>
    rw [q] at h
    have h : rowWords z 1 = [] := h
    rw [drop_cons q]
    exact if_pos h
theorem stR_step {m n : Nat} {rows : List Str} {at_ : Nat} {acc : StA} (h : wordsAt rows at_ 1 ≠ []) : at_ < rows.length ∧ stR m n (rows.drop at_) at_ acc = match rowSt m n (wordsAt rows at_ 1) acc with
    | none => .error at_
    | some acc' => stR m n (rows.drop (at_ + 1)) (at_ + 1) acc' := by
  unfold wordsAt at h ⊢
  cases q : rows[at_]? with
  | none =>
    rw [q] at h
    exact absurd rfl h
  | some z =>
    rw [q] at h
    have h : rowWords z 1 ≠ [] := h
    refine ⟨(List.getElem?_eq_some_iff.mp q).1, ?_⟩
    rw [drop_cons q]
    exact if_neg h
theorem OutsAt.mono {H H' : Hp} {p : Addr} {os : Outs} (k : ∀ b xs, H b = some (.tup xs) → H' b = some (.tup xs)) (h : OutsAt H p os) : OutsAt H' p os := by
  obtain ⟨ks, ts, bs, h1, h2, h3, h4, h5, h6⟩ := h
  exact ⟨ks, ts, bs, k _ _ h1, h2, h3, h4, h5, Paired.mapP h6 fun t q e => k _ _ e⟩
theorem join_cons_len (y x : Str) (r : List Str) : (Str.join y r).length ≤ (Str.join y (x :: r)).length := by
  cases r with
  | nil => exact Nat.zero_le _
  | cons z r =>
    have e0 : (Str.join y (x :: z :: r)).length = x.length + y.length + (Str.join y (z :: r)).length := by
      show (x.cps ++ y.cps ++ (Str.join y (z :: r)).cps).size = _
      rw [Array.size_append, Array.size_append]
      rfl
    omega
theorem join_drop_len (y : Str) : ∀ (k : Nat) (ps : List Str), (Str.join y (ps.drop k)).length ≤ (Str.join y ps).length
  | 0, ps => Nat.le_refl _
  | k + 1, [] => Nat.le_refl _
  | k + 1, x :: r => Nat.le_trans (join_drop_len y k r) (join_cons_len y x r)
theorem sum_len (y : Str) : ∀ ps : List Str, (ps.map (·.length)).sum ≤ (Str.join y ps).length
  | [] => Nat.zero_le _
  | [x] => by
    show x.length + 0 ≤ x.length
    omega
  | x :: z :: r => by
    have e0 : (Str.join y (x :: z :: r)).length = x.length + y.length + (Str.join y (z :: r)).length := by
      show (x.cps ++ y.cps ++ (Str.join y (z :: r)).cps).size = _
      rw [Array.size_append, Array.size_append]
      rfl
    have ih := sum_len y (z :: r)
    rw [List.map_cons, List.sum_cons]
    omega
theorem words_join {rows : List Str} {n dp : Nat} (sz : Sz rows) : (Str.join " " (wordsAt rows n dp)).length ≤ 14000 := by
  unfold wordsAt
  cases e : rows[n]? with
  | none => exact Nat.zero_le _
  | some row =>
    have hr : row ∈ rows := List.mem_of_getElem? e
    have h1 : (Str.join " " (restWords row dp)).length ≤ 14000 := by
      unfold restWords
      rw [StrLaws.join_split]
      exact Nat.le_trans (cutS_length row (some ((margin dp).length : Int)) none) (sz.row _ hr)
    show (Str.join " " (rowWords row dp)).length ≤ 14000
    unfold rowWords cleanWords
    split
    · split
      · exact Nat.zero_le _
      · exact h1
    · exact Nat.zero_le _
theorem rowSt_len {m n : Nat} {ws : List Str} {acc : StA} (h : ¬ 3 < ws.length) : rowSt m n ws acc = none := by
  match ws, h with
  | [], _ => rfl
  | [_], _ => rfl
  | [_, _], _ => rfl
  | [_, _, _], _ => rfl
  | _ :: _ :: _ :: _ :: _, h => exact absurd (by simp) h
theorem four_of {ws : List Str} (h : 3 < ws.length) : ∃ a b c d r, ws = a :: b :: c :: d :: r := by
  match ws, h with
  | a :: b :: c :: d :: r, _ => exact ⟨a, b, c, d, r, rfl⟩
theorem pickZ {zs : ZA} : ∀ {ks : List (Str × Int)}, (∀ k ∈ ks, k ∈ zs.map (·.1)) → ∃ ys : ZA, ys.map (·.1) = ks ∧ ∀ z ∈ ys, z ∈ zs
  | [], _ => ⟨[], rfl, fun q h => nomatch h⟩
  | k :: r, h => by
    obtain ⟨z, hz, e⟩ := List.mem_map.mp (h k (List.mem_cons_self ..))
    obtain ⟨ys, e1, e2⟩ := pickZ (ks := r) fun a ha => h a (List.mem_cons_of_mem _ ha)
    refine ⟨z :: ys, by rw [List.map_cons, e1, e], fun q hq => ?_⟩
    rcases List.mem_cons.mp hq with c | c
    · rw [c]
      exact hz
    · exact e2 q c
theorem paired_map2 {α β γ δ : Type} {R : α → β → Prop} {S : α → γ → Prop} {f : δ → β} {g : δ → γ} (h : ∀ a z, R a (f z) → S a (g z)) : ∀ {l : List α} {m : List δ}, Paired R l (m.map f) → Paired S l (m.map g)
  | _, [], .nil => .nil
  | _, c :: r, .cons a t => .cons (h _ _ a) (paired_map2 h t)
theorem cut_from3 (a b c e : Str) (r : List Str) : cutV ((a :: b :: c :: e :: r).map V.str) (some 3) none = (e :: r).map V.str := by
  have h : 3 ≤ ((a :: b :: c :: e :: r).map V.str).length := by
    rw [List.length_map]
    show 3 ≤ r.length + 1 + 1 + 1 + 1
    omega
  unfold cutV
  rw [show HT.sIx ((a :: b :: c :: e :: r).map V.str).length 0 (some 3) = min 3 ((a :: b :: c :: e :: r).map V.str).length from HT.sIx_nat _ _ 3, HT.sIx_none, Nat.min_eq_left h, List.take_of_length_le]
  · rfl
  · rw [List.length_drop]
    exact Nat.le_refl _
end K5
namespace K5
open PySem PySem.Spec PyProof.Rows L2
structure DfT (K : PySem.W.Frag) (mg : Str → Option Value) (x : Str) (st : Stmt) (f : Addr) (fd : FuncData) (c : Addr) (ps : List Str) : Prop where
  F : FunT K x x st f fd c
  g : mg x = some (.ref f)
  b : Binds K fd ps []
structure EnS (P : Program) (w : World) (K : PySem.W.Frag) (mg : Str → Option Value) (base : Heap) (CL CT P1 P2 fWords fStep fNeed fDoor fWo fOu cOu : Addr) (dWords dStep dNeed dDoor dWo dOu : FuncData) : Prop where
  B : Bt mg
  ms : mg "sorted" = none
  L : ClL K CL
  Mw : Mf K CL "words" "Lines.words" s_Lines_words fWords dWords ["self", "depth"]
  Gw : FnOk P w K mg base CX0 1 fWords dWords ["self", "depth"] (spWords CL)
  Ms : Mf K CL "step" "Lines.step" s_Lines_step fStep dStep ["self"]
  Gs : FnOk P w K mg base CX0 1 fStep dStep ["self"] (spStep CL)
  Mn : Mf K CL "need" "Lines.need" s_Lines_need fNeed dNeed ["self", "right"]
  Gn : FnOk P w K mg base (L2.CX P w) 4 fNeed dNeed ["self", "right"] (spNeed K CL CT)
  Dd : Df K mg "is_door" s_is_door fDoor dDoor ["value"]
  Gd : FnOk P w K mg base CX0 2 fDoor dDoor ["value"] spIsDoor
  Do : Df K mg "worths_of" s_worths_of fWo dWo ["word", "worths"]
  Go : FnOk P w K mg base CX0 2 fWo dWo ["word", "worths"] (spList wOf)
  Du : DfT K mg "read_outcomes" s_read_outcomes fOu dOu cOu ["lines", "text", "worths", "many"]
  Gu : FnOk P w K mg base (L2.CX P w) 6 fOu dOu ["lines", "text", "worths", "many"] (spOuts CL CT P2)
/-- ahead of each turn -/
structure RS (CL P1 P2 : Addr) (H0 : Hp) (l dx r d : Addr) (rows : List Str) (m n : Nat) (R : Except Nat (Nat × StA)) (f : Nat) (σ : L2.St) (H : Hp) (at_ : Nat) (wp : Addr) (zs : ZA) : Prop where
  st : ∃ t5 t6 t7 : Option V, σ = [some (.ref l), some (.int m), some .non, some (.int n), some (.ref wp), t5, t6, t7, some (.ref d)]
  fn : f + at_ = rows.length
  li : LinesAt CL H l dx r rows at_
  wp : H wp = some (.lst ((wordsAt rows at_ 1).map V.str))
  hd : H d = some (.dT (tkv zs))
  but : But [l, P1, P2] H0 H
  tab : Tabs P1 P2 H
  ok : ∀ z ∈ zs, OutsAt H z.2.1 z.2.2
  nd : (zs.map (·.1)).Nodup
  ln : zs.length ≤ 4 * at_
  sp : stR m n (rows.drop at_) at_ (zacc zs) = R
section
variable {P : Program} {w : World} {K : PySem.W.Frag} {mg : Str → Option Value} {base : Heap} {CL CT P1 P2 fWords fStep fNeed fDoor fWo fOu cOu : Addr} {dWords dStep dNeed dDoor dWo dOu : FuncData}
theorem ok_read_state {f c : Addr} {fd : FuncData} (N : EnS P w K mg base CL CT P1 P2 fWords fStep fNeed fDoor fWo fOu cOu dWords dStep dNeed dDoor dWo dOu) (F : FunT K "read_state" "read_state" s_read_state f fd c) (TB : GxR.TabB base mg c P1) :
    FnOk P w K mg base (L2.CX P w) 7 f fd ["lines", "worths", "doors", "many"] (spState CL CT P1 P2) := by
  refine F.okC sc_read_state (fun vs H Q E h => ?_) (fun A outer s H vs Q E hr h => ?_)
  · obtain ⟨l, dx, r, rows, at_, m, n, rfl, _⟩ := h
    rfl
  · obtain ⟨l, dx, r, rows, at_, m, n, rfl, hl, sz, m4, tab, pne, k⟩ := h
    have S := sc_read_state
    refine ⟨_, (pss_cons (ps_set (i := 8) S.nd rfl (.inr rfl) pe_dnewT)
      (pss_cons (ps_set (i := 4) S.nd rfl (.inr rfl) (pe_meth (pv 0) N.L.cl N.Mw.m N.Gw (hr.mono (by decide)) N.Mw.b .nil pass0 (pa_cons pe_int pa_nil)))
      (pss_cons (ps_while (passes_of rfl) (pt_truth (pv 4) (by intro _; rfl))
        (pss_cons (ps_expr (pe_meth (pv 0) N.L.cl N.Mn.m N.Gn (hr.mono (by decide)) N.Mn.b .nil (pxp rfl rfl rfl rfl) (pa_cons (pe_and (pe_cmpR op_gt (pe_callB call_len_seq (by rfl) N.B.m_len PySem.boot_len (pa_cons (pv 4) pa_nil)) pe_int (nomark _)) (pe_and (pe_cmpR op_eq (pe_ix ix_list (pv 4) pe_int (fun _ _ => rfl)) pe_str (nomark _)) (pe_one (pe_call N.Gd (hr.mono (by decide)) (by rfl) N.Dd.g N.Dd.F.kp N.Dd.b .nil pass0 (pa_cons (pe_ix ix_list (pv 4) pe_int (fun _ _ => rfl)) pa_nil))))) pa_nil)))
        (pss_cons (ps_expr (pe_meth (pv 0) N.L.cl N.Mn.m N.Gn (hr.mono (by decide)) N.Mn.b .nil (pxp rfl rfl rfl rfl) (pa_cons (pe_or (pe_cmpR op_isN1 (pv 2) pe_non (nomark _)) (pe_one (pe_cmpR op_in_seq (pe_ix ix_list (pv 4) pe_int (fun _ _ => rfl)) (pv 2) (by rfl)))) pa_nil)))
        (pss_cons (ps_set (i := 5) S.nd rfl (.inl rfl) (pe_call N.Go (hr.mono (by decide)) (by rfl) N.Do.g N.Do.F.kp N.Do.b .nil pass0 (pa_cons (pe_ix ix_list (pv 4) pe_int (fun _ _ => rfl)) (pa_cons (pv 1) pa_nil))))
        (pss_cons (ps_expr (pe_meth (pv 0) N.L.cl N.Mn.m N.Gn (hr.mono (by decide)) N.Mn.b .nil (pxp rfl rfl rfl rfl) (pa_cons (pe_andT (pv 5) (pe_one (pe_notT (pe_lc (own := [("worth", 6)]) (g := gName 6) rfl S.nd (pi_list (pv 5)) (blkOk_by (own := [("worth", 6)]) (N := ["lines", "worths", "doors", "many", "words", "called_with", "worth", "outcomes", "rows"]) (sc := defScope s_read_state) (by decide +kernel)) (fun _ _ _ _ _ => pg_name (i := 6) S.nd rfl (Or.inl rfl)) (fun _ _ _ _ _ => pts_one (pt_cmp (pc_din (hu_of hr) (pe_tup (pa_cons (pe_ix (r := rIxL K) ix_list (pv 4) pe_int (fun _ _ => rfl)) (pa_cons (pv 6) pa_nil))) (pv 8)))) (fun _ _ _ _ _ => pv 6))))) pa_nil)))
        (pss_cons (ps_set (i := 7) S.nd rfl (.inl rfl) (pe_call N.Gu (hr.mono (by decide)) (by rfl) N.Du.g N.Du.F.kp N.Du.b .nil (pxp rfl rfl rfl rfl) (pa_cons (pv 0) (pa_cons (pe_bm PySem.F.plainAttrs_str PySem.F.slot_str_join PySem.F.type_str_join mt_join pe_str (pa_cons (pe_slice sl_list (pv 4) (po_some pe_int) po_none) pa_nil)) (pa_cons (pv 1) (pa_cons (pv 3) pa_nil))))))
        (pss_cons (ps_for (passes_of rfl) rfl (pi_list (pv 5)) (pg_name (i := 6) S.nd rfl (.inl rfl))
          (pss_one (ps_dput (hu_of hr) (pv 8) (pe_tup (pa_cons (pe_ix ix_list (pv 4) pe_int (fun _ _ => rfl)) (pa_cons (pv 6) pa_nil))) (pv 7) rfl)))
        (pss_cons (ps_expr (pe_meth0 (pv 0) N.L.cl N.Ms.m N.Gs (hr.mono (by decide)) N.Ms.b .nil pass0))
        (pss_one (ps_set (i := 4) S.nd rfl (.inr rfl) (pe_meth (pv 0) N.L.cl N.Mw.m N.Gw (hr.mono (by decide)) N.Mw.b .nil pass0 (pa_cons pe_int pa_nil))))))))))))
      (pss_one (ps_ret (GL.pe_tupNew (Pr := GL.PrT 8) hr TB rfl rfl rfl (by decide +kernel) rfl free_state (pe_callB (call_sortedDT rfl hr.units) (by rfl) N.ms (by decide +kernel) (pa_cons (pv 8) pa_nil))
        (fun pins σ us rows H1 h t => GL.prov_pair (i := 8) rfl rfl rfl (by decide +kernel) (by decide +kernel) rfl free_state rfl (by decide +kernel) (by decide +kernel) (by decide +kernel) (by decide +kernel) h t) rfl (by rfl) N.B.m_tuple)))))), ?_⟩
    have lt4 : ∀ H' : Hp, Same H H' → Tabs P1 P2 H' := fun H' e => tab.same e
    dsimp only [tSeq, tAsg]
    intro d nd
    have H1d : (upd H d (.dT [])) d = some (.dT []) := upd_same
    have s1 : Same H (upd H d (.dT [])) := same_upd nd
    generalize (upd H d (.dT [])) = H1 at H1d s1 ⊢
    dsimp only [gName]
    have li1 := hl.mono s1
    have hle := hl.le
    refine meth_run (val_var rfl) li1.o (lf_no (by decide +kernel) (by decide +kernel)) ?_
    refine val_c _ ⟨l, dx, r, rows, at_, 1, rfl, li1, sz, by decide, fun H2 wp s2 nw hwp => ?_⟩
    have s02 := s1.trans s2
    have H2d := s2 _ _ H1d
    dsimp only [tNext]
    refine ⟨fun f σ' H' => ∃ at' wp zs, RS CL P1 P2 H l dx r d rows m n (stR m n (rows.drop at_) at_ []) f σ' H' at' wp zs, ⟨rows.length - at_, at_, wp, [], ⟨_, _, _, rfl⟩, by omega, hl.mono s02, hwp, H2d, But.of_same s02, tab.same s02, fun z h => (nomatch h), List.nodup_nil, Nat.zero_le _, rfl⟩, fun f σ' H' h => ?_⟩
    clear H2d hwp s02 nw s2 li1 H1d s1
    clear H2 wp H1
    obtain ⟨at', wp, zs, ⟨t5, t6, t7, rfl⟩, fn, li, hwp, hd, but, tb, oks, ndz, ln, sp⟩ := h
    refine (val_var rfl) _ ⟨_, truL (SqL.of hwp), ?_⟩
    by_cases ew : wordsAt rows at' 1 = []
    · rw [ew]
      refine iteF ?_
      rw [stR_stop ew] at sp
      rw [← sp] at k
      have k : ∀ (H' : Hp) (p : Addr), But [l, P1, P2] H H' → Tabs P1 P2 H' → LinesAt CL H' l dx r rows at' → StAt H' p (zacc zs) → Q (.ref p) H' := k
      dsimp only [tRet, GL.tTupNew]
      refine (val_var rfl) _ ⟨d, tkv zs, zs.map (·.1), rfl, hd, by unfold tkv; rw [List.map_map, List.map_map]; rfl, fun ts p pts np => ?_⟩
      obtain ⟨ys, y1, y2⟩ := pickZ (zs := zs) (ks := sortK (zs.map (·.1))) fun k hk => by unfold sortK at hk; exact List.mem_mergeSort.mp hk
      have s6 := same_upd (o := .lst (ts.map V.ref)) np
      have hp6 : (upd H' p (.lst (ts.map V.ref))) p = some (.lst (ts.map V.ref)) := upd_same
      generalize (upd H' p (.lst (ts.map V.ref))) = H6 at s6 hp6 ⊢
      have l1 : ts.length = ys.length := by
        have e1 : ts.length = _ := Paired.length pts
        have e2 := congrArg List.length y1
        rw [List.length_map] at e2
        omega
      have l2 : ys.length = zs.length := by
        have e2 := congrArg List.length y1
        unfold sortK at e2
        rw [List.length_map, List.length_mergeSort, List.length_map] at e2
        exact e2
      have few : zs.length ≤ 56004 := by
        have := li.le
        have := sz.len
        omega
      refine ⟨p, ts.map V.ref, ys.map fun z => [V.str z.1.1, V.int z.1.2, V.ref z.2.1], rfl, hp6, by rw [List.length_map]; omega, tab_same tb.a s6, ⟨d, tkv zs, ts, ys.map fun z => (Sum.inr z.1.1, Sum.inl z.1.2), rfl, s6 _ _ hd, rfl, ?_, fun j kk e => ?_⟩, by rw [List.length_map, List.length_map, l1], fun r hr => ?_, fun H7 H8 p3 ts3 tb7 sm8 prs hp3 => ?_⟩
      · rw [← y1] at pts
        exact paired_map2 (f := fun z : (Str × Int) × Addr × Outs => z.1) (g := fun z : (Str × Int) × Addr × Outs => ((Sum.inr z.1.1, Sum.inl z.1.2) : Key × Key)) (R := fun (t : Addr) (k : Str × Int) => H' t = some (.tup [.str k.1, .int k.2])) (S := fun (t : Addr) (k : Key × Key) => H6 t = some (.tup [kV k.1, kV k.2])) (fun t z e => s6 _ _ e) pts
      · rw [List.getElem?_map] at e ⊢
        cases q : ys[j]? with
        | none => rw [q] at e; cases e
        | some z =>
          rw [q] at e
          obtain rfl : ((Sum.inr z.1.1, Sum.inl z.1.2) : Key × Key) = kk := Option.some.inj e
          exact ⟨.ref z.2.1, tkv_get ndz (y2 z (List.mem_of_getElem? q)), rfl⟩
      · obtain ⟨q, _, rfl⟩ := List.mem_map.mp hr
        exact (by decide : 3 ≤ 10)
      · have b7 : But [P1] H' H8 := fun b o n e => sm8 b o (by rw [tb7.2 b (fun c => n (by rw [c]; exact List.mem_singleton.mpr rfl))]; exact s6 b o e)
        have p2n : P2 ∉ [P1] := fun c => pne (List.mem_singleton.mp c).symm
        have tup : ∀ b xs, H' b = some (.tup xs) → H8 b = some (.tup xs) := fun b xs e => b7 b _ (fun c => by
          obtain ⟨ps, h1, _⟩ := tb.a
          rw [List.mem_singleton.mp c, h1] at e
          cases e) e
        have lne : l ∉ [P1] := fun c => by
          obtain ⟨ps, h1, _⟩ := tb.a
          rw [← List.mem_singleton.mp c, li.o] at h1
          cases h1
        have rne : r ∉ [P1] := fun c => by
          obtain ⟨ps, h1, _⟩ := tb.a
          rw [← List.mem_singleton.mp c, li.r] at h1
          cases h1
        refine k H8 p3 (but.trans (b7.mono fun b hb => by rw [List.mem_singleton.mp hb]; simp)) ⟨tab_same tb7.1 sm8, let ⟨ps, h1, h2⟩ := tb.b; ⟨ps, b7 _ _ p2n h1, h2⟩⟩ ⟨b7 _ _ lne li.o, b7 _ _ rne li.r, li.le⟩ ⟨ts3, ys.map fun z => (z.1, z.2.1), hp3, by rw [List.map_map, zacc_keys, ← y1]; rfl, fun b hb => ?_, ?_⟩
        · obtain ⟨z, hz, rfl⟩ := List.mem_map.mp hb
          exact ⟨z.2.2, List.mem_map_of_mem (f := fun z : (Str × Int) × Addr × Outs => (z.1, z.2.2)) (y2 z hz), (oks z (y2 z hz)).mono tup⟩
        · exact paired_map2 (f := fun z : (Str × Int) × Addr × Outs => [V.str z.1.1, V.int z.1.2, V.ref z.2.1]) (g := fun z : (Str × Int) × Addr × Outs => (z.1, z.2.1)) (R := fun (t : Addr) (r : List V) => H8 t = some (.tup r)) (S := fun (t : Addr) (b : (Str × Int) × Addr) => H8 t = some (.tup [.str b.1.1, .int b.1.2, .ref b.2])) (fun t z e => e) prs
    · obtain ⟨hat, step⟩ := stR_step (m := m) (n := n) (acc := zacc zs) ew
      rw [step] at sp
      have ne : (!((wordsAt rows at' 1).map V.str).isEmpty) = true := by
        cases q : wordsAt rows at' 1 with
        | nil => exact absurd q ew
        | cons _ _ => rfl
      rw [ne]
      cases f with
      | zero => omega
      | succ f =>
      refine iteT ⟨fun σ' H' => ∃ at' wp zs, RS CL P1 P2 H l dx r d rows m n (stR m n (rows.drop at_) at_ []) f σ' H' at' wp zs, fun σ' H' h => ⟨f, Nat.lt_succ_self f, h⟩, ?_⟩
      have wz := words_ok (n := at') (dp := 1) sz
      have wj := words_join (n := at') (dp := 1) sz
      have wm := words_many (n := at') (dp := 1) sz
      have bad : rowSt m n (wordsAt rows at' 1) (zacc zs) = none → ∀ H', But [l, P1, P2] H H' → Tabs P1 P2 H' → ErrK CT (.int (at' : Nat)) H' E := fun e H' b t => by
        rw [e] at sp
        have sp : Except.error at' = stR m n (rows.drop at_) at_ [] := sp
        rw [← sp] at k
        exact ErrT.of k b t
      generalize wordsAt rows at' 1 = ws at hwp ew wz wj wm bad sp ne
      have hS : SqL K H' wp (ws.map V.str) := SqL.of hwp
      dsimp only [tSeq, tDrop]
      refine meth_run (val_var rfl) li.o (lf_no (by decide +kernel) (by decide +kernel)) ?_
      dsimp only [tCons, tNil, tAndV]
      refine (val_op (val_lenL (val_var rfl) hS) val_c fun Q q => ⟨_, _, rfl, rfl, q⟩) _ ⟨_, rfl, ?_⟩
      by_cases c3 : 3 < ws.length
      · obtain ⟨a, b, c, e, rest, rfl⟩ := four_of c3
        have e0 : decide ((3 : Int) < (((a :: b :: c :: e :: rest).map V.str).length : Int)) = true := decide_eq_true (by rw [List.length_map]; omega)
        rw [e0]
        refine iteT ?_
        have alen : a.length ≤ 10000000 := by
          have := (wz a (List.mem_cons_self ..)).2
          omega
        have blen : b.length ≤ 10000000 := by
          have := (wz b (List.mem_cons_of_mem _ (List.mem_cons_self ..))).2
          omega
        have zlen : (Txt.join " " (e :: rest)).length ≤ 14000 := by
          rw [TL.join_eq]
          exact Nat.le_trans (join_drop_len " " 3 (a :: b :: c :: e :: rest)) wj
        have zsum : ((e :: rest).map (·.length)).sum + (e :: rest).length * (" " : Str).length ≤ 16777216 := by
          have h1 := sum_len " " (e :: rest)
          have h2 : (Str.join " " (e :: rest)).length ≤ 14000 := by
            rw [← TL.join_eq]
            exact zlen
          have h3 : (e :: rest).length ≤ 14001 := by
            have e3 : (a :: b :: c :: e :: rest).length = (e :: rest).length + 3 := rfl
            omega
          rw [show (" " : Str).length = 1 by decide +kernel]
          omega
        have hrow : rowSt m n (a :: b :: c :: e :: rest) (zacc zs) = if c = "->" ∧ isDoor a = true ∧ wOf b m ≠ [] ∧ ∀ w ∈ wOf b m, (a, w) ∉ (zacc zs).map (·.1) then (outsOf m n (Txt.split (Txt.join " " (e :: rest)) ", ") []).map fun os => zacc zs ++ (wOf b m).map fun w => ((a, w), os) else none := rfl
        rw [zacc_keys] at hrow
        rw [hrow] at bad sp
        refine (val_op (val_ixL (val_var rfl) val_c hS (atI_nat (j := 2) rfl)) val_c fun Q q => ⟨rfl, q⟩) _ ⟨_, rfl, ?_⟩
        by_cases cc : c = "->"
        · rw [decide_eq_true (by rw [cc])]
          refine iteT ?_
          refine (val_call (v := .bl (isDoor a)) (va_cons (val_ixL (val_var rfl) val_c hS (atI_nat (j := 0) rfl)) va_nil) fun Q q => ⟨a, rfl, alen, q⟩) _ ?_
          refine ⟨l, dx, r, rows, at', _, _, rfl, li, rfl, fun ed => ?_, fun ed => bad (if_neg fun h => by rw [h.2.1] at ed; cases ed) _ but tb⟩
          dsimp only [tNext, tSeq, tDrop]
          refine meth_run (val_var rfl) li.o (lf_no (by decide +kernel) (by decide +kernel)) ?_
          dsimp only [tCons, tNil, tOrV]
          refine (val_op (z := .bl true) (val_var rfl) val_c fun Q q => ⟨rfl, q⟩) _ ⟨true, rfl, iteT ?_⟩
          refine ⟨l, dx, r, rows, at', _, true, rfl, li, rfl, fun _ => ?_, (fun e => nomatch e)⟩
          dsimp only [tNext, tSeq, tAsg]
          dsimp only [tCall, tCons, tNil]
          refine (val_ixL (val_var rfl) val_c hS (atI_nat (j := 1) rfl)) _ ((val_var rfl) _ ⟨b, m, rfl, m4, blen, fun H4 pc s4 npc hpc => ?_⟩)
          have hwp4 := s4 _ _ hwp
          have hd4 := s4 _ _ hd
          have li4 := li.mono s4
          have but4 := but.trans (But.of_same s4)
          have tb4 := tb.same s4
          have ok4 : ∀ z ∈ zs, OutsAt H4 z.2.1 z.2.2 := fun z hz => (oks z hz).mono fun b xs e => s4 _ _ e
          clear hS hwp hd li but tb oks s4
          dsimp only [gName, tDrop]
          refine meth_run (val_var rfl) li4.o (lf_no (by decide +kernel) (by decide +kernel)) ?_
          dsimp only [tCons, tNil, tAndT]
          refine (val_var rfl) _ ⟨_, truL (SqL.of hpc), ?_⟩
          by_cases ea : wOf b m = []
          · rw [ea] at hpc
            rw [ea]
            refine iteF ?_
            exact ⟨l, dx, r, rows, at', _, false, rfl, li4, truL (SqL.of hpc), (fun e => nomatch e), fun _ => bad (if_neg fun h => h.2.2.1 ea) _ but4 tb4⟩
          · have nw : (!((wOf b m).map V.int).isEmpty) = true := by
              cases q : wOf b m with
              | nil => exact absurd q ea
              | cons _ _ => rfl
            rw [nw]
            refine iteT ?_
            dsimp only [tNotT, tLc, iList]
            refine (val_var rfl) _ ⟨pc, rfl, ⟨_, SqL.of hpc⟩, fun D nD => lc_list (K := K) (a := pc) (xs := (wOf b m).map V.int) (fun i H' => Same H4 H' ∧ ∃ xs, H' D = some (.lst xs) ∧ xs.length ≤ i ∧ (xs = [] ↔ ∀ w ∈ (wOf b m).take i, (a, w) ∉ zs.map (·.1))) ?_ ?_ ?_ ?_⟩
            · exact ⟨same_upd nD, [], upd_same, Nat.zero_le _, ⟨fun _ w hw => (nomatch hw), fun _ => rfl⟩⟩
            · rintro i H5 _ ⟨s5, _⟩
              exact SqL.of (s5 _ _ hpc)
            · rintro i x H5 ex ⟨s5, xs, hD, lx, iff⟩
              obtain ⟨w, ej, rfl⟩ : ∃ w, (wOf b m)[i]? = some w ∧ x = .int w := by
                rw [List.getElem?_map] at ex
                cases q : (wOf b m)[i]? with
                | none => rw [q] at ex; cases ex
                | some w => rw [q] at ex; exact ⟨w, rfl, (Option.some.inj ex).symm⟩
              have tk : (wOf b m).take (i + 1) = (wOf b m).take i ++ [w] := by
                rw [List.take_succ, ej]
                rfl
              have ilt : i < 14000 := by
                have := wOf_len (z := b) m4
                have := (List.getElem?_eq_some_iff.mp ej).1
                omega
              dsimp only [gName]
              refine ⟨rfl, ?_⟩
              dsimp only [tB, tDIn, tTup, tCons, tNil]
              refine (val_ixL (val_var rfl) val_c (SqL.of (s5 _ _ hwp4)) (atI_nat (j := 0) rfl)) _ ((val_var rfl) _ ⟨by show 2 ≤ sizeLine; decide, fun q nq => ?_⟩)
              have s6 := same_upd (o := .tup [.str a, .int w]) nq
              have hq : (upd H5 q (.tup [.str a, .int w])) q = some (.tup [.str a, .int w]) := upd_same
              generalize (upd H5 q (.tup [.str a, .int w])) = H6 at s6 hq ⊢
              have s46 := s5.trans s6
              refine (val_var rfl) _ ⟨d, _, rfl, DGet.t (k := keyV (a, w)) (s46 _ _ hd4) hq, ⟨_, rfl, ?_⟩⟩
              rw [tkv_some]
              by_cases mem : (a, w) ∈ zs.map (·.1)
              · rw [decide_eq_true mem]
                refine iteT ?_
                refine (val_var rfl) _ ⟨xs, s6 _ _ hD, Nat.lt_of_le_of_lt lx (Nat.lt_of_lt_of_le ilt (by decide)), fun b o e => ?_, xs ++ [.int w], upd_same, by rw [List.length_append]; exact Nat.succ_le_succ lx, ⟨fun h => absurd h (by simp), fun h => ?_⟩⟩
                · rw [upd_ne (ne_of_none e nD)]
                  exact s46 b o e
                · exact absurd mem (h w (by rw [tk]; exact List.mem_append_right _ (List.mem_singleton.mpr rfl)))
              · rw [decide_eq_false mem]
                refine iteF ⟨s46, xs, s6 _ _ hD, Nat.le_succ_of_le lx, iff.trans ⟨fun h w' hw' => ?_, fun h w' hw' => h w' (by rw [tk]; exact List.mem_append_left _ hw')⟩⟩
                rw [tk] at hw'
                rcases List.mem_append.mp hw' with hw' | hw'
                · exact h w' hw'
                · rw [List.mem_singleton.mp hw']
                  exact mem
            · rintro H5 ⟨s5, xs, hD, lx, iff⟩
              rw [List.length_map, List.take_length] at iff
              refine ⟨_, truL (SqL.of hD), ?_⟩
              have li5 := li4.mono s5
              refine ⟨l, dx, r, rows, at', _, _, rfl, li5, rfl, fun ex => ?_, fun ex => bad (if_neg fun h => ?_) _ (but4.trans (But.of_same s5)) (tb4.same s5)⟩
              · have x0 : xs = [] := by
                  cases xs with
                  | nil => rfl
                  | cons _ _ => cases ex
                have new := iff.mp x0
                have oks : c = "->" ∧ isDoor a = true ∧ wOf b m ≠ [] ∧ ∀ w ∈ wOf b m, (a, w) ∉ zs.map (·.1) := ⟨cc, ed, ea, new⟩
                rw [if_pos oks] at bad sp
                have hwp5 := s5 _ _ hwp4
                have hd5 := s5 _ _ hd4
                have hpc5 := s5 _ _ hpc
                have but5 := but4.trans (But.of_same s5)
                have tb5 := tb4.same s5
                have ok5 : ∀ z ∈ zs, OutsAt H5 z.2.1 z.2.2 := fun z hz => (ok4 z hz).mono fun b xs e => s5 _ _ e
                clear hwp4 hd4 hpc but4 tb4 ok4 li4 s5 iff x0 hD lx nD
                dsimp only [tNext, tSeq, tAsg]
                dsimp only [tCall, tCons, tNil]
                refine (val_var rfl) _ ?_
                refine bm_run (x := .str " ") val_c rfl ?_
                dsimp only [tSl, tPart, tNoPart, tCons, tNil]
                refine (val_var rfl) _ (val_c _ ⟨3, rfl, wp, _, rfl, SqL.of hwp5, fun q nq => ?_⟩)
                have ecut : cutV ((a :: b :: c :: e :: rest).map V.str) (some 3) none = (e :: rest).map V.str := cut_from3 a b c e rest
                rw [ecut]
                have s6 := same_upd (o := .lst ((e :: rest).map V.str)) nq
                have hq : (upd H5 q (.lst ((e :: rest).map V.str))) q = some (.lst ((e :: rest).map V.str)) := upd_same
                generalize (upd H5 q (.lst ((e :: rest).map V.str))) = H6 at s6 hq ⊢
                refine ⟨" ", q, e :: rest, rfl, rfl, .inl (SqL.of hq), zsum, ?_⟩
                refine (val_var rfl) _ ((val_var rfl) _ ?_)
                refine ⟨l, dx, r, rows, at', Txt.join " " (e :: rest), m, n, rfl, li5.mono s6, m4, zlen, tab_same tb5.b s6, ?_⟩
                have li6 := li5.mono s6
                have hwp6 := s6 _ _ hwp5
                have hd6 := s6 _ _ hd5
                have hpc6 := s6 _ _ hpc5
                have but6 := but5.trans (But.of_same s6)
                have tb6 := tb5.same s6
                have ok6 : ∀ z ∈ zs, OutsAt H6 z.2.1 z.2.2 := fun z hz => (ok5 z hz).mono fun b xs e => s6 _ _ e
                clear hwp5 hd5 hpc5 but5 tb5 ok5 li5 s6 hq nq
                cases ho : outsOf m n (Txt.split (Txt.join " " (e :: rest)) ", ") [] with
                | none =>
                  exact bad (by rw [ho]; rfl) _ but6 tb6
                | some os =>
                  rw [ho] at sp
                  show ∀ (H' : Hp) (p : Addr), ButP P2 H6 H' → GxR.TabG H' P2 → OutsAt H' p os → _
                  intro H7 p7 b7 t7 oa
                  obtain ⟨ps2, hP2, _⟩ := tb6.b
                  have nP2 : ∀ b o, H6 b = some o → (∀ ps, o ≠ .tbl ps) → H7 b = some o := fun b o e no => b7 b o (fun c => by
                    rw [c, hP2] at e
                    exact no ps2 (Option.some.inj e).symm) e
                  have li7 : LinesAt CL H7 l dx r rows at' := ⟨nP2 _ _ li6.o fun _ c => (nomatch c), nP2 _ _ li6.r fun _ c => (nomatch c), li6.le⟩
                  have hwp7 := nP2 _ _ hwp6 fun _ c => (nomatch c)
                  have hd7 := nP2 _ _ hd6 fun _ c => (nomatch c)
                  have hpc7 := nP2 _ _ hpc6 fun _ c => (nomatch c)
                  have tb7 : Tabs P1 P2 H7 := ⟨let ⟨ps, h1, h2⟩ := tb6.a; ⟨ps, b7 _ _ pne h1, h2⟩, t7⟩
                  have but7 : But [l, P1, P2] H H7 := but6.trans fun b o n e => b7 b o (fun c => n (by rw [c]; simp)) e
                  have ok7 : ∀ z ∈ zs, OutsAt H7 z.2.1 z.2.2 := fun z hz => (ok6 z hz).mono fun b xs e => nP2 _ _ e fun _ c => (nomatch c)
                  clear nP2 hP2 li6 hwp6 hd6 hpc6 tb6 but6 ok6 b7 t7
                  have dl : d ≠ l := fun c => by
                    rw [c, hl.o] at nd
                    cases nd
                  have dP1 : P1 ≠ d := fun c => by
                    obtain ⟨ps, h1, _⟩ := tab.a
                    rw [c, nd] at h1
                    cases h1
                  have dP2 : P2 ≠ d := fun c => by
                    obtain ⟨ps, h1, _⟩ := tab.b
                    rw [c, nd] at h1
                    cases h1
                  dsimp only [gName, tNext, tSeq]
                  unfold tFor iList
                  refine (val_var rfl) _ ⟨pc, rfl, ⟨_, SqL.of hpc7⟩, for_list (K := K) (a := pc) (xs := (wOf b m).map V.int) (fun i σ' H' => ∃ t6 : Option V, σ' = [some (.ref l), some (.int m), some .non, some (.int n), some (.ref wp), some (.ref pc), t6, some (.ref p7), some (.ref d)] ∧ SameBut d H7 H' ∧
                    H' d = some (.dT (tkv (zs ++ ((wOf b m).take i).map fun w => ((a, w), p7, os))))) ?_ ?_ ?_ ?_⟩
                  · refine ⟨_, rfl, fun b o _ e => e, ?_⟩
                    rw [List.take_zero, List.map_nil, List.append_nil]
                    exact hd7
                  · rintro i σ' H8 _ ⟨_, _, sb, _⟩
                    exact SqL.of (sb _ _ (ne_of hpc7 hd7 fun c => nomatch c) hpc7)
                  · rintro i x σ' H8 ex ⟨t6, rfl, sb, hd8⟩
                    obtain ⟨w, ej, rfl⟩ : ∃ w, (wOf b m)[i]? = some w ∧ x = .int w := by
                      rw [List.getElem?_map] at ex
                      cases q : (wOf b m)[i]? with
                      | none => rw [q] at ex; cases ex
                      | some w => rw [q] at ex; exact ⟨w, rfl, (Option.some.inj ex).symm⟩
                    have tk : (wOf b m).take (i + 1) = (wOf b m).take i ++ [w] := by
                      rw [List.take_succ, ej]
                      rfl
                    dsimp only [gName, sDPut]
                    refine (val_var rfl) _ ((val_var rfl) _ ?_)
                    dsimp only [tTup, tCons, tNil]
                    refine (val_ixL (val_var rfl) val_c (SqL.of (sb _ _ (ne_of hwp7 hd7 fun c => nomatch c) hwp7)) (atI_nat (j := 0) rfl)) _ ((val_var rfl) _ ⟨by show 2 ≤ sizeLine; decide, fun q nq => ?_⟩)
                    have s9 := same_upd (o := .tup [.str a, .int w]) nq
                    have hq : (upd H8 q (.tup [.str a, .int w])) q = some (.tup [.str a, .int w]) := upd_same
                    generalize (upd H8 q (.tup [.str a, .int w])) = H9 at s9 hq ⊢
                    have nin : (a, w) ∉ (zs ++ ((wOf b m).take i).map fun w => ((a, w), p7, os)).map (·.1) := fun hm => by
                      rw [List.map_append, List.map_map] at hm
                      rcases List.mem_append.mp hm with hm | hm
                      · exact new w (List.mem_of_getElem? ej) hm
                      · obtain ⟨w', hw', e'⟩ := List.mem_map.mp hm
                        have e' : (a, w') = (a, w) := e'
                        injection e' with _ e'
                        subst e'
                        have nd2 := wOf_nodup (z := b) (m := m)
                        rw [← List.take_append_drop i (wOf b m), drop_cons ej, List.nodup_append] at nd2
                        exact nd2.2.2 w' hw' w' (List.mem_cons_self ..) rfl
                    have few : (tkv (zs ++ ((wOf b m).take i).map fun w => ((a, w), p7, os))).length < sizeLine := by
                      have h1 := wOf_len (z := b) m4
                      have h2 : ((wOf b m).take i).length ≤ (wOf b m).length := by
                        rw [List.length_take]
                        exact Nat.min_le_right ..
                      have h3 := sz.len
                      unfold tkv
                      rw [List.length_map, List.length_append, List.length_map]
                      exact Nat.lt_of_le_of_lt (show _ ≤ 60000 by omega) (by decide)
                    refine ⟨d, _, rfl, DPut.t (k := keyV (a, w)) (s9 _ _ hd8) hq few, ?_⟩
                    rw [tkv_put (os := os) nin]
                    refine ⟨_, rfl, fun b o n e => ?_, ?_⟩
                    · rw [upd_ne n]
                      exact s9 _ _ (sb b o n e)
                    · rw [upd_same, tk, List.map_append, List.append_assoc]
                      rfl
                  · rintro σ' H8 ⟨t6, rfl, sb, hd8⟩
                    rw [List.length_map, List.take_length] at hd8
                    have kp : ∀ b o, H7 b = some o → H d = none → b ≠ d → H8 b = some o := fun b o e _ n => sb b o n e
                    have li8 : LinesAt CL H8 l dx r rows at' := ⟨sb _ _ dl.symm li7.o, sb _ _ (ne_of li7.r hd7 fun c => nomatch c) li7.r, li7.le⟩
                    have but8 : But [l, P1, P2] H H8 := fun b o n e => sb b o (ne_of_none e nd) (but7 b o n e)
                    have tb8 : Tabs P1 P2 H8 := ⟨let ⟨ps, h1, h2⟩ := tb7.a; ⟨ps, sb _ _ dP1 h1, h2⟩, let ⟨ps, h1, h2⟩ := tb7.b; ⟨ps, sb _ _ dP2 h1, h2⟩⟩
                    have tup8 : ∀ b xs, H7 b = some (.tup xs) → H8 b = some (.tup xs) := fun b xs e => sb b _ (ne_of e hd7 fun c => nomatch c) e
                    have ok8 : ∀ z ∈ zs ++ (wOf b m).map (fun w => ((a, w), p7, os)), OutsAt H8 z.2.1 z.2.2 := fun z hz => by
                      rcases List.mem_append.mp hz with hz | hz
                      · exact (ok7 z hz).mono tup8
                      · obtain ⟨w, _, rfl⟩ := List.mem_map.mp hz
                        exact oa.mono tup8
                    clear kp sb hd7 ok7 but7 tb7 li7 hwp7 hpc7 tup8 oa
                    dsimp only [tSeq, tDrop]
                    refine meth0_run (val_var rfl) li8.o (lf_no (by decide +kernel) (by decide +kernel)) ?_
                    refine ⟨l, dx, r, rows, at', rfl, li8, hat, fun H9 sb9 li9 => ?_⟩
                    dsimp only [tAsg]
                    refine meth_run (val_var rfl) li9.o (lf_no (by decide +kernel) (by decide +kernel)) ?_
                    refine val_c _ ⟨l, dx, r, rows, at' + 1, 1, rfl, li9, sz, by decide, fun H10 wp2 s10 nw2 hwp10 => ?_⟩
                    have lP1 : P1 ≠ l := fun c => by
                      obtain ⟨ps, h1, _⟩ := tb8.a
                      rw [c, li8.o] at h1
                      cases h1
                    have lP2 : P2 ≠ l := fun c => by
                      obtain ⟨ps, h1, _⟩ := tb8.b
                      rw [c, li8.o] at h1
                      cases h1
                    have kp : ∀ b o, b ≠ l → H8 b = some o → H10 b = some o := fun b o n e => s10 _ _ (sb9 b o n e)
                    refine ⟨at' + 1, wp2, zs ++ (wOf b m).map (fun w => ((a, w), p7, os)), ⟨_, _, _, rfl⟩, by omega, li9.mono s10, hwp10, kp _ _ dl hd8, fun b o n e => kp b o (fun c => n (by rw [c]; simp)) (but8 b o n e), ⟨let ⟨ps, h1, h2⟩ := tb8.a; ⟨ps, kp _ _ lP1 h1, h2⟩, let ⟨ps, h1, h2⟩ := tb8.b; ⟨ps, kp _ _ lP2 h1, h2⟩⟩,
                      fun z hz => (ok8 z hz).mono fun b xs e => kp b _ (ne_of e li8.o fun c => nomatch c) e, ?_, ?_, ?_⟩
                    · rw [List.map_append, List.map_map, List.nodup_append]
                      refine ⟨ndz, List.Pairwise.map _ (fun x y h e => h (by injection e)) (wOf_nodup (z := b) (m := m)), fun x hx y hy e => ?_⟩
                      obtain ⟨w, hw, rfl⟩ := List.mem_map.mp hy
                      rw [e] at hx
                      exact new w hw hx
                    · have h1 := wOf_len (z := b) m4
                      rw [List.length_append, List.length_map]
                      omega
                    · rw [← sp]
                      have ez : zacc (zs ++ (wOf b m).map (fun w => ((a, w), p7, os))) = zacc zs ++ (wOf b m).map fun w => ((a, w), os) := by
                        unfold zacc
                        rw [List.map_append, List.map_map]
                        rfl
                      rw [ez]
                      rfl
              · rw [iff.mpr h.2.2.2] at ex
                cases ex
        · rw [decide_eq_false (fun e => cc (V.str.inj e))]
          refine iteF ?_
          exact ⟨l, dx, r, rows, at', _, false, rfl, li, rfl, (fun e => nomatch e), fun _ => bad (if_neg fun h => cc h.1) _ but tb⟩
      · have e0 : decide ((3 : Int) < ((ws.map V.str).length : Int)) = false := decide_eq_false (by rw [List.length_map]; omega)
        rw [e0]
        refine iteF ?_
        exact ⟨l, dx, r, rows, at', _, false, rfl, li, rfl, (fun e => nomatch e), fun _ => bad (rowSt_len c3) _ but tb⟩
end
end K5
namespace K5
open PySem PySem.Spec PyProof.Rows L2
/-! ### texts that are put together -/
theorem str_eq {x y : Str} (h : x.cps.toList = y.cps.toList) : x = y := by
  obtain ⟨⟨a⟩⟩ := x
  obtain ⟨⟨b⟩⟩ := y
  have h : a = b := h
  rw [h]
theorem len_app (x y : Str) : (x ++ y).length = x.length + y.length := by
  show (x.cps ++ y.cps).size = _
  rw [Array.size_append]
  rfl
theorem empty_app (x : Str) : Str.empty ++ x = x := by
  refine str_eq ?_
  rw [cps_append]
  rfl
theorem small_z {n : Nat} (h : n ≤ 1000) : n ≤ sizeLine := Nat.le_trans h (by decide)
theorem js_val {σ : L2.St} {H : Hp} {t : TE} {ts : List TE} {acc y : Str} {Q : Str → Hp → Prop} (h : Val t σ H (.str y)) (hl : acc.length + y.length ≤ 1000) (k : tJs ts (acc ++ y) σ H Q) : tJs (t :: ts) acc σ H Q := h _ ⟨y, rfl, by rw [len_app]; exact small_z hl, k⟩
theorem val_fmtS {σ : L2.St} {H : Hp} {t : TE} {y : Str} (h : Val t σ H (.str y)) (hl : y.length ≤ 1000) : Val (tFmt t) σ H (.str y) := fun Q q => h _ (.inl ⟨y, rfl, small_z hl, q⟩)
theorem val_fmtI {σ : L2.St} {H : Hp} {t : TE} {i : Int} (h : Val t σ H (.int i)) (hl : i.natAbs.log2 < 1920) : Val (tFmt t) σ H (.str (toString i)) := fun Q q => h _ (.inr ⟨i, rfl, hl, q⟩)
theorem num400 : ∀ n : Fin 402, (toString ((n.val : Nat) : Int) : Str).length ≤ 3 ∧ PyData.strOk (toString ((n.val : Nat) : Int) : Str) = true := by decide +kernel
theorem num_len {n : Nat} (h : n ≤ 401) : (toString ((n : Nat) : Int) : Str).length ≤ 3 := (num400 ⟨n, by omega⟩).1
theorem num_ok {n : Nat} (h : n ≤ 401) : PyData.strOk (toString ((n : Nat) : Int) : Str) = true := (num400 ⟨n, by omega⟩).2
end K5
namespace K5
open PySem PySem.Spec PyProof.Rows L2
/-! ### how many states there are going to be -/
def stateRow (k : Nat) : Str := "state " ++ toString ((k : Nat) : Int)
def toldR : List Str → Nat → Nat
  | [], k => k
  | r :: rs, k => if k < 400 ∧ r = stateRow k then toldR rs (k + 1) else toldR rs k
theorem toldR_le : ∀ (rs : List Str) {k : Nat}, k ≤ 400 → toldR rs k ≤ 400
  | [], _, h => h
  | r :: rs, k, h => by
    unfold toldR
    split
    · rename_i c
      exact toldR_le rs (by omega)
    · exact toldR_le rs h
structure Mg (mg : Str → Option Value) : Prop where
  m : ∃ t, mg "MOST_STATES" = some (.int 400 t)
def spTold (K : PySem.W.Frag) : Sp := fun vs H Q _ => ∃ (r : Addr) (rows : List Str), vs = [.ref r] ∧ H r = some (.lst (rows.map V.str)) ∧ Q (.int (toldR rows 0 : Nat)) H
abbrev s_states_told : Stmt := topS 31
theorem sc_states_told : FnScope ["rows", "many", "row"] ["rows"] (defScope s_states_told) := ⟨rfl, rfl, rfl, by decide +kernel, rfl, by decide +kernel, by decide +kernel⟩
section
variable {P : Program} {w : World} {K : PySem.W.Frag} {mg : Str → Option Value} {base : Heap}
theorem ok_states_told {f : Addr} {fd : FuncData} (B : Bt mg) (G : Mg mg) (D : Df K mg "states_told" s_states_told f fd ["rows"]) : FnOk P w K mg base CX0 1 f fd ["rows"] (spTold K) := by
  refine D.F.ok sc_states_told (fun vs H Q E h => ?_) (fun cdv A outer s H vs Q E hr h => ?_)
  · obtain ⟨r, rows, rfl, _⟩ := h
    rfl
  · obtain ⟨r, rows, rfl, hp, k⟩ := h
    have S := sc_states_told
    obtain ⟨tm, gM⟩ := G.m
    refine ⟨_, (pss_cons (ps_set (i := 1) S.nd rfl (.inl rfl) pe_int)
      (pss_cons (ps_for PassesOwn.never rfl (pi_list (pv 0)) (pg_name (i := 2) S.nd rfl (.inl rfl))
        (pss_one (ps_if (PW.pt (pw_and (pt_cmpR op_lt (pv 1) (pe_glob (v := .int 400) (by rfl) gM ⟨_, rfl⟩) (nomark _)) (pw_and1 (pt_cmpR op_eq (pv 2) (pe_joined (.cons pe_str (.cons (pe_fmt (pv 1)) .nil))) (nomark _)))))
          (pss_one (ps_aug (i := 1) S.nd rfl (.inl rfl) pe_int in_add))
          pss_nil)))
      (pss_one (ps_ret (pv 1))))), ?_⟩
    dsimp only [tSeq, tAsg, tC, gName]
    unfold tFor iList
    refine (val_var rfl) _ ⟨r, rfl, ⟨_, SqL.of hp⟩, for_list (K := K) (a := r) (xs := rows.map V.str) (fun i σ' H' => H' = H ∧ ∃ (k : Nat) (t2 : Option V), k ≤ 400 ∧ σ' = [some (.ref r), some (.int (k : Nat)), t2] ∧ toldR (rows.drop i) k = toldR rows 0) ?_ ?_ ?_ ?_⟩
    · exact ⟨rfl, 0, _, Nat.zero_le _, rfl, rfl⟩
    · rintro i σ' H' _ ⟨rfl, _⟩
      exact SqL.of hp
    · rintro i x σ' H' ex ⟨rfl, k, t2, k4, rfl, er⟩
      obtain ⟨row, ej, rfl⟩ : ∃ w, rows[i]? = some w ∧ x = .str w := by
        rw [List.getElem?_map] at ex
        cases q : rows[i]? with
        | none => rw [q] at ex; cases ex
        | some w => rw [q] at ex; exact ⟨w, rfl, (Option.some.inj ex).symm⟩
      rw [drop_cons ej] at er
      have er : (if k < 400 ∧ row = stateRow k then toldR (rows.drop (i + 1)) (k + 1) else toldR (rows.drop (i + 1)) k) = toldR rows 0 := er
      dsimp only [gName]
      have vj : Val (fun σ H Q => tJs [tC (.str "state "), tFmt (tVar 1)] Str.empty σ H fun out H1 => Q (.str out) H1) [some (.ref r), some (.int (k : Nat)), some (.str row)] H' (.str (stateRow k)) := fun Q q => by
        have h6 : ("state " : Str).length = 6 := by decide +kernel
        have h3 := num_len (n := k) (by omega)
        have e0 : Str.empty.length = 0 := rfl
        refine js_val val_c (by omega) ?_
        rw [empty_app]
        refine js_val (val_fmtI (val_var rfl) (log_small (by omega))) (by omega) ?_
        exact q
      refine (ans_and3 (ans_i0 (i := (k : Nat)) (j := 400) (val_var rfl) val_c) fun _ => ans_eq2 (val_var rfl) vj rfl) _ ?_
      by_cases c : k < 400 ∧ row = stateRow k
      · rw [if_pos c] at er
        rw [show (decide ((k : Int) < 400) && decide (V.str row = V.str (stateRow k))) = true by rw [decide_eq_true (show (k : Int) < 400 by omega), decide_eq_true (by rw [c.2])]; rfl]
        refine iteT ?_
        dsimp only [tSeq, tAug, tNext]
        refine ⟨_, rfl, val_c _ ⟨_, _, rfl, rfl, ?_⟩⟩
        exact ⟨rfl, k + 1, _, by omega, rfl, er⟩
      · rw [if_neg c] at er
        have e2 : (decide ((k : Int) < 400) && decide (V.str row = V.str (stateRow k))) = false := by
          cases q : (decide ((k : Int) < 400) && decide (V.str row = V.str (stateRow k))) with
          | false => rfl
          | true =>
            rw [Bool.and_eq_true] at q
            exact absurd ⟨by have := of_decide_eq_true q.1; omega, V.str.inj (of_decide_eq_true q.2)⟩ c
        rw [e2]
        exact iteF ⟨rfl, k, _, k4, rfl, er⟩
    · rintro σ' H' ⟨rfl, k', t2, k4, rfl, er⟩
      rw [List.length_map, List.drop_length] at er
      have er : k' = toldR rows 0 := er
      rw [← er] at k
      exact (val_var rfl) _ k
end
end K5
namespace K5
open PySem PySem.Spec PyProof.Rows L2
/-! ### a pact -/
def pactGo (m n : Nat) (rows : List Str) : Nat → Nat → List StA → Except Nat (Nat × List StA)
  | 0, at_, sts => .ok (at_, sts)
  | f + 1, at_, sts => if wordsAt rows at_ 0 = ([("state" : Str), toString ((sts.length : Nat) : Int)] : List Str) then match stR m n (rows.drop (at_ + 1)) (at_ + 1) [] with
      | .error e => .error e
      | .ok q => pactGo m n rows f q.1 (sts ++ [q.2])
    else .ok (at_, sts)
def pactR (m : Nat) (rows : List Str) : Except Nat (List StA) := match pactGo m (toldR rows 0) rows 400 0 [] with
  | .error e => .error e
  | .ok q => if q.1 = rows.length then .ok q.2 else .error q.1
def PactAt (H : Hp) (p : Addr) (sts : List StA) : Prop := ∃ ts : List Addr, H p = some (.tup (ts.map V.ref)) ∧ Paired (StAt H) ts sts
theorem StAt.mono {H H' : Hp} {p : Addr} {acc : StA} (k : ∀ b xs, H b = some (.tup xs) → H' b = some (.tup xs)) (h : StAt H p acc) : StAt H' p acc := by
  obtain ⟨ts, bs, h1, h2, h3, h4⟩ := h
  exact ⟨ts, bs, k _ _ h1, h2, fun b hb => let ⟨os, e1, e2⟩ := h3 b hb; ⟨os, e1, e2.mono k⟩, Paired.mapP h4 fun t q e => k _ _ e⟩
theorem ErrT.back {L L' : List Addr} {P1 P2 C : Addr} {v : V} {H Hk : Hp} {E : XK} (h : ErrT L P1 P2 C v H E) (k : ∀ b o, b ∉ L → H b = some o → b ∉ L' ∧ Hk b = some o) : ErrT L' P1 P2 C v Hk E := fun d H' b t hd => h d H' (fun a o n e => let ⟨n2, e2⟩ := k a o n e; b a o n2 e2) t hd
theorem stR_at {m n : Nat} : ∀ {rs : List Str} {at_ : Nat} {acc : StA} {q : Nat × StA}, stR m n rs at_ acc = .ok q → at_ ≤ q.1 ∧ q.1 ≤ at_ + rs.length
  | [], at_, acc, q, h => by
    have h : Except.ok (at_, acc) = Except.ok q := h
    injection h with h
    rw [← h]
    exact ⟨Nat.le_refl _, Nat.le_refl _⟩
  | z :: rs, at_, acc, q, h => by
    unfold stR at h
    split at h
    · injection h with h
      rw [← h]
      exact ⟨Nat.le_refl _, Nat.le_add_right ..⟩
    · split at h
      · cases h
      · have := stR_at h
        rw [List.length_cons]
        omega
def spPact (CT P1 P2 : Addr) : Sp := fun vs H Q E => ∃ (m : Nat) (x : V) (T : String), vs = [.int m, x, .non] ∧ Kd H x T ∧ m ≤ 4 ∧ Tabs P1 P2 H ∧ P1 ≠ P2 ∧ (isS x = false → ErrT [P1, P2] P1 P2 CT (.int (-1)) H E) ∧
  ∀ z : Str, x = .str z → z.length ≤ 14000 ∧ PyData.strOk z = true ∧ match pactR m (rowsOf z) with
    | .error e => ErrT [P1, P2] P1 P2 CT (.int (e : Nat)) H E
    | .ok sts => ∀ (H' : Hp) (p : Addr), But [P1, P2] H H' → Tabs P1 P2 H' → PactAt H' p sts → Q (.ref p) H'
abbrev s_pact_of_doors : Stmt := topS 30
theorem sc_pact_of_doors : FnScope ["worths", "text", "doors", "lines", "many", "states"] ["worths", "text", "doors"] (defScope s_pact_of_doors) := ⟨rfl, rfl, rfl, by decide +kernel, rfl, by decide +kernel, by decide +kernel⟩
structure EnP (P : Program) (w : World) (K : PySem.W.Frag) (mg : Str → Option Value) (base : Heap) (CL CT P1 P2 fL fWords fStep fEnd fTo fSt cSt : Addr) (dL dWords dStep dEnd dTo dSt : FuncData) : Prop where
  B : Bt mg
  G : Mg mg
  L : ClL K CL
  ML : Mk K CL fL
  gL : mg "Lines" = some (.ref CL)
  bL : Binds K dL ["self", "text"] []
  GL : FnOk P w K mg base (L2.CX P w) 4 fL dL ["self", "text"] (spLinesInit CL CT)
  Mw : Mf K CL "words" "Lines.words" s_Lines_words fWords dWords ["self", "depth"]
  Gw : FnOk P w K mg base CX0 1 fWords dWords ["self", "depth"] (spWords CL)
  Ms : Mf K CL "step" "Lines.step" s_Lines_step fStep dStep ["self"]
  Gs : FnOk P w K mg base CX0 1 fStep dStep ["self"] (spStep CL)
  Me : Mf K CL "need_end" "Lines.need_end" s_Lines_need_end fEnd dEnd ["self"]
  Ge : FnOk P w K mg base (L2.CX P w) 5 fEnd dEnd ["self"] (spNeedEnd CL CT)
  Dt : Df K mg "states_told" s_states_told fTo dTo ["rows"]
  Gt : FnOk P w K mg base CX0 1 fTo dTo ["rows"] (spTold K)
  Ds : DfT K mg "read_state" s_read_state fSt dSt cSt ["lines", "worths", "doors", "many"]
  Gst : FnOk P w K mg base (L2.CX P w) 7 fSt dSt ["lines", "worths", "doors", "many"] (spState CL CT P1 P2)
/-- ahead of each turn -/
structure RP (CL P1 P2 : Addr) (H0 : Hp) (l dx r el : Addr) (rows : List Str) (z : Str) (m : Nat) (R : Except Nat (Nat × List StA)) (f : Nat) (σ : L2.St) (H : Hp) (at_ : Nat) (ts : List Addr) (sts : List StA) : Prop where
  st : σ = [some (.int m), some (.str z), some .non, some (.ref l), some (.int (toldR rows 0 : Nat)), some (.ref el)]
  fn : f + sts.length = 400
  li : LinesAt CL H l dx r rows at_
  he : H el = some (.lst (ts.map V.ref))
  pr : Paired (StAt H) ts sts
  but : But [l, el, P1, P2] H0 H
  tab : Tabs P1 P2 H
  re : r ≠ el
  sp : pactGo m (toldR rows 0) rows f at_ sts = R
section
variable {P : Program} {w : World} {K : PySem.W.Frag} {mg : Str → Option Value} {base : Heap} {CL CT P1 P2 fL fWords fStep fEnd fTo fSt cSt : Addr} {dL dWords dStep dEnd dTo dSt : FuncData}
theorem ok_pact_of_doors {f : Addr} {fd : FuncData} (N : EnP P w K mg base CL CT P1 P2 fL fWords fStep fEnd fTo fSt cSt dL dWords dStep dEnd dTo dSt) (D : Df K mg "pact_of_doors" s_pact_of_doors f fd ["worths", "text", "doors"]) :
    FnOk P w K mg base (L2.CX P w) 8 f fd ["worths", "text", "doors"] (spPact CT P1 P2) := by
  refine D.F.okX sc_pact_of_doors (fun vs H Q E h => ?_) (fun cdv A0 outer s H vs Q E hr h => ?_)
  · obtain ⟨m, x, T, rfl, _⟩ := h
    rfl
  · obtain ⟨m, x, T, rfl, hx, m4, tab, pne, ke, k⟩ := h
    have S := sc_pact_of_doors
    obtain ⟨tm, gM⟩ := N.G.m
    refine ⟨_, (pss_cons (ps_set (i := 3) S.nd rfl (.inl rfl) (pe_make N.ML N.GL (hr.mono (by decide)) (by rfl) N.gL N.bL .nil (pxp rfl rfl rfl rfl) (pa_cons (pv 1) pa_nil)))
      (pss_cons (ps_set (i := 4) S.nd rfl (.inl rfl) (pe_call N.Gt (hr.mono (by decide)) (by rfl) N.Dt.g N.Dt.F.kp N.Dt.b .nil pass0 (pa_cons (pe_fld (pv 3) rfl) pa_nil)))
      (pss_cons (ps_set (i := 5) S.nd rfl (.inl rfl) (pe_lst pa_nil))
      (pss_cons (ps_while (passes_of rfl) (PW.pt (pw_and (pt_cmpR op_lt (pe_callB call_len_seq (by rfl) N.B.m_len PySem.boot_len (pa_cons (pv 5) pa_nil)) (pe_glob (v := .int 400) (by rfl) gM ⟨_, rfl⟩) (nomark _)) (pw_and1 (pt_cmpR (op_eqD hr.units) (pe_meth (pv 3) N.L.cl N.Mw.m N.Gw (hr.mono (by decide)) N.Mw.b .nil pass0 (pa_cons pe_int pa_nil)) (pe_lst (pa_cons pe_str (pa_cons (pe_callTy call_str_int (by rfl) N.B.m_str (by decide +kernel) (pa_cons (pe_callB call_len_seq (by rfl) N.B.m_len PySem.boot_len (pa_cons (pv 5) pa_nil)) pa_nil)) pa_nil))) (nomark _)))))
        (pss_cons (ps_expr (pe_meth0 (pv 3) N.L.cl N.Ms.m N.Gs (hr.mono (by decide)) N.Ms.b .nil pass0))
        (pss_one (ps_expr (pe_bm PySem.F.plainAttrs_list PySem.F.slot_list_append PySem.F.type_list_append mt_append (pv 5) (pa_cons (pe_call N.Gst (hr.mono (by decide)) (by rfl) N.Ds.g N.Ds.F.kp N.Ds.b .nil (pxp rfl rfl rfl rfl) (pa_cons (pv 3) (pa_cons (pv 0) (pa_cons (pv 2) (pa_cons (pv 4) pa_nil))))) pa_nil))))))
      (pss_cons (ps_expr (pe_meth0 (pv 3) N.L.cl N.Me.m N.Ge (hr.mono (by decide)) N.Me.b .nil (pxp rfl rfl rfl rfl)))
      (pss_one (ps_ret (pe_tupleOf (by rfl) N.B.m_tuple (pv 5))))))))), ?_⟩
    dsimp only [tSeq, tAsg]
    dsimp only [tMake, tCons, tNil]
    refine (val_var rfl) _ ?_
    refine fun a da na nda neq => ?_
    have n0 : (upd H da (.own a)) a = none := by
      rw [upd_ne neq.symm]
      exact na
    have sP : Same H (upd (upd H da (.own a)) a (.ins CL da [])) := (same_upd nda).trans (same_upd n0)
    have hP : (upd (upd H da (.own a)) a (.ins CL da [])) a = some (.ins CL da []) := upd_same
    generalize (upd (upd H da (.own a)) a (.ins CL da [])) = HP at sP hP ⊢
    refine ⟨a, da, x, T, rfl, hP, hx.mono sP, fun z e => ⟨(k z e).1, fun H1 r sb nr li => ⟨rfl, ?_⟩⟩, fun hs => ErrT.of (ke hs) (But.of_same sP) (tab.same sP)⟩
    subst e
    obtain ⟨zl, zo, k⟩ := k z rfl
    have s01 : Same H H1 := fun b o e => sb b o (ne_of_none e na) (sP b o e)
    have sz : Sz (rowsOf z) := sz_rows zl zo
    dsimp only [gName, tSeq, tAsg]
    dsimp only [tCall, tCons, tNil]
    refine (val_fld (val_var rfl) li.o N.L.cl N.L.nr lf_rows) _ ⟨r, rowsOf z, rfl, li.r, ?_⟩
    dsimp only [gName]
    refine ⟨by show 0 ≤ sizeLine; decide, fun el nel => ?_⟩
    have s1 := same_upd (o := .lst []) nel
    have hel : (upd H1 el (.lst [])) el = some (.lst []) := upd_same
    have rel : r ≠ el := ne_of_none li.r nel
    have li := li.mono s1
    generalize (upd H1 el (.lst [])) = H2 at s1 hel li ⊢
    have s02 := s01.trans s1
    have nel0 := s01.free nel
    clear s1 sb hP sP nda n0
    have ex : ∀ b o, b ∉ [P1, P2] → H b = some o → b ∉ [a, el, P1, P2] := fun b o n e c => by
      rcases List.mem_cons.mp c with c | c
      · rw [c, na] at e
        cases e
      · rcases List.mem_cons.mp c with c | c
        · rw [c, nel0] at e
          cases e
        · exact n c
    have pa1 : P1 ≠ a := fun c => by
      obtain ⟨ps, h1, _⟩ := tab.a
      rw [c, na] at h1
      cases h1
    have pa2 : P2 ≠ a := fun c => by
      obtain ⟨ps, h1, _⟩ := tab.b
      rw [c, na] at h1
      cases h1
    have pe1 : P1 ≠ el := fun c => by
      obtain ⟨ps, h1, _⟩ := tab.a
      rw [c, nel0] at h1
      cases h1
    have pe2 : P2 ≠ el := fun c => by
      obtain ⟨ps, h1, _⟩ := tab.b
      rw [c, nel0] at h1
      cases h1
    have kR : match pactGo m (toldR (rowsOf z) 0) (rowsOf z) 400 0 [] with
        | .error e => ErrT [P1, P2] P1 P2 CT (.int (e : Nat)) H E
        | .ok q => (q.1 = (rowsOf z).length → ∀ (H' : Hp) (p : Addr), But [P1, P2] H H' → Tabs P1 P2 H' → PactAt H' p q.2 → Q (.ref p) H') ∧ (q.1 ≠ (rowsOf z).length → ErrT [P1, P2] P1 P2 CT (.int (q.1 : Nat)) H E) := by
      unfold pactR at k
      cases q : pactGo m (toldR (rowsOf z) 0) (rowsOf z) 400 0 [] with
      | error e =>
        rw [q] at k
        exact k
      | ok q' =>
        rw [q] at k
        dsimp only at k ⊢
        refine ⟨fun e => ?_, fun e => ?_⟩
        · rw [if_pos e] at k
          exact k
        · rw [if_neg e] at k
          exact k
    clear k
    -- the end
    have fin : ∀ (H3 : Hp) (at_ : Nat) (ts : List Addr) (sts : List StA) (v : V), LinesAt CL H3 a da r (rowsOf z) at_ → H3 el = some (.lst (ts.map V.ref)) → Paired (StAt H3) ts sts → But [a, el, P1, P2] H H3 → Tabs P1 P2 H3 → .ok (at_, sts) = pactGo m (toldR (rowsOf z) 0) (rowsOf z) 400 0 [] →
        tSeq (tDrop (tMeth CL "need_end" (spNeedEnd CL CT) [] E (tVar 3) tNil)) (tRet (tThen (tVar 5) (kTup K))) { nx := fun _ H' => Q .non H', rt := Q } [some (.int m), some (.str z), some .non, some (.ref a), some v, some (.ref el)] H3 := by
      intro H3 at_ ts sts v li3 he3 pr3 bt3 tb3 e3
      rw [← e3] at kR
      obtain ⟨k1, k2⟩ := kR
      have bt : But [P1, P2] H H3 := fun b o n e => bt3 b o (ex b o n e) e
      dsimp only [tSeq, tDrop]
      refine meth0_run (val_var rfl) li3.o (lf_no (by decide +kernel) (by decide +kernel)) ?_
      refine ⟨a, da, r, rowsOf z, at_, rfl, li3, fun e => ?_, fun e => ErrT.of (k2 e) bt tb3⟩
      dsimp only [tRet, tThen]
      refine (val_var rfl) _ (.inl ⟨el, ts.map V.ref, rfl, SqL.of he3, fun t nt => ?_⟩)
      have s4 := same_upd (o := .tup (ts.map V.ref)) nt
      exact k1 e _ t (bt.trans (But.of_same s4)) (tb3.same s4) ⟨ts, upd_same, Paired.mapP pr3 fun t q h => h.mono fun b xs e => s4 _ _ e⟩
    dsimp only [tNext]
    refine ⟨fun f σ H' => ∃ at_ ts sts, RP CL P1 P2 H a da r el (rowsOf z) z m (pactGo m (toldR (rowsOf z) 0) (rowsOf z) 400 0 []) f σ H' at_ ts sts, ⟨400, 0, [], [], rfl, rfl, li, hel, .nil, But.of_same s02, tab.same s02, rel, rfl⟩, fun f σ H' h => ?_⟩
    obtain ⟨at_, ts, sts, rfl, fn, li3, he3, pr3, bt3, tb3, re3, sp⟩ := h
    clear li hel s02 s01
    have lts : ts.length = sts.length := Paired.length pr3
    dsimp only [tAnd, tTest]
    refine (val_op (val_lenL (val_var rfl) (SqL.of he3)) val_c fun Q q => ⟨_, _, rfl, rfl, q⟩) _ ⟨_, rfl, ?_⟩
    have ed : decide ((((ts.map V.ref).length : Nat) : Int) < 400) = decide (sts.length < 400) := decide_eq_decide.mpr (by rw [List.length_map, lts]; omega)
    rw [ed]
    cases f with
    | zero =>
      rw [decide_eq_false (by omega)]
      refine iteF (iteF ?_)
      exact fin H' at_ ts sts _ li3 he3 pr3 bt3 tb3 sp
    | succ f =>
      rw [decide_eq_true (by omega)]
      refine iteT ?_
      refine meth_run (val_var rfl) li3.o (lf_no (by decide +kernel) (by decide +kernel)) ?_
      refine val_c _ ⟨a, da, r, rowsOf z, at_, 0, rfl, li3, sz, by decide, fun H4 wp s4 nw hwp => ?_⟩
      have wz := words_ok (n := at_) (dp := 0) sz
      have li4 := li3.mono s4
      have he4 := s4 _ _ he3
      have bt4 := bt3.trans (But.of_same s4)
      have tb4 := tb3.same s4
      have pr4 : Paired (StAt H4) ts sts := Paired.mapP pr3 fun t q h => h.mono fun b xs e => s4 _ _ e
      clear li3 he3 pr3 bt3 tb3 s4
      have vl := val_lenL (val_var (σ := [some (V.int m), some (.str z), some .non, some (.ref a), some (.int (toldR (rowsOf z) 0 : Nat)), some (.ref el)]) (i := 5) rfl) (SqL.of (K := K) he4)
      have llen : (((ts.map V.ref).length : Nat) : Int) = ((sts.length : Nat) : Int) := by rw [List.length_map, lts]
      rw [llen] at vl
      dsimp only [tLst, tCons, tNil]
      refine val_c _ ((val_strI vl (log_small (by omega))) _ ?_)
      refine ⟨by show 2 ≤ sizeLine; decide, fun q nq => ?_⟩
      have s5 := same_upd (o := .lst ([(("state" : Str)), toString ((sts.length : Nat) : Int)].map V.str)) nq
      have hq : (upd H4 q (.lst ([(("state" : Str)), toString ((sts.length : Nat) : Int)].map V.str))) q = some (.lst ([(("state" : Str)), toString ((sts.length : Nat) : Int)].map V.str)) := upd_same
      show rEqD K (.ref wp) (.ref q) (upd H4 q (.lst ([(("state" : Str)), toString ((sts.length : Nat) : Int)].map V.str))) _
      generalize (upd H4 q (.lst ([(("state" : Str)), toString ((sts.length : Nat) : Int)].map V.str))) = H5 at s5 hq ⊢
      refine ⟨.list ((wordsAt (rowsOf z) at_ 0).map PyData.str), .list ([(("state" : Str)), toString ((sts.length : Nat) : Int)].map PyData.str), .lst (SqL.of (s5 _ _ hwp)) (dpAll_strs _), .lst (SqL.of hq) (dpAll_strs _), shaped_strs fun y hy => (wz y hy).1, shaped_strs fun y hy => ?_, ?_⟩
      · rcases List.mem_cons.mp hy with c | c
        · rw [c]
          decide +kernel
        · rw [List.mem_singleton.mp c]
          exact num_ok (by omega)
      · have e : PyData.eqv (.list ((wordsAt (rowsOf z) at_ 0).map PyData.str)) (.list ([(("state" : Str)), toString ((sts.length : Nat) : Int)].map PyData.str)) = decide (wordsAt (rowsOf z) at_ 0 = [(("state" : Str)), toString ((sts.length : Nat) : Int)]) := by
          rw [PyData.eqv]
          exact eqv_strs _ _
        rw [e]
        have li5 := li4.mono s5
        have he5 := s5 _ _ he4
        have bt5 := bt4.trans (But.of_same s5)
        have tb5 := tb4.same s5
        have pr5 : Paired (StAt H5) ts sts := Paired.mapP pr4 fun t q h => h.mono fun b xs e => s5 _ _ e
        clear li4 he4 pr4 bt4 tb4 s5 vl hq nq hwp nw
        have sp : (if wordsAt (rowsOf z) at_ 0 = ([("state" : Str), toString ((sts.length : Nat) : Int)] : List Str) then (match stR m (toldR (rowsOf z) 0) ((rowsOf z).drop (at_ + 1)) (at_ + 1) [] with
            | .error e => .error e
            | .ok q => pactGo m (toldR (rowsOf z) 0) (rowsOf z) f q.1 (sts ++ [q.2])) else .ok (at_, sts)) = pactGo m (toldR (rowsOf z) 0) (rowsOf z) 400 0 [] := sp
        refine ⟨_, rfl, ?_⟩
        by_cases cw : wordsAt (rowsOf z) at_ 0 = [(("state" : Str)), toString ((sts.length : Nat) : Int)]
        · rw [if_pos cw] at sp
          rw [decide_eq_true cw]
          refine iteT ⟨fun σ' H' => ∃ at_ ts sts, RP CL P1 P2 H a da r el (rowsOf z) z m (pactGo m (toldR (rowsOf z) 0) (rowsOf z) 400 0 []) f σ' H' at_ ts sts, fun σ' H' h => ⟨f, Nat.lt_succ_self f, h⟩, ?_⟩
          have hn : at_ < (rowsOf z).length := by
            cases q : (rowsOf z)[at_]? with
            | none =>
              unfold wordsAt at cw
              rw [q] at cw
              cases cw
            | some _ => exact (List.getElem?_eq_some_iff.mp q).1
          dsimp only [tSeq, tDrop]
          refine meth0_run (val_var rfl) li5.o (lf_no (by decide +kernel) (by decide +kernel)) ?_
          refine ⟨a, da, r, rowsOf z, at_, rfl, li5, hn, fun H6 sb6 li6 => ?_⟩
          have ne : el ≠ a := ne_of he5 li5.o fun c => nomatch c
          have he6 := sb6 _ _ ne he5
          have tb6 : Tabs P1 P2 H6 := ⟨let ⟨ps, h1, h2⟩ := tb5.a; ⟨ps, sb6 _ _ pa1 h1, h2⟩, let ⟨ps, h1, h2⟩ := tb5.b; ⟨ps, sb6 _ _ pa2 h1, h2⟩⟩
          have bt6 : But [a, el, P1, P2] H H6 := fun b o n e => sb6 b o (fun c => n (by rw [c]; simp)) (bt5 b o n e)
          have pr6 : Paired (StAt H6) ts sts := Paired.mapP pr5 fun t q h => h.mono fun b xs e => sb6 _ _ (ne_of e li5.o fun c => nomatch c) e
          clear li5 he5 pr5 bt5 tb5 sb6
          refine bm_run (x := .ref el) (val_var rfl) (.inl ⟨rfl, _, SqL.of he6⟩) ?_
          dsimp only [tCall, tCons, tNil]
          refine (val_var rfl) _ ((val_var rfl) _ ((val_var rfl) _ ((val_var rfl) _ ?_)))
          refine ⟨a, da, r, rowsOf z, at_ + 1, m, toldR (rowsOf z) 0, rfl, li6, sz, m4, tb6, pne, ?_⟩
          cases hst : stR m (toldR (rowsOf z) 0) ((rowsOf z).drop (at_ + 1)) (at_ + 1) [] with
          | error e =>
            rw [hst] at sp
            have sp : Except.error e = pactGo m (toldR (rowsOf z) 0) (rowsOf z) 400 0 [] := sp
            rw [← sp] at kR
            have kR : ErrT [P1, P2] P1 P2 CT (.int (e : Nat)) H E := kR
            exact kR.back fun b o n e => ⟨fun c => by
              rcases List.mem_cons.mp c with c | c
              · exact ex b o n e (by rw [c]; simp)
              · exact n c, bt6 b o (ex b o n e) e⟩
          | ok q' =>
            rw [hst] at sp
            have sp : pactGo m (toldR (rowsOf z) 0) (rowsOf z) f q'.1 (sts ++ [q'.2]) = pactGo m (toldR (rowsOf z) 0) (rowsOf z) 400 0 [] := sp
            obtain ⟨at', acc⟩ := q'
            show ∀ (H' : Hp) (p : Addr), But [a, P1, P2] H6 H' → Tabs P1 P2 H' → LinesAt CL H' a da r (rowsOf z) at' → StAt H' p acc → _
            intro H7 p7 b7 t7 li7 sa
            have kp7 : ∀ b o, b ≠ a → (∀ ps, o ≠ .tbl ps) → H6 b = some o → H7 b = some o := fun b o n no e => b7 b o (fun c => by
              rcases List.mem_cons.mp c with c | c
              · exact n c
              · rcases List.mem_cons.mp c with c | c
                · obtain ⟨ps, h1, _⟩ := tb6.a
                  rw [c, h1] at e
                  exact no ps (Option.some.inj e).symm
                · obtain ⟨ps, h1, _⟩ := tb6.b
                  rw [List.mem_singleton.mp c, h1] at e
                  exact no ps (Option.some.inj e).symm) e
            have he7 := kp7 el _ ne (fun ps (c : HO.lst (ts.map V.ref) = .tbl ps) => nomatch c) he6
            have pr7 : Paired (StAt H7) ts sts := Paired.mapP pr6 fun t q h => h.mono fun b xs e => kp7 b _ (ne_of e li6.o fun c => nomatch c) (fun ps (c : HO.tup xs = .tbl ps) => nomatch c) e
            have bt7 : But [a, el, P1, P2] H H7 := fun b o n e => b7 b o (fun c => n (by
              rcases List.mem_cons.mp c with c | c
              · rw [c]; simp
              · rcases List.mem_cons.mp c with c | c
                · rw [c]; simp
                · rw [List.mem_singleton.mp c]; simp)) (bt6 b o n e)
            refine ⟨el, _, _, rfl, rfl, he7, by rw [List.length_map, lts]; exact Nat.lt_of_lt_of_le (show sts.length < 401 by omega) (by decide), ?_⟩
            have eL : (ts.map V.ref) ++ [V.ref p7] = (ts ++ [p7]).map V.ref := by rw [List.map_append]; rfl
            rw [eL]
            have up : ∀ b o, b ≠ el → H7 b = some o → (upd H7 el (.lst ((ts ++ [p7]).map V.ref))) b = some o := fun b o n e => by
              rw [upd_ne n]
              exact e
            have hel7 : (upd H7 el (.lst ((ts ++ [p7]).map V.ref))) el = some (.lst ((ts ++ [p7]).map V.ref)) := upd_same
            generalize (upd H7 el (.lst ((ts ++ [p7]).map V.ref))) = H8 at up hel7 ⊢
            have tup : ∀ b xs, H7 b = some (.tup xs) → H8 b = some (.tup xs) := fun b xs e => up b _ (ne_of e he7 fun c => nomatch c) e
            refine ⟨at', ts ++ [p7], sts ++ [acc], rfl, by rw [List.length_append]; show f + (sts.length + 1) = 400; omega, ⟨up _ _ ne.symm li7.o, up _ _ re3 li7.r, li7.le⟩, hel7, Paired.snoc (Paired.mapP pr7 fun t q h => h.mono tup) (sa.mono tup), fun b o n e => up b o (fun c => n (by rw [c]; simp)) (bt7 b o n e), ⟨let ⟨ps, h1, h2⟩ := t7.a; ⟨ps, up _ _ pe1 h1, h2⟩, let ⟨ps, h1, h2⟩ := t7.b; ⟨ps, up _ _ pe2 h1, h2⟩⟩, re3, sp⟩
        · rw [if_neg cw] at sp
          rw [decide_eq_false cw]
          refine iteF ?_
          exact fin H5 at_ ts sts _ li5 he5 pr5 bt5 tb5 sp
end
end K5
namespace K5
open PySem PySem.Spec PyProof.Rows L2
/-! ### read_pact -/
def spReadPact (CW CT P1 P2 : Addr) : Sp := fun vs H Q E => ∃ (x y : V) (Tx Ty : String), vs = [x, y] ∧ Kd H x Tx ∧ Kd H y Ty ∧ Tabs P1 P2 H ∧ P1 ≠ P2 ∧ (worthsOk x = false → ErrT [P1, P2] P1 P2 CW x H E) ∧
  ∀ m : Nat, x = .int m → worthsOk x = true → m ≤ 4 → (isS y = false → ErrT [P1, P2] P1 P2 CT (.int (-1)) H E) ∧
    ∀ z : Str, y = .str z → z.length ≤ 14000 ∧ PyData.strOk z = true ∧ match pactR m (rowsOf z) with
      | .error e => ErrT [P1, P2] P1 P2 CT (.int (e : Nat)) H E
      | .ok sts => ∀ (H' : Hp) (p : Addr), But [P1, P2] H H' → Tabs P1 P2 H' → PactAt H' p sts → Q (.ref p) H'
abbrev s_read_pact : Stmt := topS 29
theorem sc_read_pact : FnScope ["worths", "text"] ["worths", "text"] (defScope s_read_pact) := ⟨rfl, rfl, rfl, by decide +kernel, rfl, by decide +kernel, by decide +kernel⟩
section
variable {P : Program} {w : World} {K : PySem.W.Frag} {mg : Str → Option Value} {base : Heap} {CW CT P1 P2 fE fW fP : Addr} {dE dW dP : FuncData}
theorem ok_read_pact {f : Addr} {fd : FuncData} (TW : Er K mg "BadWorths" CW fE) (GE : FnOk P w K mg base CX0 1 fE dE ["self", "value"] (spErr K)) (bE : Binds K dE ["self", "value"] [])
    (Dw : Df K mg "is_worths" s_is_worths fW dW ["value"]) (Gw : FnOk P w K mg base CX0 2 fW dW ["value"] spIsWorths)
    (Dp : Df K mg "pact_of_doors" s_pact_of_doors fP dP ["worths", "text", "doors"]) (Gp : FnOk P w K mg base (L2.CX P w) 8 fP dP ["worths", "text", "doors"] (spPact CT P1 P2))
    (D : Df K mg "read_pact" s_read_pact f fd ["worths", "text"]) : FnOk P w K mg base (L2.CX P w) 9 f fd ["worths", "text"] (spReadPact CW CT P1 P2) := by
  refine D.F.okX sc_read_pact (fun vs H Q E h => ?_) (fun cdv A0 outer s H vs Q E hr h => ?_)
  · obtain ⟨x, y, Tx, Ty, rfl, _⟩ := h
    rfl
  · obtain ⟨x, y, Tx, Ty, rfl, hx, hy, tab, pne, kW, k⟩ := h
    have S := sc_read_pact
    refine ⟨_, (pss_cons (ps_if (pt_not (pt_val (pe_call Gw (hr.mono (by decide)) (by rfl) Dw.g Dw.F.kp Dw.b .nil pass0 (pa_cons (pv 0) pa_nil))))
        (pss_one (ps_raise rfl (takes_of rfl rfl rfl rfl) (pmk_oex TW.O TW.iC TW.tI GE (hr.mono (by decide)) bE .nil pass0 (by rfl) TW.g (pa_cons (pv 0) pa_nil))))
        pss_nil)
      (pss_one (ps_ret (pe_call Gp (hr.mono (by decide)) (by rfl) Dp.g Dp.F.kp Dp.b .nil (pxp rfl rfl rfl rfl) (pa_cons (pv 0) (pa_cons (pv 1) (pa_cons pe_non pa_nil))))))), ?_⟩
    refine (val_call (va_cons (val_var rfl) va_nil) fun Q q => ⟨x, Tx, rfl, hx, q⟩) _ ⟨_, rfl, ?_⟩
    cases hw : worthsOk x with
    | false =>
      refine iteT ?_
      exact raise_run TW.O TW.nv (val_var rfl) (ErrT.of (kW hw) (But.of_same fun b o e => e) tab)
    | true =>
      refine iteF ?_
      obtain ⟨wn, rfl⟩ : ∃ wn, x = .int wn := by
        cases hx with
        | int i => exact ⟨i, rfl⟩
        | _ => exact absurd (show false = true from hw) Bool.false_ne_true
      have hw2 : (decide (2 ≤ wn) && decide (wn ≤ 4)) = true := hw
      rw [Bool.and_eq_true] at hw2
      have h2 := of_decide_eq_true hw2.1
      have h4 := of_decide_eq_true hw2.2
      obtain ⟨m, rfl⟩ : ∃ m : Nat, wn = (m : Int) := ⟨wn.toNat, by omega⟩
      obtain ⟨kS, kz⟩ := k m rfl hw (by omega)
      dsimp only [tNext, tSeq, tRet]
      dsimp only [tCall, tCons, tNil]
      refine (val_var rfl) _ ((val_var rfl) _ (val_c _ ?_))
      exact ⟨m, y, Ty, rfl, hy, by omega, tab, pne, kS, kz⟩
end
end K5
namespace K5
open PySem PySem.Spec PyProof.Rows L2
/-! ### drawn outcomes -/
theorem take_box {σ : L2.St} {H : Hp} {b : Addr} {p q n m : Int} {tm : TE} {i : Nat} {Q : VK} (hv : σ[i]? = some (some (.ref b))) (hm : Val tm σ H (.int m)) (hb : H b = some (.lst (bx p q n))) (Bx : Box p q n) (m0 : 0 < m) (m1 : m < 1000000) (hn : n < 1000000)
    (k : ∀ (d p' n' : Int), 0 ≤ d → d < m → Box p' q n' → n' ≤ n + 1 → Q (.int d) (upd H b (.lst (bx p' q n')))) : tCall spTake [] E0 (tCons (tVar i) (tCons tm tNil)) σ H Q := by
  try dsimp only [tCall, tCons, tNil]
  refine (val_var hv) _ ?_
  refine hm _ ?_
  exact ⟨b, m, p, q, n, rfl, hb, Bx, hn, m0, m1, fun d p' n' d0 d1 B le => k d p' n' d0 d1 B le⟩
/-- a tuple of pairs of whole numbers -/
def OsAt (H : Hp) (ts : List Addr) (os : List (Int × Int)) : Prop := Paired (fun (t : Addr) (o : Int × Int) => H t = some (.tup [.int o.1, .int o.2])) ts os
theorem OsAt.app {H : Hp} : ∀ {ts : List Addr} {os : List (Int × Int)} {t : Addr} {o : Int × Int}, OsAt H ts os → H t = some (.tup [.int o.1, .int o.2]) → OsAt H (ts ++ [t]) (os ++ [o])
  | _, _, _, _, .nil, h => .cons h .nil
  | _, _, _, _, .cons x r, h => .cons x (OsAt.app r h)
theorem OsAt.len {H : Hp} {ts : List Addr} {os : List (Int × Int)} (h : OsAt H ts os) : ts.length = os.length := Paired.length h
theorem OsAt.but {H H' : Hp} {b : Addr} {l : List V} {ts : List Addr} {os : List (Int × Int)} (h : OsAt H ts os) (s : SameBut b H H') (hb : H b = some (.lst l)) : OsAt H' ts os :=
  Paired.mapP h fun t o e => s _ _ (fun c => by rw [c, hb] at e; cases e) e
section
variable {K : PySem.W.Frag}
theorem outs_lc {b l : Addr} {m w : Nat} {t4 t5 : Option V} {is : List Int} {te2 : TE} {H : Hp} {p q n : Int} {Q : VK} (hl : H l = some (.lst (is.map V.int))) (len : is.length ≤ 6) (hb : H b = some (.lst (bx p q n))) (nbl : b ≠ l) (Bx : Box p q n) (hn : n + 30 < 1000000)
    (ht : ∀ (i : Int) (H2 : Hp) (p' n' : Int) (Q2 : VK), H2 b = some (.lst (bx p' q n')) → Box p' q n' → n' < 1000000 → (∀ (H3 : Hp) (v p3 n3 : Int), SameBut b H2 H3 → 0 ≤ v → v < (w : Int) → H3 b = some (.lst (bx p3 q n3)) → Box p3 q n3 → n3 ≤ n' + 1 → Q2 (.int v) H3) →
      te2 [some (.ref b), some (.int m), some (.int w), some (.ref l), t4, some (.int i)] H2 Q2)
    (k : ∀ (H' : Hp) (r : Addr) (ts : List Addr) (os : List (Int × Int)) (p' n' : Int), SameBut b H H' → H r = none → H' r = some (.tup (ts.map V.ref)) → OsAt H' ts os → os.map (·.1) = is → (∀ o ∈ os, 0 ≤ o.2 ∧ o.2 < (w : Int)) → H' b = some (.lst (bx p' q n')) → Box p' q n' → n' ≤ n + 6 → Q (.ref r) H') :
    tLc (iList K (tVar 3)) (gName 5) tYes (tTup (tCons (tVar 5) (tCons te2 tNil))) [5] [some (.ref b), some (.int m), some (.int w), some (.ref l), t4, t5] H fun x H1 => ∃ c ys, [x] = [V.ref c] ∧ ((SqL K H1 c ys ∧ ∀ l, H1 l = none → Q (.ref l) (upd H1 l (.tup ys))) ∨ (SqT K H1 c ys ∧ Q (.ref c) H1)) := by
  dsimp only [tLc, iList]
  refine (val_var rfl) _ ⟨l, rfl, ⟨_, SqL.of hl⟩, fun M nM => ?_⟩
  have bM : b ≠ M := ne_of_none hb nM
  have lM : l ≠ M := ne_of_none hl nM
  refine lc_list (xs := is.map V.int) (fun j H2 => ∃ (ts : List Addr) (os : List (Int × Int)) (p' n' : Int), SameBut b H H2 ∧ H2 M = some (.lst (ts.map V.ref)) ∧ OsAt H2 ts os ∧ os.map (·.1) = is.take j ∧ (∀ o ∈ os, 0 ≤ o.2 ∧ o.2 < (w : Int)) ∧ H2 b = some (.lst (bx p' q n')) ∧ Box p' q n' ∧ n' ≤ n + j)
    ⟨[], [], p, n, SameBut.of_same (same_upd nM), upd_same, .nil, rfl, fun _ h => (nomatch h), same_upd nM _ _ hb, Bx, by omega⟩ (fun j H2 _ ⟨ts, os, p', n', s2, _⟩ => SqL.of (s2 _ _ nbl.symm hl)) (fun j x H2 hj hI => ?_) fun H2 hI => ?_
  · obtain ⟨ts, os, p', n', s2, hM, a, em, ev, hb2, B2, le2⟩ := hI
    obtain ⟨i, ei, rfl⟩ : ∃ i, is[j]? = some i ∧ x = .int i := by
      rw [List.getElem?_map] at hj
      cases e : is[j]? with
      | none => rw [e] at hj; cases hj
      | some i => rw [e] at hj; exact ⟨i, rfl, (Option.some.inj hj).symm⟩
    have jlt := (List.getElem?_eq_some_iff.mp ei).1
    have ol : os.length = j := by
      have := congrArg List.length em
      rw [List.length_map, List.length_take] at this
      omega
    have al := a.len
    refine ⟨rfl, ?_⟩
    dsimp only [tYes]
    rw [if_pos rfl]
    dsimp only [tTup, tCons, tNil]
    refine (val_var rfl) _ ?_
    refine ht i H2 p' n' _ hb2 B2 (by omega) fun H3 v p3 n3 s3 v0 v1 hb3 B3 le3 => ?_
    refine ⟨by show 2 ≤ sizeLine; decide, fun t nt => ?_⟩
    have hM3 := s3 _ _ bM.symm hM
    have a3 := a.but s3 hb2
    have s4 := same_upd (o := .tup [.int i, .int v]) nt
    have a4 : OsAt (upd H3 t (.tup [.int i, .int v])) (ts ++ [t]) (os ++ [(i, v)]) := OsAt.app (Paired.mapP a3 fun t' o e => s4 _ _ e) upd_same
    have hM4 := s4 _ _ hM3
    have hb4 := s4 _ _ hb3
    have tM : t ≠ M := fun e => by rw [e, hM3] at nt; cases nt
    refine ⟨ts.map V.ref, hM4, by rw [List.length_map, al, ol]; exact Nat.lt_of_lt_of_le (show j < 7 by omega) (by decide), ts ++ [t], os ++ [(i, v)], p3, n3, ?_, ?_, a4.but (SameBut.upd M _ _) hM4, ?_, ?_, by rw [upd_ne bM]; exact hb4, B3, by omega⟩
    · intro u o nu hu
      have h3 := s4 _ _ (s3 _ _ nu (s2 _ _ nu hu))
      rw [upd_ne (ne_of_none hu nM)]
      exact h3
    · rw [List.map_append]
      exact upd_same
    · rw [List.map_append, em, List.take_add_one, ei]
      rfl
    · intro o ho
      rcases List.mem_append.mp ho with ho | ho
      · exact ev o ho
      · rw [List.mem_singleton.mp ho]
        exact ⟨v0, v1⟩
  · obtain ⟨ts, os, p', n', s2, hM, a, em, ev, hb2, B2, le2⟩ := hI
    rw [List.length_map] at em le2
    refine ⟨M, ts.map V.ref, rfl, .inl ⟨SqL.of hM, fun r nr => ?_⟩⟩
    have s5 := same_upd (o := .tup (ts.map V.ref)) nr
    have nr0 : H r = none := by
      cases e : H r with
      | none => rfl
      | some o =>
        by_cases c : r = b
        · rw [c, hb2] at nr; cases nr
        · rw [s2 _ _ c e] at nr; cases nr
    exact k _ r ts os p' n' (s2.trans (SameBut.of_same s5)) nr0 upd_same (Paired.mapP a fun t' o e => s5 _ _ e) (by rw [em, List.take_length]) ev (s5 _ _ hb2) B2 (by omega)
end
def spOutsD : Sp := fun vs H Q _ => ∃ (b : Addr) (m w : Nat) (p q n : Int), vs = [.ref b, .int m, .int w] ∧ H b = some (.lst (bx p q n)) ∧ Box p q n ∧ m ≤ 4 ∧ 1 ≤ w ∧ w ≤ 4 ∧ n + 40 < 1000000 ∧
  ∀ (H' : Hp) (r : Addr) (ts : List Addr) (os : List (Int × Int)) (p' n' : Int), SameBut b H H' → H r = none → H' r = some (.tup (ts.map V.ref)) → OsAt H' ts os → (∀ o ∈ os, -2 ≤ o.1 ∧ o.1 < (m : Int) ∧ 0 ≤ o.2 ∧ o.2 < (w : Int)) → os.length ≤ m + 2 → 0 < os.length → (os.map (·.1)).Pairwise (· < ·) → H' b = some (.lst (bx p' q n')) → Box p' q n' → n' ≤ n + 40 → Q (.ref r) H'
theorem ints_of {m : Int} {lo : Int} : ∀ {ys : List V}, (∀ y ∈ ys, y ∈ rgV lo m) → ∃ ns : List Int, ys = ns.map V.int ∧ ∀ i ∈ ns, lo ≤ i ∧ i < m
  | [], _ => ⟨[], rfl, fun _ h => nomatch h⟩
  | y :: ys, h => by
    obtain ⟨ns, e, g⟩ := ints_of (ys := ys) fun z hz => h z (List.mem_cons_of_mem _ hz)
    have hy := h y (List.mem_cons_self ..)
    unfold rgV at hy
    obtain ⟨j, hj, rfl⟩ := List.mem_map.mp hy
    have hj := List.mem_range.mp hj
    refine ⟨(lo + (j : Nat)) :: ns, by rw [List.map_cons, e], fun i hi => ?_⟩
    rcases List.mem_cons.mp hi with rfl | hi
    · omega
    · exact g i hi
theorem rgV_nodup (lo hi : Int) : (rgV lo hi).Nodup := by
  unfold rgV
  refine List.pairwise_map.mpr (List.Pairwise.imp (fun {a b} h e => h ?_) List.nodup_range)
  injection e with e
  omega
theorem rgV_asc {lo hi : Int} {js : List Int} (e : rgV lo hi = js.map V.int) : js.Pairwise (· < ·) := by
  have h : (rgV lo hi).Pairwise fun x y => ∃ i j : Int, x = .int i ∧ y = .int j ∧ i < j := by
    unfold rgV
    refine List.pairwise_map.mpr (List.Pairwise.imp (fun {a b} h => ?_) List.pairwise_lt_range)
    exact ⟨_, _, rfl, rfl, by omega⟩
  rw [e] at h
  refine (List.pairwise_map.mp h).imp fun {a b} h => ?_
  obtain ⟨i, j, e1, e2, h⟩ := h
  injection e1 with e1
  injection e2 with e2
  omega
theorem asc_of {is ns : List Int} {lo hi : Int} {rest : List V} (yp : (ns.map V.int ++ rest).Perm (rgV lo hi)) (perm : is.Perm ns) (srt : is.Pairwise (· ≤ ·)) : is.Pairwise (· < ·) := by
  have h1 : (ns.map V.int).Nodup := (List.nodup_append.mp (yp.nodup_iff.mpr (rgV_nodup lo hi))).1
  have h2 : ns.Nodup := (List.pairwise_map.mp h1).imp fun {a b} h e => h (by rw [e])
  have h3 : is.Nodup := perm.nodup_iff.mpr h2
  exact (srt.and h3).imp fun {a b} h => by
    have := h.1
    have := h.2
    omega
abbrev s__law_outcomes_of : Stmt := topS 42
abbrev nmOuts : List Str := ["_law_box_here", "_law_worths", "_law_many", "_law_some_here", "_law_later", "_law_answer"]
theorem sc__law_outcomes_of : FnScope nmOuts ["_law_box_here", "_law_worths", "_law_many"] (defScope s__law_outcomes_of) := ⟨rfl, rfl, rfl, by decide +kernel, rfl, by decide +kernel, by decide +kernel⟩
section
variable {P : Program} {w : World} {K : PySem.W.Frag} {mg : Str → Option Value} {base : Heap}
theorem ok_outs {f fT fS : Addr} {fd fdT fdS : FuncData} (B : Bt mg) (ms : mg "sorted" = none) (D : Df K mg "_law_outcomes_of" s__law_outcomes_of f fd ["_law_box_here", "_law_worths", "_law_many"])
    (DT : Df K mg "_law_take" sTake fT fdT ["_law_box_here", "_law_many"]) (DS : Df K mg "_law_some" s__law_some fS fdS ["_law_box_here", "_law_items", "_law_many"]) :
    FnOk P w K mg base CX0 3 f fd ["_law_box_here", "_law_worths", "_law_many"] spOutsD := by
  have GT : FnOk P w K mg base CX0 1 fT fdT ["_law_box_here", "_law_many"] spTake := ok_take (CX := CX0) DT.F B.m_int
  have GS : FnOk P w K mg base CX0 2 fS fdS ["_law_box_here", "_law_items", "_law_many"] (spSome K) := ok_some B DS DT
  refine D.F.ok sc__law_outcomes_of (fun vs H Q E h => ?_) (fun cdv A outer s H vs Q E hr h => ?_)
  · obtain ⟨b, m, w, p, q, n, rfl, _⟩ := h
    rfl
  · obtain ⟨b, m, w, p, q, n, rfl, hb, Bx, m4, w1, w4, hn, k⟩ := h
    have S := sc__law_outcomes_of
    refine ⟨_, (pss_cons (ps_set (i := 3) S.nd rfl (.inl rfl) (pe_callB cr_sorted (by rfl) ms (by decide +kernel) (pa_cons (pe_call GS (hr.mono (by decide)) (by rfl) DS.g DS.F.kp DS.b .nil pass0 (pa_cons (pv 0) (pa_cons (pe_listRg rfl (by rfl) B.m_list (prg_2 (by rfl) B.m_range (pe_un un_neg pe_int) (pv 1))) (pa_cons (pe_op op_add pe_int (pe_call GT (hr.mono (by decide)) (by rfl) DT.g DT.F.kp DT.b .nil pass0 (pa_cons (pv 0) (pa_cons (pe_op op_add (pv 1) pe_int) pa_nil)))) pa_nil)))) pa_nil)))
      (pss_cons (ps_if (pt_cmpR op_eq (pe_call GT (hr.mono (by decide)) (by rfl) DT.g DT.F.kp DT.b .nil pass0 (pa_cons (pv 0) (pa_cons pe_int pa_nil))) pe_int (nomark _))
        (pss_cons (ps_asg (pe_tup (pa_cons (pe_listRg rfl (by rfl) B.m_list (prg_2 (by rfl) B.m_range (pe_un un_neg pe_int) (pv 1))) (pa_cons (pe_call GT (hr.mono (by decide)) (by rfl) DT.g DT.F.kp DT.b .nil pass0 (pa_cons (pv 0) (pa_cons (pv 2) pa_nil))) pa_nil))) (pg_tup (by rfl) (pgs_cons (pg_name (i := 3) S.nd rfl (.inl rfl)) (pgs_cons (pg_name (i := 4) S.nd rfl (.inr rfl)) pgs_nil))))
        (pss_one (ps_ret (pe_callTy call_tuple_of (by rfl) B.m_tuple PyProof.Rows.boot_tuple (pa_cons (pe_lc (own := [("_law_answer", 5)]) (g := gName 5) (tt := tYes) rfl S.nd (pi_list (pv 3)) (blkOk_by (own := [("_law_answer", 5)]) (N := nmOuts) (sc := defScope s__law_outcomes_of) (by decide +kernel)) (fun _ _ _ _ _ => pg_name (i := 5) S.nd rfl (Or.inl rfl)) (fun _ _ _ _ _ => pts_nil) (fun _ _ _ _ _ => pe_tup (pa_cons (pv 5) (pa_cons (pv 4) pa_nil)))) pa_nil)))))
        pss_nil)
      (pss_one (ps_ret (pe_callTy call_tuple_of (by rfl) B.m_tuple PyProof.Rows.boot_tuple (pa_cons (pe_lc (own := [("_law_answer", 5)]) (g := gName 5) (tt := tYes) rfl S.nd (pi_list (pv 3)) (blkOk_by (own := [("_law_answer", 5)]) (N := nmOuts) (sc := defScope s__law_outcomes_of) (by decide +kernel)) (fun _ _ _ _ _ => pg_name (i := 5) S.nd rfl (Or.inl rfl)) (fun _ _ _ _ _ => pts_nil) (fun _ _ _ _ _ => pe_tup (pa_cons (pv 5) (pa_cons (pe_call GT (hr.mono (by decide)) (by rfl) DT.g DT.F.kp DT.b .nil pass0 (pa_cons (pv 0) (pa_cons (pv 2) pa_nil))) pa_nil)))) pa_nil)))))), ?_⟩
    have hns : ∀ {ns : List Int} {lo : Int}, rgV lo (m : Int) = ns.map V.int → ∀ i ∈ ns, lo ≤ i ∧ i < (m : Int) := fun {ns lo} e i hi => by
      have := List.mem_map_of_mem (f := V.int) hi
      rw [← e] at this
      unfold rgV at this
      obtain ⟨j, hj, e⟩ := List.mem_map.mp this
      injection e with e
      have hj := List.mem_range.mp hj
      omega
    dsimp only [tSeq, tAsg, tCB]
    dsimp only [tCall, tCons, tNil]
    refine (val_var rfl) _ ?_
    dsimp only [tLstRg, tRg2, tUn]
    refine val_c _ ⟨2, rfl, ?_⟩
    refine (val_var rfl) _ ⟨-2, m, rfl, rfl, ⟨by omega, by omega, by omega, by omega, by omega⟩, fun l nl => ?_⟩
    have bl : b ≠ l := ne_of_none hb nl
    have s1 := same_upd (o := .lst (rgV (-2) m)) nl
    have hl1 : (upd H l (.lst (rgV (-2) m))) l = some (.lst (rgV (-2) m)) := upd_same
    have hb1 := s1 _ _ hb
    generalize (upd H l (.lst (rgV (-2) m))) = H1 at s1 hl1 hb1 ⊢
    dsimp only [tOp]
    refine val_c _ (take_box rfl (val_i0 (val_var rfl) val_c) hb1 Bx (by omega) (by omega) (by omega) fun d p1 n1 d0 d1 B1 le1 => ?_)
    refine ⟨1, d, rfl, rfl, ?_⟩
    have ed : (1 : Int) + d = (((1 + d).toNat : Nat) : Int) := by omega
    have rl : (rgV (-2) (m : Int)).length = m + 2 := by rw [rgV_length]; omega
    refine ⟨b, l, rgV (-2) m, (1 + d).toNat, p1, q, n1, by rw [← ed]; rfl, upd_same, B1, SqL.of (by rw [upd_ne bl.symm]; exact hl1), by omega, by omega, by omega, fun H2 r ys rest p2 n2 s2 nr hr2 hb2 B2 le2 yl yp => ?_⟩
    have s02 : SameBut b H H2 := ((SameBut.of_same s1).trans (SameBut.upd b _ _)).trans s2
    obtain ⟨ns, rfl, nr2⟩ := ints_of (lo := -2) (m := m) (ys := ys) fun y hy => yp.mem_iff.mp (List.mem_append_left _ hy)
    rw [List.length_map] at yl
    refine ⟨r, ns, rfl, SqL.of hr2, by omega, fun is o perm srt no => ?_⟩
    have iasc := asc_of yp perm srt
    have ipos : 0 < is.length := by rw [perm.length_eq]; omega
    have il : is.length ≤ 6 := by rw [perm.length_eq]; omega
    have ir : ∀ i ∈ is, -2 ≤ i ∧ i < (m : Int) := fun i hi => nr2 i (perm.mem_iff.mp hi)
    have ilm : is.length ≤ m + 2 := by rw [perm.length_eq]; omega
    have bo : b ≠ o := ne_of_none hb2 no
    have s3 := same_upd (o := .lst (is.map V.int)) no
    have ho3 : (upd H2 o (.lst (is.map V.int))) o = some (.lst (is.map V.int)) := upd_same
    have hb3 := s3 _ _ hb2
    have s03 := s02.trans (SameBut.of_same s3)
    generalize (upd H2 o (.lst (is.map V.int))) = H3 at s3 ho3 hb3 s03 ⊢
    dsimp only [gName]
    dsimp only [tSeq, tIfS, tTest, tOp]
    refine take_box rfl val_c hb3 B2 (by decide) (by decide) (by omega) fun d2 p3 n3 d20 d21 B3 le3 => ?_
    have s04 := s03.trans (SameBut.upd b H3 (.lst (bx p3 q n3)))
    have hb4 : (upd H3 b (.lst (bx p3 q n3))) b = some (.lst (bx p3 q n3)) := upd_same
    have ho4 : (upd H3 b (.lst (bx p3 q n3))) o = some (.lst (is.map V.int)) := by rw [upd_ne bo.symm]; exact ho3
    generalize (upd H3 b (.lst (bx p3 q n3))) = H4 at s04 hb4 ho4 ⊢
    have kfin : ∀ {lo : Int} {js : List Int}, (-2 ≤ lo) → (∀ i ∈ js, lo ≤ i ∧ i < (m : Int)) → js.length ≤ m + 2 → 0 < js.length → js.Pairwise (· < ·) → ∀ {H5 : Hp} {n5 : Int}, SameBut b H H5 → (∀ u, H5 u = none → H u = none) → n5 ≤ n + 20 → ∀ (H' : Hp) (r : Addr) (ts : List Addr) (os : List (Int × Int)) (p' n' : Int), SameBut b H5 H' → H5 r = none → H' r = some (.tup (ts.map V.ref)) → OsAt H' ts os → os.map (·.1) = js → (∀ o ∈ os, 0 ≤ o.2 ∧ o.2 < (w : Int)) → H' b = some (.lst (bx p' q n')) → Box p' q n' → n' ≤ n5 + 6 → Q (.ref r) H' := by
      intro lo js h2 hjs hlen hpos hasc H5 n5 s5 fr5 le5 H' r ts os p' n' s6 nr6 hr6 a6 em ev hb6 B6 le6
      refine k H' r ts os p' n' (s5.trans s6) (fr5 _ nr6) hr6 a6 (fun o ho => ?_) ?_ ?_ ?_ hb6 B6 (by omega)
      · have := hjs o.1 (by rw [← em]; exact List.mem_map_of_mem ho)
        have := ev o ho
        omega
      · have := congrArg List.length em
        rw [List.length_map] at this
        omega
      · have := congrArg List.length em
        rw [List.length_map] at this
        omega
      · rw [em]
        exact hasc
    have fr : ∀ {H5 : Hp}, SameBut b H H5 → (∃ o, H5 b = some o) → ∀ u, H5 u = none → H u = none := fun {H5} s5 ⟨o, hb5⟩ u nu => by
      cases e : H u with
      | none => rfl
      | some o =>
        by_cases c : u = b
        · rw [c, hb5] at nu; cases nu
        · rw [s5 _ _ c e] at nu; cases nu
    refine val_c _ ⟨rfl, _, rfl, ?_⟩
    cases decide (V.int d2 = V.int 0) with
    | false =>
      refine iteF ?_
      try dsimp only [tNext, tSeq, tRet]
      dsimp only [tCB]
      refine outs_lc (b := b) (l := o) (m := m) (w := w) (t4 := none) (t5 := none) (is := is) (p := p3) (q := q) (n := n3) ho4 il hb4 bo B3 (by omega) (fun i H5 p' n' Q2 h5 B5 le5 g => ?_) ?_
      · refine take_box rfl (val_var rfl) h5 B5 (by omega) (by omega) le5 fun v p6 n6 v0 v1 B6 le6 => ?_
        exact g _ v p6 n6 (SameBut.upd b _ _) v0 v1 upd_same B6 le6
      · exact kfin (by decide) ir ilm ipos iasc s04 (fr s04 ⟨_, hb4⟩) (by omega)
    | true =>
      refine iteT ?_
      dsimp only [tAsg, tTup, tCons, tNil]
      dsimp only [tLstRg, tRg2, tUn]
      refine val_c _ ⟨1, rfl, ?_⟩
      refine (val_var rfl) _ ⟨-1, m, rfl, rfl, ⟨by omega, by omega, by omega, by omega, by omega⟩, fun l2 nl2 => ?_⟩
      have bl2 : b ≠ l2 := ne_of_none hb4 nl2
      have s5 := same_upd (o := .lst (rgV (-1) m)) nl2
      have hl5 : (upd H4 l2 (.lst (rgV (-1) m))) l2 = some (.lst (rgV (-1) m)) := upd_same
      have hb5 := s5 _ _ hb4
      have s05 := s04.trans (SameBut.of_same s5)
      generalize (upd H4 l2 (.lst (rgV (-1) m))) = H5 at s05 hl5 hb5 ⊢
      refine take_box rfl (val_var rfl) hb5 B3 (by omega) (by omega) (by omega) fun v p6 n6 v0 v1 B6 le6 => ?_
      have s06 := s05.trans (SameBut.upd b H5 (.lst (bx p6 q n6)))
      have hb6 : (upd H5 b (.lst (bx p6 q n6))) b = some (.lst (bx p6 q n6)) := upd_same
      have hl6 : (upd H5 b (.lst (bx p6 q n6))) l2 = some (.lst (rgV (-1) m)) := by rw [upd_ne bl2.symm]; exact hl5
      generalize (upd H5 b (.lst (bx p6 q n6))) = H6 at s06 hb6 hl6 ⊢
      refine ⟨by show 2 ≤ sizeLine; decide, fun u nu => ?_⟩
      have s7 := same_upd (o := .tup [.ref l2, .int v]) nu
      have hu : (upd H6 u (.tup [.ref l2, .int v])) u = some (.tup [.ref l2, .int v]) := upd_same
      have hb7 := s7 _ _ hb6
      have hl7 := s7 _ _ hl6
      have s07 := s06.trans (SameBut.of_same s7)
      generalize (upd H6 u (.tup [.ref l2, .int v])) = H7 at s07 hu hb7 hl7 ⊢
      refine ⟨u, _, rfl, SqT.of hu, rfl, _, _, rfl, _, _, rfl, rfl, ?_⟩
      try dsimp only [gName]
      try dsimp only [tNext, tSeq, tRet]
      dsimp only [tCB]
      obtain ⟨js, ej, jr⟩ := ints_of (lo := -1) (m := m) (ys := rgV (-1) m) fun _ h => h
      rw [ej] at hl7
      have jl : js.length = m + 1 := by
        have := congrArg List.length ej
        rw [rgV_length, List.length_map] at this
        omega
      refine outs_lc (b := b) (l := l2) (m := m) (w := w) (t4 := some (.int v)) (t5 := none) (is := js) (p := p6) (q := q) (n := n6) hl7 (by omega) hb7 bl2 B6 (by omega) (fun i H8 p' n' Q2 h8 B8 le8 g => ?_) ?_
      · exact (val_var rfl) _ (g _ v p' n' (SameBut.of_same (Same.refl _)) v0 v1 h8 B8 (by omega))
      · exact kfin (by decide) jr (by omega) (by omega) (rgV_asc ej) s07 (fr s07 ⟨_, hb7⟩) (by omega)
end
end K5
namespace K5
open PySem PySem.Spec PyProof.Rows L2
/-! ### the order of texts and of rows -/
def SLt (a b : Str) : Prop := a.cps.toList < b.cps.toList
def RLt (a b : Str × Nat) : Prop := SLt a.1 b.1 ∨ (a.1 = b.1 ∧ a.2 < b.2)
theorem rising_pw : ∀ {l : List Str} {p : Str}, risingS p l = true → (p :: l).Pairwise fun a b => ¬ b.cps.toList < a.cps.toList
  | [], p, _ => List.pairwise_singleton _ _
  | x :: r, p, h => by
    unfold risingS at h
    rw [Bool.and_eq_true, Bool.not_eq_true', ltCps_eq] at h
    have h1 : ¬ x.cps.toList < p.cps.toList := of_decide_eq_false h.1
    have ih := rising_pw h.2
    refine List.pairwise_cons.mpr ⟨fun y hy => ?_, ih⟩
    rcases List.mem_cons.mp hy with rfl | hy
    · exact h1
    · have h2 := (List.pairwise_cons.mp ih).1 y hy
      exact List.le_trans (show p.cps.toList ≤ x.cps.toList from h1) (show x.cps.toList ≤ y.cps.toList from h2)
theorem sorted_pw {l : List Str} (h : sortedS l = true) : l.Pairwise fun a b => ¬ b.cps.toList < a.cps.toList := by
  cases l with
  | nil => exact .nil
  | cons x r => exact rising_pw h
theorem sorted_lt {l : List Str} (h : sortedS l = true) (nd : l.Nodup) : l.Pairwise SLt :=
  ((sorted_pw h).and nd).imp fun {a b} h => by
    have h1 : a.cps.toList ≤ b.cps.toList := h.1
    by_cases h2 : a.cps.toList < b.cps.toList
    · exact h2
    · have e : a.cps.toList = b.cps.toList := List.le_antisymm h1 h2
      refine absurd ?_ h.2
      cases a
      cases b
      congr
      exact Array.toList_inj.mp e
theorem strs_nodup {ds zs : List Str} {pool : List Str} {rest : List V} (pn : pool.Nodup) (yp : (zs.map V.str ++ rest).Perm (pool.map V.str)) (perm : ds.Perm zs) : ds.Nodup := by
  have h0 : (pool.map V.str).Nodup := List.pairwise_map.mpr (pn.imp fun {a b} h e => h (by injection e))
  have h1 : (zs.map V.str).Nodup := (List.nodup_append.mp (yp.nodup_iff.mpr h0)).1
  have h2 : zs.Nodup := (List.pairwise_map.mp h1).imp fun {a b} h e => h (by rw [e])
  exact perm.nodup_iff.mpr h2
/-- what is asked of a row of a pact of so many worths and states -/
def RowX (m w : Nat) (r : (Str × Nat) × List (Int × Int)) : Prop := r.1.2 < m ∧ 0 < r.2.length ∧ (r.2.map (·.1)).Pairwise (· < ·) ∧ ∀ o ∈ r.2, -2 ≤ o.1 ∧ o.1 < (m : Int) ∧ 0 ≤ o.2 ∧ o.2 < (w : Int)
def StX (m w : Nat) (s : List ((Str × Nat) × List (Int × Int))) : Prop := (s.map (·.1)).Pairwise RLt ∧ ∀ r ∈ s, RowX m w r
theorem pw_snoc {α : Type} {R : α → α → Prop} {l : List α} {x : α} (h : l.Pairwise R) (k : ∀ y ∈ l, R y x) : (l ++ [x]).Pairwise R :=
  List.pairwise_append.mpr ⟨h, List.pairwise_singleton _ _, fun a ha b hb => by rw [List.mem_singleton.mp hb]; exact k a ha⟩
end K5
namespace K5
open PySem PySem.Spec PyProof.Rows L2
/-! ### a drawn pact -/
abbrev RwD := (Str × Nat) × List (Int × Int)
def OuAt (H : Hp) (o : Addr) (os : List (Int × Int)) : Prop := ∃ ts : List Addr, H o = some (.tup (ts.map V.ref)) ∧ OsAt H ts os
def RowD (H : Hp) (t : Addr) (r : RwD) : Prop := ∃ o, H t = some (.tup [.str r.1.1, .int r.1.2, .ref o]) ∧ OuAt H o r.2
def StD (H : Hp) (p : Addr) (rs : List RwD) : Prop := ∃ ts : List Addr, H p = some (.tup (ts.map V.ref)) ∧ Paired (RowD H) ts rs
/-- tuples stay -/
def TKeep (H H' : Hp) : Prop := ∀ b xs, H b = some (.tup xs) → H' b = some (.tup xs)
theorem TKeep.same {H H' : Hp} (s : Same H H') : TKeep H H' := fun b xs h => s _ _ h
theorem TKeep.but {H H' : Hp} {b : Addr} {l : List V} (s : SameBut b H H') (h : H b = some (.lst l)) : TKeep H H' := fun c xs hc => s _ _ (fun e => by rw [e, h] at hc; cases hc) hc
theorem OuAt.mono {H H' : Hp} (k : TKeep H H') {o : Addr} {os : List (Int × Int)} (h : OuAt H o os) : OuAt H' o os := by
  obtain ⟨ts, h1, h2⟩ := h
  exact ⟨ts, k _ _ h1, Paired.mapP h2 fun t q e => k _ _ e⟩
theorem RowD.mono {H H' : Hp} (k : TKeep H H') {t : Addr} {r : RwD} (h : RowD H t r) : RowD H' t r := by
  obtain ⟨o, h1, h2⟩ := h
  exact ⟨o, k _ _ h1, h2.mono k⟩
theorem StD.mono {H H' : Hp} (k : TKeep H H') {p : Addr} {rs : List RwD} (h : StD H p rs) : StD H' p rs := by
  obtain ⟨ts, h1, h2⟩ := h
  exact ⟨ts, k _ _ h1, Paired.mapP h2 fun t q e => e.mono k⟩
theorem paired_app {α β : Type} {R : α → β → Prop} : ∀ {l : List α} {m : List β} {a : α} {b : β}, Paired R l m → R a b → Paired R (l ++ [a]) (m ++ [b])
  | _, _, _, _, .nil, h => .cons h .nil
  | _, _, _, _, .cons x r, h => .cons x (paired_app r h)
def poolD : List Str := ["get", "state", "put", "lost", "busy", "a", "abcdefgh", "x", "zz"]
def OsOk (os : List (Int × Int)) : Prop := os.length ≤ 6 ∧ ∀ o ∈ os, -2 ≤ o.1 ∧ o.1 < 4 ∧ 0 ≤ o.2 ∧ o.2 < 4
def RowOk (r : RwD) : Prop := r.1.1 ∈ poolD ∧ r.1.2 < 4 ∧ OsOk r.2
def spPactD : Sp := fun vs H Q _ => ∃ (b : Addr) (m : Nat) (p q n : Int), vs = [.ref b, .int m] ∧ H b = some (.lst (bx p q n)) ∧ Box p q n ∧ m ≤ 4 ∧ n + 4000 < 1000000 ∧
  ∀ (H' : Hp) (r : Addr) (ps : List Addr) (sts : List (List RwD)) (p' n' : Int), SameBut b H H' → H r = none → H' r = some (.tup (ps.map V.ref)) → Paired (StD H') ps sts → (∀ s ∈ sts, s.length ≤ 12 ∧ ∀ w ∈ s, RowOk w) → sts.length ≤ 4 → 0 < sts.length → (∀ s ∈ sts, StX m sts.length s) → H' b = some (.lst (bx p' q n')) → Box p' q n' → n' ≤ n + 4000 → Q (.ref r) H'
structure Pk (mm ww : Nat) (H : Hp) (b D S : Addr) (ds : List Str) (q : Int) (H' : Hp) (ps : List Addr) (sts : List (List RwD)) (p' n' : Int) : Prop where
  sb : SameBut b H H'
  hd : H' D = some (.lst (ds.map V.str))
  hs : H' S = some (.lst (ps.map V.ref))
  hp : Paired (StD H') ps sts
  ok : ∀ s ∈ sts, s.length ≤ 12 ∧ ∀ w ∈ s, RowOk w
  hb : H' b = some (.lst (bx p' q n'))
  bo : Box p' q n'
  stx : ∀ s ∈ sts, StX mm ww s
theorem Pk.step {mm ww : Nat} {H H1 H2 : Hp} {b D S : Addr} {ds : List Str} {q p1 n1 p2 n2 : Int} {ps : List Addr} {sts : List (List RwD)} (x : Pk mm ww H b D S ds q H1 ps sts p1 n1) (s : SameBut b H1 H2) (bD : b ≠ D) (bS : b ≠ S) (hb2 : H2 b = some (.lst (bx p2 q n2))) (B2 : Box p2 q n2) : Pk mm ww H b D S ds q H2 ps sts p2 n2 :=
  ⟨x.sb.trans s, s _ _ bD.symm x.hd, s _ _ bS.symm x.hs, Paired.mapP x.hp fun _ _ e => e.mono (TKeep.but s x.hb), x.ok, hb2, B2, x.stx⟩
theorem Pk.same {mm ww : Nat} {H H1 H2 : Hp} {b D S : Addr} {ds : List Str} {q p1 n1 : Int} {ps : List Addr} {sts : List (List RwD)} (x : Pk mm ww H b D S ds q H1 ps sts p1 n1) (s : Same H1 H2) : Pk mm ww H b D S ds q H2 ps sts p1 n1 :=
  ⟨x.sb.trans (SameBut.of_same s), s _ _ x.hd, s _ _ x.hs, Paired.mapP x.hp fun _ _ e => e.mono (TKeep.same s), x.ok, s _ _ x.hb, x.bo, x.stx⟩
/-- a list of ours grows -/
theorem Pk.list {mm ww : Nat} {H H1 : Hp} {b D S R : Addr} {ds : List Str} {q p1 n1 : Int} {ps : List Addr} {sts : List (List RwD)} {l l' : List V} (x : Pk mm ww H b D S ds q H1 ps sts p1 n1) (hr : H1 R = some (.lst l)) (nR : H R = none) (bR : b ≠ R) (DR : D ≠ R) (SR : S ≠ R) : Pk mm ww H b D S ds q (upd H1 R (.lst l')) ps sts p1 n1 :=
  ⟨fun u o nu hu => by rw [upd_ne (ne_of_none hu nR)]; exact x.sb _ _ nu hu, by rw [upd_ne DR]; exact x.hd, by rw [upd_ne SR]; exact x.hs, Paired.mapP x.hp fun _ _ e => e.mono (TKeep.but (SameBut.upd R H1 _) hr), x.ok, by rw [upd_ne bR]; exact x.hb, x.bo, x.stx⟩
structure Rk (mm ww : Nat) (H : Hp) (b D S R : Addr) (ds : List Str) (q : Int) (H' : Hp) (ps : List Addr) (sts : List (List RwD)) (p' n' : Int) (ts : List Addr) (rs : List RwD) : Prop where
  pk : Pk mm ww H b D S ds q H' ps sts p' n'
  hr : H' R = some (.lst (ts.map V.ref))
  rr : Paired (RowD H') ts rs
  okr : ∀ w ∈ rs, RowOk w
  rx : StX mm ww rs
theorem Rk.step {mm ww : Nat} {H H1 H2 : Hp} {b D S R : Addr} {ds : List Str} {q p1 n1 p2 n2 : Int} {ps ts : List Addr} {sts : List (List RwD)} {rs : List RwD} (x : Rk mm ww H b D S R ds q H1 ps sts p1 n1 ts rs) (s : SameBut b H1 H2) (bD : b ≠ D) (bS : b ≠ S) (bR : b ≠ R) (hb2 : H2 b = some (.lst (bx p2 q n2))) (B2 : Box p2 q n2) : Rk mm ww H b D S R ds q H2 ps sts p2 n2 ts rs :=
  ⟨x.pk.step s bD bS hb2 B2, s _ _ bR.symm x.hr, Paired.mapP x.rr fun _ _ e => e.mono (TKeep.but s x.pk.hb), x.okr, x.rx⟩
theorem Rk.push {mm ww : Nat} {H H1 : Hp} {b D S R t o : Addr} {ds : List Str} {q p1 n1 : Int} {ps ts : List Addr} {sts : List (List RwD)} {rs : List RwD} {r : RwD} (x : Rk mm ww H b D S R ds q H1 ps sts p1 n1 ts rs) (nt : H1 t = none) (ho : OuAt H1 o r.2) (ok : RowOk r) (xr : RowX mm ww r) (bef : ∀ y ∈ rs, RLt y.1 r.1) (nR : H R = none) (bR : b ≠ R) (DR : D ≠ R) (SR : S ≠ R) :
    Rk mm ww H b D S R ds q (upd (upd H1 t (.tup [.str r.1.1, .int r.1.2, .ref o])) R (.lst (ts.map V.ref ++ [.ref t]))) ps sts p1 n1 (ts ++ [t]) (rs ++ [r]) := by
  have s := same_upd (o := .tup [.str r.1.1, .int r.1.2, .ref o]) nt
  have hR := s _ _ x.hr
  have tR : t ≠ R := fun e => by rw [e, x.hr] at nt; cases nt
  have tk : TKeep (upd H1 t (.tup [.str r.1.1, .int r.1.2, .ref o])) (upd (upd H1 t (.tup [.str r.1.1, .int r.1.2, .ref o])) R (.lst (ts.map V.ref ++ [.ref t]))) := TKeep.but (SameBut.upd R _ _) hR
  refine ⟨(x.pk.same s).list hR nR bR DR SR, by rw [List.map_append]; exact upd_same, paired_app (Paired.mapP x.rr fun _ _ e => (e.mono (TKeep.same s)).mono tk) ⟨o, by rw [upd_ne tR]; exact upd_same, (ho.mono (TKeep.same s)).mono tk⟩, fun w hw => ?_, ?_, fun w hw => ?_⟩
  · rcases List.mem_append.mp hw with hw | hw
    · exact x.okr w hw
    · rw [List.mem_singleton.mp hw]
      exact ok
  · rw [List.map_append]
    refine pw_snoc x.rx.1 fun y hy => ?_
    obtain ⟨y', h1, rfl⟩ := List.mem_map.mp hy
    exact bef y' h1
  · rcases List.mem_append.mp hw with hw | hw
    · exact x.rx.2 w hw
    · rw [List.mem_singleton.mp hw]
      exact xr
theorem strs_of {xs : List Str} : ∀ {ys : List V}, (∀ y ∈ ys, y ∈ xs.map V.str) → ∃ zs : List Str, ys = zs.map V.str ∧ ∀ z ∈ zs, z ∈ xs
  | [], _ => ⟨[], rfl, fun _ h => nomatch h⟩
  | y :: ys, h => by
    obtain ⟨zs, e, g⟩ := strs_of (ys := ys) fun z hz => h z (List.mem_cons_of_mem _ hz)
    obtain ⟨z, hz, rfl⟩ := List.mem_map.mp (h y (List.mem_cons_self ..))
    refine ⟨z :: zs, by rw [List.map_cons, e], fun i hi => ?_⟩
    rcases List.mem_cons.mp hi with rfl | hi
    · exact hz
    · exact g i hi
abbrev tRows (K : PySem.W.Frag) : TS := tIfS (tTest (tOp rNotN (tVar 9) (tC .non))) (tDrop (tBM K "list" rAppend (tVar 7) (tCons (tTup (tCons (tVar 8) (tCons (tVar 10) (tCons (tVar 9) tNil)))) tNil))) (tIfS (tTest (tOp (rI0 fun i j => V.bl (decide (j < i))) (tCall spTake [] E0 (tCons (tVar 0) (tCons (tC (V.int 3)) tNil))) (tC (V.int 0)))) (tDrop (tBM K "list" rAppend (tVar 7) (tCons (tTup (tCons (tVar 8) (tCons (tVar 10) (tCons (tCall spOutsD [] E0 (tCons (tVar 0) (tCons (tVar 1) (tCons (tVar 4) tNil)))) tNil)))) tNil))) tNext)
theorem worths_loop {K : PySem.W.Frag} {D0 : Ends} {H H8 : Hp} {b D S R : Addr} {L : Addr} {m w : Nat} {ds : List Str} {q p8 n8 : Int} {ps ts : List Addr} {sts : List (List RwD)} {rs : List RwD} {z : Str} {av : V} {t6 t10 : Option V} (bD : b ≠ D) (bS : b ≠ S) (bR : b ≠ R) (nR : H R = none) (DR : D ≠ R) (SR : S ≠ R)
    (rk : Rk m w H b D S R ds q H8 ps sts p8 n8 ts rs) (hz : z ∈ poolD) (al : av = .non ∨ ∃ o os, av = .ref o ∧ OuAt H8 o os ∧ OsOk os ∧ ∀ c : Nat, c < m → RowX m w ((z, c), os)) (bz : ∀ y ∈ rs, SLt y.1.1 z) (m4 : m ≤ 4) (w1 : 1 ≤ w) (w4 : w ≤ 4) (rl : rs.length ≤ 20) (hn : n8 + 300 < 1000000)
    (hd : ∀ (t10 : Option V) (H' : Hp) (p' n' : Int) (ts' : List Addr) (rs' : List RwD), Rk m w H b D S R ds q H' ps sts p' n' ts' rs' → rs'.length ≤ rs.length + 4 → (∀ y ∈ rs', y ∈ rs ∨ y.1.1 = z) → n' ≤ n8 + 180 → D0.nx [some (.ref b), some (.int m), some (.ref L), some (.ref D), some (.int w), some (.ref S), t6, some (.ref R), some (.str z), some av, t10] H') :
    tFor (iRng1 (tCons (tVar 1) tNil)) (gName 10) (tRows K) D0 [some (.ref b), some (.int m), some (.ref L), some (.ref D), some (.int w), some (.ref S), t6, some (.ref R), some (.str z), some av, t10] H8 := by
  refine ⟨.int m, rfl, m, rfl, by omega, by omega, ?_⟩
  show ∃ W : Nat → Nat → L2.St → Hp → Prop, _
  refine for_range (lo := 0) (n := (m : Int).toNat) (fun c σ H' => ∃ (t10 : Option V) (p' n' : Int) (ts' : List Addr) (rs' : List RwD), σ = [some (.ref b), some (.int m), some (.ref L), some (.ref D), some (.int w), some (.ref S), t6, some (.ref R), some (.str z), some av, t10] ∧ Rk m w H b D S R ds q H' ps sts p' n' ts' rs' ∧ rs'.length ≤ rs.length + c ∧ (∀ y ∈ rs', y ∈ rs ∨ (y.1.1 = z ∧ y.1.2 < c)) ∧ n' ≤ n8 + 42 * c ∧ TKeep H8 H') ?_ ?_ ?_
  · exact ⟨t10, p8, n8, ts, rs, rfl, rk, by omega, fun y hy => .inl hy, by omega, fun _ _ h => h⟩
  · rintro c σ H9 hc ⟨t10, p9, n9, ts9, rs9, rfl, rk9, rl9, bz9, le9, tk9⟩
    have tl : ts9.length = rs9.length := Paired.length rk9.rr
    rw [show (0 : Int) + (c : Nat) = (c : Nat) by omega]
    have bef : ∀ y ∈ rs9, RLt y.1 (z, c) := fun y hy => (bz9 y hy).elim (fun h => .inl (bz y h)) fun h => .inr h
    have bzn : ∀ y ∈ rs9, y ∈ rs ∨ (y.1.1 = z ∧ y.1.2 < c + 1) := fun y hy => (bz9 y hy).imp id fun h => ⟨h.1, by omega⟩
    have bzp : ∀ os : List (Int × Int), ∀ y ∈ rs9 ++ [((z, c), os)], y ∈ rs ∨ (y.1.1 = z ∧ y.1.2 < c + 1) := fun os y hy => by
      rcases List.mem_append.mp hy with hy | hy
      · exact bzn y hy
      · rw [List.mem_singleton.mp hy]
        exact .inr ⟨rfl, Nat.lt_succ_self _⟩
    dsimp only [gName]
    dsimp only [tRows, tIfS, tTest, tOp]
    refine (val_var rfl) _ (val_c _ ?_)
    rcases al with rfl | ⟨o, os, rfl, ho, ok, okx⟩
    · refine ⟨rfl, _, rfl, iteF ?_⟩
      refine take_box rfl val_c rk9.pk.hb rk9.pk.bo (by decide) (by decide) (by omega) fun d p1 n1 d0 d1 B1 le1 => ?_
      have rk1 := rk9.step (SameBut.upd b H9 (.lst (bx p1 q n1))) bD bS bR upd_same B1
      have tk1 := TKeep.but (SameBut.upd b H9 (.lst (bx p1 q n1))) rk9.pk.hb
      generalize (upd H9 b (.lst (bx p1 q n1))) = H10 at rk1 tk1 ⊢
      refine val_c _ ⟨d, 0, rfl, rfl, _, rfl, ?_⟩
      cases decide ((0 : Int) < d) with
      | false =>
        refine iteF ?_
        exact ⟨_, p1, n1, ts9, rs9, rfl, rk1, by omega, bzn, by omega, fun b xs h => tk1 _ _ (tk9 _ _ h)⟩
      | true =>
        refine iteT ?_
        dsimp only [tDrop, tBM, tTup, tCons, tNil]
        refine (val_var rfl) _ ?_
        refine ⟨.inl ⟨rfl, _, SqL.of rk1.hr⟩, (val_var rfl) _ ((val_var rfl) _ ?_)⟩
        dsimp only [tCall, tCons, tNil]
        refine (val_var rfl) _ ((val_var rfl) _ ((val_var rfl) _ ?_))
        refine ⟨b, m, w, p1, q, n1, rfl, rk1.pk.hb, rk1.pk.bo, m4, w1, w4, by omega, fun H11 o2 ts2 os2 p2 n2 s11 no2 ho2 a2 ev2 ol2 op2 oa2 hb2 B2 le2 => ?_⟩
        have rk2 := rk1.step s11 bD bS bR hb2 B2
        have tk2 := TKeep.but s11 rk1.pk.hb
        refine ⟨by show 3 ≤ sizeLine; decide, fun t nt => ?_⟩
        have ok2 : RowOk ((z, c), os2) := ⟨hz, (show c < 4 by omega), (show os2.length ≤ 6 by omega), fun o ho => by have := ev2 o ho; omega⟩
        have rk3 := rk2.push (r := ((z, c), os2)) nt ⟨ts2, ho2, a2⟩ ok2 ⟨(show c < m from hc), op2, oa2, fun o ho => by have := ev2 o ho; exact ⟨by omega, by omega, by omega, by omega⟩⟩ bef nR bR DR SR
        have s12 := same_upd (o := .tup [.str z, .int (c : Nat), .ref o2]) nt
        have hR' := s12 _ _ rk2.hr
        refine ⟨R, ts9.map V.ref, .ref t, rfl, rfl, hR', ?_, ?_⟩
        · rw [List.length_map, tl]
          exact Nat.lt_of_lt_of_le (show rs9.length < 100 by omega) (by decide)
        · exact ⟨_, p2, n2, ts9 ++ [t], rs9 ++ [((z, c), os2)], rfl, rk3, by rw [List.length_append]; show rs9.length + 1 ≤ _; omega, bzp _, by omega, fun u xs h => TKeep.but (SameBut.upd R _ _) hR' _ _ (s12 _ _ (tk2 _ _ (tk1 _ _ (tk9 _ _ h))))⟩
    · refine ⟨rfl, _, rfl, iteT ?_⟩
      dsimp only [tDrop, tBM, tTup, tCons, tNil]
      refine (val_var rfl) _ ?_
      refine ⟨.inl ⟨rfl, _, SqL.of rk9.hr⟩, (val_var rfl) _ ((val_var rfl) _ ((val_var rfl) _ ?_))⟩
      refine ⟨by show 3 ≤ sizeLine; decide, fun t nt => ?_⟩
      have ok2 : RowOk ((z, c), os) := ⟨hz, (show c < 4 by omega), ok⟩
      have rk3 := rk9.push (r := ((z, c), os)) nt (ho.mono tk9) ok2 (okx c hc) bef nR bR DR SR
      have s12 := same_upd (o := .tup [.str z, .int (c : Nat), .ref o]) nt
      have hR' := s12 _ _ rk9.hr
      refine ⟨R, ts9.map V.ref, .ref t, rfl, rfl, hR', ?_, ?_⟩
      · rw [List.length_map, tl]
        exact Nat.lt_of_lt_of_le (show rs9.length < 100 by omega) (by decide)
      · exact ⟨_, p9, n9, ts9 ++ [t], rs9 ++ [((z, c), os)], rfl, rk3, by rw [List.length_append]; show rs9.length + 1 ≤ _; omega, bzp _, by omega, fun u xs h => TKeep.but (SameBut.upd R _ _) hR' _ _ (s12 _ _ (tk9 _ _ h))⟩
  · rintro σ H9 ⟨t10, p9, n9, ts9, rs9, rfl, rk9, rl9, bz9, le9, _⟩
    exact hd t10 H9 p9 n9 ts9 rs9 rk9 (by omega) (fun y hy => (bz9 y hy).imp id fun h => h.1) (by omega)
abbrev s__law_pact : Stmt := topS 43
abbrev nmPact : List Str := ["_law_box_here", "_law_worths", "_law_pool", "_law_doors", "_law_many", "_law_states", "_law_number", "_law_rows", "_law_door", "_law_alike", "_law_worth"]
theorem sc__law_pact : FnScope nmPact ["_law_box_here", "_law_worths"] (defScope s__law_pact) := ⟨rfl, rfl, rfl, by decide +kernel, rfl, by decide +kernel, by decide +kernel⟩
section
variable {P : Program} {w : World} {K : PySem.W.Frag} {mg : Str → Option Value} {base : Heap}
theorem ok_pactD {f fT fS fO : Addr} {fd fdT fdS fdO : FuncData} (B : Bt mg) (ms : mg "sorted" = none) (D : Df K mg "_law_pact" s__law_pact f fd ["_law_box_here", "_law_worths"])
    (DT : Df K mg "_law_take" sTake fT fdT ["_law_box_here", "_law_many"]) (DS : Df K mg "_law_some" s__law_some fS fdS ["_law_box_here", "_law_items", "_law_many"]) (DO : Df K mg "_law_outcomes_of" s__law_outcomes_of fO fdO ["_law_box_here", "_law_worths", "_law_many"]) :
    FnOk P w K mg base CX0 4 f fd ["_law_box_here", "_law_worths"] spPactD := by
  have GT : FnOk P w K mg base CX0 1 fT fdT ["_law_box_here", "_law_many"] spTake := ok_take (CX := CX0) DT.F B.m_int
  have GS : FnOk P w K mg base CX0 2 fS fdS ["_law_box_here", "_law_items", "_law_many"] (spSome K) := ok_some B DS DT
  have GO : FnOk P w K mg base CX0 3 fO fdO ["_law_box_here", "_law_worths", "_law_many"] spOutsD := ok_outs B ms DO DT DS
  refine D.F.ok sc__law_pact (fun vs H Q E h => ?_) (fun cdv A outer s H vs Q E hr h => ?_)
  · obtain ⟨b, m, p, q, n, rfl, _⟩ := h
    rfl
  · obtain ⟨b, m, p, q, n, rfl, hb, Bx, m4, hn, k⟩ := h
    have S := sc__law_pact
    refine ⟨_, (pss_cons (ps_set (i := 2) S.nd rfl (.inl rfl) (pe_lst (pa_cons pe_str (pa_cons pe_str (pa_cons pe_str (pa_cons pe_str (pa_cons pe_str (pa_cons pe_str (pa_cons pe_str (pa_cons pe_str (pa_cons pe_str pa_nil)))))))))))
      (pss_cons (ps_par3 (i := 3) (j := 4) (l := 5) (by rfl) S.nd rfl rfl rfl (by decide) (by decide) (by decide) rfl rfl rfl (pa_cons (pe_callB cr_sortedS (by rfl) ms (by decide +kernel) (pa_cons (pe_call GS (hr.mono (by decide)) (by rfl) DS.g DS.F.kp DS.b .nil pass0 (pa_cons (pv 0) (pa_cons (pv 2) (pa_cons (pe_op op_add pe_int (pe_call GT (hr.mono (by decide)) (by rfl) DT.g DT.F.kp DT.b .nil pass0 (pa_cons (pv 0) (pa_cons pe_int pa_nil)))) pa_nil)))) pa_nil))
          (pa_cons (pe_op op_add pe_int (pe_call GT (hr.mono (by decide)) (by rfl) DT.g DT.F.kp DT.b .nil pass0 (pa_cons (pv 0) (pa_cons pe_int pa_nil)))) (pa_cons (pe_lst pa_nil) pa_nil))) (by rfl))
      (pss_cons (ps_for PassesOwn.never rfl (pi_range1 (by rfl) B.m_range (pa_cons (pv 4) pa_nil)) (pg_name (i := 6) S.nd rfl (.inl rfl))
        (pss_cons (ps_set (i := 7) S.nd rfl (.inl rfl) (pe_lst pa_nil))
        (pss_cons (ps_for PassesOwn.never rfl (pi_list (pv 3)) (pg_name (i := 8) S.nd rfl (.inl rfl))
          (pss_cons (ps_set (i := 9) S.nd rfl (.inl rfl) (pe_ifExp (pt_cmpR op_eq (pe_call GT (hr.mono (by decide)) (by rfl) DT.g DT.F.kp DT.b .nil pass0 (pa_cons (pv 0) (pa_cons pe_int pa_nil))) pe_int (nomark _)) (pe_call GO (hr.mono (by decide)) (by rfl) DO.g DO.F.kp DO.b .nil pass0 (pa_cons (pv 0) (pa_cons (pv 1) (pa_cons (pv 4) pa_nil)))) pe_non))
          (pss_one (ps_for PassesOwn.never rfl (pi_range1 (by rfl) B.m_range (pa_cons (pv 1) pa_nil)) (pg_name (i := 10) S.nd rfl (.inl rfl))
            (pss_one (ps_if (pt_cmpR op_notN1 (pv 9) pe_non (nomark _))
              (pss_one (ps_expr (pe_bm PySem.F.plainAttrs_list PySem.F.slot_list_append PySem.F.type_list_append mt_append (pv 7) (pa_cons (pe_tup (pa_cons (pv 8) (pa_cons (pv 10) (pa_cons (pv 9) pa_nil)))) pa_nil))))
              (pss_one (ps_if (pt_cmpR op_gt (pe_call GT (hr.mono (by decide)) (by rfl) DT.g DT.F.kp DT.b .nil pass0 (pa_cons (pv 0) (pa_cons pe_int pa_nil))) pe_int (nomark _))
                (pss_one (ps_expr (pe_bm PySem.F.plainAttrs_list PySem.F.slot_list_append PySem.F.type_list_append mt_append (pv 7) (pa_cons (pe_tup (pa_cons (pv 8) (pa_cons (pv 10) (pa_cons (pe_call GO (hr.mono (by decide)) (by rfl) DO.g DO.F.kp DO.b .nil pass0 (pa_cons (pv 0) (pa_cons (pv 1) (pa_cons (pv 4) pa_nil)))) pa_nil)))) pa_nil))))
                pss_nil))))))))
        (pss_one (ps_expr (pe_bm PySem.F.plainAttrs_list PySem.F.slot_list_append PySem.F.type_list_append mt_append (pv 5) (pa_cons (pe_callTy call_tuple_of (by rfl) B.m_tuple PyProof.Rows.boot_tuple (pa_cons (pv 7) pa_nil)) pa_nil)))))))
      (pss_one (ps_ret (pe_callTy call_tuple_of (by rfl) B.m_tuple PyProof.Rows.boot_tuple (pa_cons (pv 5) pa_nil))))))), ?_⟩
    dsimp only [tSeq, tAsg]
    dsimp only [tLst, tCons, tNil]
    refine val_c _ (val_c _ (val_c _ (val_c _ (val_c _ (val_c _ (val_c _ (val_c _ (val_c _ ⟨by show 9 ≤ sizeLine; decide, fun L nL => ?_⟩))))))))
    have bL : b ≠ L := ne_of_none hb nL
    have s1 : Same H (upd H L (.lst (poolD.map V.str))) := same_upd nL
    have hL1 : (upd H L (.lst (poolD.map V.str))) L = some (.lst (poolD.map V.str)) := upd_same
    have hb1 := s1 _ _ hb
    dsimp only [gName]
    try dsimp only [tPar3, tCB]
    change tCall _ _ _ _ _ (upd H L (.lst (poolD.map V.str))) _
    generalize (upd H L (.lst (poolD.map V.str))) = H1 at s1 hL1 hb1 ⊢
    dsimp only [tCall]
    refine (val_var rfl) _ ((val_var rfl) _ ?_)
    dsimp only [tCons, tNil, tOp]
    refine val_c _ (take_box rfl val_c hb1 Bx (by decide) (by decide) (by omega) fun d p1 n1 d0 d1 B1 le1 => ⟨1, d, rfl, rfl, ?_⟩)
    have ed : (1 : Int) + d = (((1 + d).toNat : Nat) : Int) := by omega
    have pl : (poolD.map V.str).length = 9 := rfl
    refine ⟨b, L, poolD.map V.str, (1 + d).toNat, p1, q, n1, by rw [← ed]; rfl, upd_same, B1, SqL.of (by rw [upd_ne bL.symm]; exact hL1), by omega, by omega, by omega, fun H2 r ys rest p2 n2 s2 nr hr2 hb2 B2 le2 yl yp => ?_⟩
    have s02 : SameBut b H H2 := ((SameBut.of_same s1).trans (SameBut.upd b _ _)).trans s2
    obtain ⟨zs, rfl, zr⟩ := strs_of (xs := poolD) (ys := ys) fun y hy => yp.mem_iff.mp (List.mem_append_left _ hy)
    rw [List.length_map] at yl
    refine ⟨r, zs, rfl, SqL.of hr2, by omega, fun ds D perm srt nD => ?_⟩
    have dasc : ds.Pairwise SLt := sorted_lt srt (strs_nodup (by decide +kernel) yp perm)
    have dl : ds.length ≤ 3 := by rw [perm.length_eq]; omega
    have dr : ∀ z ∈ ds, z ∈ poolD := fun z hz => zr z (perm.mem_iff.mp hz)
    have bD : b ≠ D := ne_of_none hb2 nD
    have s3 := same_upd (o := .lst (ds.map V.str)) nD
    have hD3 : (upd H2 D (.lst (ds.map V.str))) D = some (.lst (ds.map V.str)) := upd_same
    have hb3 := s3 _ _ hb2
    have s03 := s02.trans (SameBut.of_same s3)
    generalize (upd H2 D (.lst (ds.map V.str))) = H3 at s3 hD3 hb3 s03 ⊢
    refine val_c _ (take_box rfl val_c hb3 B2 (by decide) (by decide) (by omega) fun d2 p3 n3 d20 d21 B3 le3 => ⟨1, d2, rfl, rfl, ?_⟩)
    have s04 := s03.trans (SameBut.upd b H3 (.lst (bx p3 q n3)))
    have hb4 : (upd H3 b (.lst (bx p3 q n3))) b = some (.lst (bx p3 q n3)) := upd_same
    have hD4 : (upd H3 b (.lst (bx p3 q n3))) D = some (.lst (ds.map V.str)) := by rw [upd_ne bD.symm]; exact hD3
    generalize (upd H3 b (.lst (bx p3 q n3))) = H4 at s04 hb4 hD4 ⊢
    refine ⟨Nat.zero_le _, fun S nS => ⟨_, _, _, rfl, ?_⟩⟩
    have fr : ∀ {H5 : Hp}, SameBut b H H5 → (∃ o, H5 b = some o) → ∀ u, H5 u = none → H u = none := fun {H5} s5 ⟨o, hb5⟩ u nu => by
      cases e : H u with
      | none => rfl
      | some o =>
        by_cases c : u = b
        · rw [c, hb5] at nu; cases nu
        · rw [s5 _ _ c e] at nu; cases nu
    have nS0 := fr s04 ⟨_, hb4⟩ _ nS
    have bS : b ≠ S := ne_of_none hb4 nS
    have DS' : D ≠ S := ne_of_none hD4 nS
    obtain ⟨w, ew⟩ : ∃ w : Nat, (1 : Int) + d2 = (w : Int) := ⟨(1 + d2).toNat, by omega⟩
    have s5 := same_upd (o := .lst []) nS
    have pk5 : Pk m w H b D S ds q (upd H4 S (.lst [])) [] [] p3 n3 := ⟨s04.trans (SameBut.of_same s5), s5 _ _ hD4, upd_same, .nil, fun _ h => (nomatch h), s5 _ _ hb4, B3, fun _ h => (nomatch h)⟩
    generalize (upd H4 S (.lst [])) = H5 at pk5 ⊢
    dsimp only
    rw [ew]
    refine ⟨.int w, rfl, w, rfl, by omega, by omega, ?_⟩
    show ∃ W : Nat → Nat → L2.St → Hp → Prop, _
    refine for_range (lo := 0) (n := (w : Int).toNat) (fun i σ H' => ∃ (t6 t7 t8 t9 t10 : Option V) (ps : List Addr) (sts : List (List RwD)) (p' n' : Int), σ = [some (.ref b), some (.int m), some (.ref L), some (.ref D), some (.int w), some (.ref S), t6, t7, t8, t9, t10] ∧ Pk m w H b D S ds q H' ps sts p' n' ∧ sts.length = i ∧ n' ≤ n3 + 800 * i) ?_ ?_ ?_
    · exact ⟨none, none, none, none, none, [], [], p3, n3, rfl, pk5, rfl, by omega⟩
    · rintro i σ H6 hi ⟨t6, t7, t8, t9, t10, ps, sts, p6, n6, rfl, pk6, sl, le6⟩
      have hi : i < w := hi
      have psl : ps.length = sts.length := Paired.length pk6.hp
      refine ⟨Nat.zero_le _, fun R nR => ?_⟩
      have nR0 : H R = none := fr pk6.sb ⟨_, pk6.hb⟩ _ nR
      have bR : b ≠ R := ne_of_none pk6.hb nR
      have DR : D ≠ R := ne_of_none pk6.hd nR
      have SR : S ≠ R := ne_of_none pk6.hs nR
      have rk7 : Rk m w H b D S R ds q (upd H6 R (.lst [])) ps sts p6 n6 [] [] := ⟨pk6.same (same_upd nR), upd_same, .nil, fun _ h => (nomatch h), .nil, fun _ h => (nomatch h)⟩
      generalize (upd H6 R (.lst [])) = H7 at rk7 ⊢
      refine ⟨.ref D, rfl, D, rfl, ⟨_, SqL.of rk7.pk.hd⟩, ?_⟩
      show ∃ W : Nat → Nat → L2.St → Hp → Prop, _
      refine for_list (K := K) (a := D) (xs := ds.map V.str) (fun j σ H' => ∃ (t6 t8 t9 t10 : Option V) (p' n' : Int) (ts : List Addr) (rs : List RwD), σ = [some (.ref b), some (.int m), some (.ref L), some (.ref D), some (.int w), some (.ref S), t6, some (.ref R), t8, t9, t10] ∧ Rk m w H b D S R ds q H' ps sts p' n' ts rs ∧ rs.length ≤ 4 * j ∧ (∀ y ∈ rs, ∃ i, i < j ∧ ds[i]? = some y.1.1) ∧ n' ≤ n6 + 230 * j) ?_ ?_ ?_ ?_
      · exact ⟨_, _, _, _, p6, n6, [], [], rfl, rk7, Nat.le_refl _, fun _ h => (nomatch h), by omega⟩
      · rintro j σ H8 _ ⟨_, _, _, _, p8, n8, ts, rs, rfl, rk8, _⟩
        exact SqL.of rk8.pk.hd
      · rintro j x σ H8 ex ⟨t6, t8, t9, t10, p8, n8, ts, rs, rfl, rk8, rl, dj, le8⟩
        obtain ⟨z, ez, rfl⟩ : ∃ z, ds[j]? = some z ∧ x = .str z := by
          rw [List.getElem?_map] at ex
          cases e : ds[j]? with
          | none => rw [e] at ex; cases ex
          | some z => rw [e] at ex; exact ⟨z, rfl, (Option.some.inj ex).symm⟩
        have jlt := (List.getElem?_eq_some_iff.mp ez).1
        have hz : z ∈ poolD := dr z (List.mem_of_getElem? ez)
        have bz : ∀ y ∈ rs, SLt y.1.1 z := fun y hy => by
          obtain ⟨i, il, ei⟩ := dj y hy
          obtain ⟨il2, e1⟩ := List.getElem?_eq_some_iff.mp ei
          obtain ⟨jl2, e2⟩ := List.getElem?_eq_some_iff.mp ez
          rw [← e1, ← e2]
          exact List.pairwise_iff_getElem.mp dasc i j il2 jl2 il
        have djn : ∀ rs' : List RwD, (∀ y ∈ rs', y ∈ rs ∨ y.1.1 = z) → ∀ y ∈ rs', ∃ i, i < j + 1 ∧ ds[i]? = some y.1.1 := fun rs' h2 y hy => by
          rcases h2 y hy with h | h
          · obtain ⟨i, il, ei⟩ := dj y h
            exact ⟨i, by omega, ei⟩
          · exact ⟨j, by omega, by rw [h]; exact ez⟩
        dsimp only [gName]
        dsimp only [tSeq, tAsg, tIf, tTest, tOp]
        refine take_box rfl val_c rk8.pk.hb rk8.pk.bo (by decide) (by decide) (by omega) fun d9 p9 n9 d90 d91 B9 le9 => ?_
        have rk9 := rk8.step (SameBut.upd b H8 (.lst (bx p9 q n9))) bD bS bR upd_same B9
        generalize (upd H8 b (.lst (bx p9 q n9))) = H9 at rk9 ⊢
        refine val_c _ ⟨rfl, _, rfl, ?_⟩
        cases decide (V.int d9 = V.int 0) with
        | false =>
          refine iteF ?_
          refine val_c _ ?_
          dsimp only [gName]
          refine worths_loop (K := K) bD bS bR nR0 DR SR rk9 hz (.inl rfl) bz m4 (by omega) (by omega) (by omega) (by omega) fun t10 H' p' n' ts' rs' rk' rl' bz' le' => ?_
          exact ⟨t6, _, _, t10, p', n', ts', rs', rfl, rk', by omega, djn _ bz', by omega⟩
        | true =>
          refine iteT ?_
          dsimp only [tCall, tCons, tNil]
          refine (val_var rfl) _ ((val_var rfl) _ ((val_var rfl) _ ?_))
          refine ⟨b, m, w, p9, q, n9, rfl, rk9.pk.hb, rk9.pk.bo, m4, by omega, by omega, by omega, fun H11 o2 ts2 os2 p2 n2 s11 no2 ho2 a2 ev2 ol2 op2 oa2 hb2 B2 le2 => ?_⟩
          have rk2 := rk9.step s11 bD bS bR hb2 B2
          dsimp only [gName]
          refine worths_loop (K := K) bD bS bR nR0 DR SR rk2 hz (.inr ⟨o2, os2, rfl, ⟨ts2, ho2, a2⟩, ⟨(show os2.length ≤ 6 by omega), fun o ho => by have := ev2 o ho; omega⟩, fun c hc => ⟨hc, op2, oa2, fun o ho => by have := ev2 o ho; exact ⟨by omega, by omega, by omega, by omega⟩⟩⟩) bz m4 (by omega) (by omega) (by omega) (by omega) fun t10 H' p' n' ts' rs' rk' rl' bz' le' => ?_
          exact ⟨t6, _, _, t10, p', n', ts', rs', rfl, rk', by omega, djn _ bz', by omega⟩
      · rintro σ H8 ⟨t6, t8, t9, t10, p8, n8, ts, rs, rfl, rk8, rl, dj, le8⟩
        rw [List.length_map] at rl le8
        dsimp only [tDrop, tBM, tCB, tCons, tNil]
        refine (val_var rfl) _ ?_
        refine ⟨.inl ⟨rfl, _, SqL.of rk8.pk.hs⟩, (val_var rfl) _ ⟨R, ts.map V.ref, rfl, .inl ⟨SqL.of rk8.hr, fun T nT => ?_⟩⟩⟩
        have s9 := same_upd (o := .tup (ts.map V.ref)) nT
        have pk9 := rk8.pk.same s9
        have bT : b ≠ T := ne_of_none rk8.pk.hb nT
        have ST : T ≠ S := fun e => by rw [e, rk8.pk.hs] at nT; cases nT
        have tk : TKeep (upd H8 T (.tup (ts.map V.ref))) (upd (upd H8 T (.tup (ts.map V.ref))) S (.lst (ps.map V.ref ++ [.ref T]))) := TKeep.but (SameBut.upd S _ _) pk9.hs
        refine ⟨S, ps.map V.ref, .ref T, rfl, rfl, pk9.hs, ?_, ?_⟩
        · rw [List.length_map, psl]
          exact Nat.lt_of_lt_of_le (show sts.length < 100 by omega) (by decide)
        · refine ⟨_, _, _, _, _, ps ++ [T], sts ++ [rs], p8, n8, rfl, ⟨fun u o nu hu => ?_, ?_, ?_, ?_, ?_, ?_, pk9.bo, fun s hs => ?_⟩, by rw [List.length_append, sl]; rfl, by omega⟩
          · rw [upd_ne (ne_of_none hu nS0)]
            exact pk9.sb _ _ nu hu
          · rw [upd_ne DS']
            exact pk9.hd
          · rw [List.map_append]
            exact upd_same
          · exact paired_app (Paired.mapP pk9.hp fun _ _ e => e.mono tk) ⟨ts, by rw [upd_ne ST]; exact upd_same, Paired.mapP rk8.rr fun _ _ e => (e.mono (TKeep.same s9)).mono tk⟩
          · intro s hs
            rcases List.mem_append.mp hs with hs | hs
            · exact pk9.ok s hs
            · rw [List.mem_singleton.mp hs]
              exact ⟨by omega, rk8.okr⟩
          · rw [upd_ne bS]
            exact pk9.hb
          · rcases List.mem_append.mp hs with hs | hs
            · exact pk9.stx s hs
            · rw [List.mem_singleton.mp hs]
              exact rk8.rx
    · rintro σ H6 ⟨t6, t7, t8, t9, t10, ps, sts, p6, n6, rfl, pk6, sl, le6⟩
      dsimp only [tRet, tCB, tCons, tNil]
      refine (val_var rfl) _ ⟨S, ps.map V.ref, rfl, .inl ⟨SqL.of pk6.hs, fun r2 nr2 => ?_⟩⟩
      have s7 := same_upd (o := .tup (ps.map V.ref)) nr2
      have pk7 := pk6.same s7
      exact k _ r2 ps sts p6 n6 pk7.sb (fr pk6.sb ⟨_, pk6.hb⟩ _ nr2) upd_same pk7.hp pk7.ok (by omega) (by omega) (by rw [show sts.length = w from sl]; exact pk7.stx) pk7.hb pk7.bo (by omega)
end
end K5
namespace K5
open PySem PySem.Spec PyProof.Rows L2
/-! ### the word of an answer -/
def ansW (a : Int) : Str := if a = -1 then "lost" else if a = -2 then "busy" else toString a
def spAw : Sp := fun vs H Q _ => ∃ a : Int, vs = [.int a] ∧ a.natAbs.log2 < 1920 ∧ ∀ H' : Hp, Same H H' → Q (.str (ansW a)) H'
abbrev s__law_answer_word : Stmt := topS 44
theorem sc__law_answer_word : FnScope ["_law_answer"] ["_law_answer"] (defScope s__law_answer_word) := ⟨rfl, rfl, rfl, by decide +kernel, rfl, by decide +kernel, by decide +kernel⟩
section
variable {P : Program} {w : World} {K : PySem.W.Frag} {mg : Str → Option Value} {base : Heap}
theorem ok_ansW {f : Addr} {fd : FuncData} (B : Bt mg) (D : Df K mg "_law_answer_word" s__law_answer_word f fd ["_law_answer"]) :
    FnOk P w K mg base CX0 1 f fd ["_law_answer"] spAw := by
  refine D.F.ok sc__law_answer_word (fun vs H Q E h => ?_) (fun cdv A outer s H vs Q E hr h => ?_)
  · obtain ⟨a, rfl, _⟩ := h
    rfl
  · obtain ⟨a, rfl, hz, k⟩ := h
    have S := sc__law_answer_word
    have hu := hu_of hr
    refine ⟨_, (pss_one (ps_ret (pe_dget2 (by exact Nat.lt_of_le_of_lt (Nat.add_le_add_left (by decide) _) hu) (pe_disp (pps_cons (pe_un un_neg pe_int) pe_str (pps_cons (pe_un un_neg pe_int) pe_str pps_nil)) rfl rfl (fun h => nomatch h) (by decide)) (pv 0) (pe_callTy call_str_int (by rfl) B.m_str (by decide +kernel) (pa_cons (pv 0) pa_nil)) ⟨by rfl, by rfl, by rfl, by rfl⟩))), ?_⟩
    dsimp only [tRet, tDGet2, tDisp]
    intro p np
    dsimp only [tPairs, tUn]
    refine val_c _ ⟨1, rfl, val_c _ (val_c _ ⟨2, rfl, val_c _ ⟨upd_same, [(.inl (-1), .str "lost"), (.inl (-2), .str "busy")], rfl, by decide, ?_⟩⟩)⟩
    have s1 : Same H (upd (upd H p (.dK [])) p (.dK (mergeK [] [(.inl (-1), .str "lost"), (.inl (-2), .str "busy")]))) := fun b o e => by
      rw [upd_ne (ne_of_none e np), upd_ne (ne_of_none e np)]
      exact e
    have hp : (upd (upd H p (.dK [])) p (.dK (mergeK [] [(.inl (-1), .str "lost"), (.inl (-2), .str "busy")]))) p = some (.dK (mergeK [] [(.inl (-1), .str "lost"), (.inl (-2), .str "busy")])) := upd_same
    generalize (upd (upd H p (.dK [])) p (.dK (mergeK [] [(.inl (-1), .str "lost"), (.inl (-2), .str "busy")]))) = H1 at s1 hp ⊢
    refine ⟨p, rfl, .inl ⟨_, Rd.of hp⟩, (val_var rfl) _ ((val_strI (val_var rfl) hz) _ ⟨_, .inl ⟨_, .inl a, Rd.of hp, rfl, rfl⟩, ?_⟩)⟩
    have e : ((valV (mergeK [] [((.inl (-1) : Key), V.str "lost"), (.inl (-2), .str "busy")]) (.inl a)).getD (V.str (toString a))) = V.str (ansW a) := by
      have em : mergeK [] [((.inl (-1) : Key), V.str "lost"), (.inl (-2), .str "busy")] = [(.inl (-1), V.str "lost"), (.inl (-2), .str "busy")] := by decide +kernel
      rw [em]
      unfold ansW
      by_cases h1 : a = -1
      · subst h1
        rfl
      · rw [if_neg h1]
        by_cases h2 : a = -2
        · subst h2
          rfl
        · rw [if_neg h2]
          have n1 : (Sum.inl a : Key) ≠ .inl (-1) := fun e => h1 (by injection e)
          have n2 : (Sum.inl a : Key) ≠ .inl (-2) := fun e => h2 (by injection e)
          simp [valV, h1, h2, n1, n2, Ne.symm n1, Ne.symm n2, Ne.symm h1, Ne.symm h2]
    have k1 := k H1 s1
    rw [← e] at k1
    exact k1
end
end K5
namespace EnT
open PySem PySem.Spec PyProof.Rows L2
/-! ### enumerate(tuple) -/
theorem meets_new {v : Value} {o : Obj} {H : Heap → Prop} (B : Begins v o H) :
    Meets (Builtin.«enumerate.__new__» ⟨[.type "enumerate", v], []⟩) (fun _ R s => H s.heap ∧
      R (.ok (.ret (.ref (s.heap.push o).objs.size))) { s with heap := (s.heap.push o).push { cls := .type "enumerate", data := .fields #[.none, .bool false, .ref s.heap.objs.size, rawInt 0, .none, .none] } }) :=
  .of_wp fun prog w A R s h => by
    obtain ⟨hp, g, d, tk, os⟩ := s; obtain ⟨h1, h⟩ := h
    have hsub := sub_enumerate
    have q1 : ∀ {A' : Around} {E : Value → Shared → Prop} {Q : Value → Shared → Prop}, Q (.ref hp.objs.size) ⟨hp.push o, g, d, tk, os⟩ → wpAny (model prog w) A' (pyIter v) Q E ⟨hp, g, d, tk, os⟩ :=
      fun q => B.iter prog w _ _ ⟨hp, g, d, tk, os⟩ _ h1 q
    wp_walk using q1
    refine wpAny_stack_any fun st => wpAny_pure ?_
    split
    · rename_i c _ _ _ _ _
      cases (c == Value.type "enumerate")
      · wp_walk using q1
        exact ⟨_, rfl, h⟩
      · wp_walk using q1
        exact ⟨_, rfl, h⟩
    · wp_walk using q1
      exact ⟨_, rfl, h⟩
theorem begins1 {prog : Program} {w : World} {A : Around} {E : Value → Shared → Prop} {s : Shared} {v : Value} {o : Obj} {H : Heap → Prop} {Q : Value → Shared → Prop} (B : Begins v o H) (h1 : H s.heap)
    (h : ∀ h', IsEnum h' (s.heap.objs.size + 1) s.heap.objs.size 0 .none → h'.get? s.heap.objs.size = some o → h'.objs.size = s.heap.objs.size + 2 →
      (∀ b o, s.heap.get? b = some o → h'.get? b = some o) → Q (.ref (s.heap.objs.size + 1)) { s with heap := h' }) :
    wpAny (model prog w) A (call (.type "enumerate") [v]) Q E s := by
  refine callType_new F.called_enumerate (by decide) (F.typeCall_enumerate_1 _) (F.newCall_enumerate_1 _) (fun obj => F.args_object_init_2 obj _) F.entry_enumerate_new
    (meets_new B) ⟨h1, ?_⟩
  have hz : (s.heap.push o).objs.size = s.heap.objs.size + 1 := Heap.size_push ..
  show _ ∧ _
  rw [hz]
  have he : IsEnum ((s.heap.push o).push { cls := .type "enumerate", data := .fields #[.none, .bool false, .ref s.heap.objs.size, rawInt 0, .none, .none] }) (s.heap.objs.size + 1) s.heap.objs.size 0 .none := by
    have := Heap.get?_push_size (s.heap.push o) (o := { cls := .type "enumerate", data := .fields #[.none, .bool false, .ref s.heap.objs.size, rawInt 0, .none, .none] }) rfl
    rw [hz] at this; exact this
  refine ⟨⟨_, he, rfl⟩, h _ he (Heap.get?_push_of_some _ (Heap.get?_push_size _ B.free)) (by rw [Heap.size_push, hz]) fun b o x => Heap.get?_push_of_some _ (Heap.get?_push_of_some _ x)⟩
end EnT
namespace L2
open PySem PySem.Spec PyProof.Rows
/-- the tuple at a, each item in a new pair -/
def IteT (K : PySem.W.Frag) (a : Addr) : It :=
  ⟨fun i H => ∃ (xs : List V) (x : V), SqT K H a xs ∧ xs[i]? = some x, fun i H v H' => ∃ T x, v = .ref T ∧ H T = none ∧ H' = upd H T (.tup [.int (i : Nat), x]) ∧ ∀ xs, SqT K H a xs → xs[i]? = some x, fun i H => ∃ xs : List V, SqT K H a xs ∧ xs.length ≤ i⟩
theorem turn_enumT {P : Program} {w : World} {K : PySem.W.Frag} {elts : List Expr} {kk : Nat} {tpos : Pos} (a e it : Addr) (nei : e ≠ it) (nai : a ≠ it) (nae : e ≠ a) :
    Turn P w K (.Tuple elts kk tpos) (IteT K a) [e, it] e (fun i h => (∃ old, IsEnum h e it ((i : Nat) : Int) old) ∧ h.IsTupleIter it a i) where
  mem := by simp
  obj := fun i h st b hb => by
    obtain ⟨⟨old, he⟩, ⟨o, ho, hc, hd⟩⟩ := st
    have e' : b = e ∨ b = it := by simpa using hb
    rcases e' with z | z
    · rw [z]; exact ⟨_, he, fun v q => nomatch q⟩
    · rw [z]; exact ⟨o, ho, fun v q => by rw [hd] at q; cases q⟩
  keep := fun i h h' st k => let ⟨⟨old, he⟩, hi⟩ := st; ⟨⟨old, k e (by simp) _ he⟩, hi.at fun o q => k it (by simp) o q⟩
  item := by
    intro X hP hw hK hc i pins s σ H E I hf st hg
    subst hP hw hK
    obtain ⟨⟨old, he⟩, hit⟩ := st
    obtain ⟨xs, x, hq, hx⟩ := hg
    obtain ⟨its, rv, p, hz⟩ := I.tuple hq
    obtain ⟨u, hu, ru⟩ := rv.get hx
    have hel : e < s.heap.objs.size := Heap.lt_size he
    have hil : it < s.heap.objs.size := by obtain ⟨_, q, _⟩ := hit; exact Heap.lt_size q
    have hit0 : its.toArray[i]? = some u := by simpa using hu
    have ilt : i < its.toArray.size := by
      obtain ⟨q, _⟩ := Array.getElem?_eq_some_iff.mp hit0
      exact q
    have hef : e ∉ [it, a] := fun m => by
      rcases List.mem_cons.mp m with q | q
      · exact nei q
      · exact nae (List.mem_singleton.mp q)
    refine wpAny_pyNext_enum_itemD (Draws.tuple (prog := X.prog) (w := X.w) (A := X.A.in1) (show X.A.in1.handled = none from I.ok.hd hc) it a nai its.toArray) he ⟨hit, p⟩ ilt nei hef fun x' h' tk hP ho hs' hT hsz hk => ?_
    obtain rfl : u = x' := Option.some.inj (hit0.symm.trans hP)
    refine ⟨_, rfl, wpAny_letOwnedTupleGo_enum (s := { s with heap := h', toks := tk + 1 }) ho fun h'' he' sb => ?_⟩
    have hT2 : h''.get? s.heap.objs.size = some { cls := .type "tuple", data := .seq #[.int i tk, u] } := (sb.2 _ (Nat.ne_of_gt hel)).trans hT
    have new : ObjOk X.prog X.w (upd H s.heap.objs.size (.tup [.int (i : Nat), x])) h'' s.heap.objs.size (.tup [.int (i : Nat), x]) :=
      ⟨by show 2 ≤ sizeLine; decide, [.int i tk, u], .cons ⟨_, rfl⟩ (.cons ru .nil), ⟨_, hT2, rfl, _, rfl⟩⟩
    have I1 : Inv X pins σ (upd H s.heap.objs.size (.tup [.int (i : Nat), x])) { s with heap := h'', toks := tk + 1 } :=
      I.turnedNew (ch := [e, it]) (fun b ob hb q => (sb.2 b (fun z => hb (by simp [z]))).trans (hk b ob (fun z => hb (by simp [z])) (fun z => hb (by simp [z])) q)) hf (Nat.le_refl _) new
    refine ⟨.ref s.heap.objs.size, _, I1, rfl, ⟨_, x, rfl, I.hok.fresh (Nat.le_refl _), rfl, fun ys hy => by rw [I.tuple_inj hy hq]; exact hx⟩, ⟨⟨u, ?_⟩, hs'.1.at fun o q => (sb.2 it (Ne.symm nei)).trans q⟩, fun b hb => ?_⟩
    · have e1 : ((i + 1 : Nat) : Int) = (i : Int) + 1 := by omega
      rw [e1]; exact he'
    · have hb' : b < s.heap.objs.size := by
        have e' : b = e ∨ b = it := by simpa using hb
        rcases e' with z | z
        · rw [z]; exact hel
        · rw [z]; exact hil
      rw [upd_ne (Nat.ne_of_lt hb')]
      exact (hf b hb).1
  done := by
    intro X hP hw hK hc i pins s σ H E I hf st hg
    subst hP hw hK
    obtain ⟨⟨old, he⟩, hit⟩ := st
    obtain ⟨xs, hq, hx⟩ := hg
    obtain ⟨its, rv, p, hz⟩ := I.tuple hq
    obtain ⟨f0, f1, f2, f3, f4, f5⟩ := hf it (by simp)
    have hl := rv.length
    have D : Draws X.prog X.w X.A.in1 it [it, a] i (fun i v => its.toArray[i]? = some v) (fun j h => j = i ∧ h.IsTupleIter it a i ∧ h.IsTuple a its.toArray) := {
      live := fun _ _ st => let ⟨o, ho, _⟩ := st.2.1; ⟨o, ho⟩
      frame := fun _ _ _ st hk => ⟨st.1, st.2.1.at fun o e => hk it (by simp) o e, st.2.2.at fun o e => hk a (by simp) o e⟩
      item := fun j s Q E hj st hQ => absurd st.1 (Nat.ne_of_lt hj)
      done := fun s Q E st hE => wpAny_nextOf_tuple_end (I.ok.hd hc) st.2.1 st.2.2 (Array.getElem?_eq_none (by simp; omega)) hE }
    exact wpAny_pyNext_enum_endD D he ⟨rfl, hit, p⟩ fun h' eb => ⟨rfl, I.turned (t' := s.toks) (fun b o hb q => eb b o hb q) f0 f1 f3 f4 f5⟩
  self := fun A i s Q E st h => let ⟨⟨_, he⟩, _⟩ := st; wpAny_pyIter_enum he h
def iEnumT (K : PySem.W.Frag) (ta : TA) : TI := fun σ H R => ta σ H fun vs H1 => ∃ a xs, vs = [.ref a] ∧ SqT K H1 a xs ∧ R (IteT K a) H1
theorem pi_enumT {X : Cx} {e : Expr} {ta : TA} {p pos tpos : Pos} {elts : List Expr} {kk : Nat} (hg : Gl X "enumerate") (hm : X.mg "enumerate" = none) (ha : PA X [e] ta) (hs : starEach [e] X.env = [(false, eval e X.env)] := by rfl) :
    PI X (.Tuple elts kk tpos) (.Call (.Name "enumerate" p) [e] [] pos) (iEnumT X.K ta) := by
  refine ⟨fun pins s σ H R I h => ?_⟩
  refine Call_ (ld_blt I hg hm boot_enumerate (PyProof.Rows.callWith_type1 (thn (ha.run pos pins s σ H _ I h) fun us s1 ⟨vs, H1, I1, r1, q1⟩ => ?_) hs rfl))
  obtain ⟨a, xs, ex, hq, q⟩ := q1
  subst ex
  cases r1 with
  | cons r rr =>
    cases rr
    cases r
    obtain ⟨its, rv, p', hz⟩ := I1.tuple hq
    have ha' : s1.heap.IsTuple a its.toArray := p'
    have al : a < s1.heap.objs.size := by obtain ⟨_, q, _⟩ := ha'; exact Heap.lt_size q
    refine EnT.begins1 (begins_tuple a its.toArray) ha' fun h' he hit hsz hk => wpAny_pyIter_enum he ?_
    have I2 : Inv X pins σ H1 { s1 with heap := h' } := I1.kept (t' := s1.toks) hk
    refine ⟨s1.heap.objs.size + 1, [s1.heap.objs.size + 1, s1.heap.objs.size], _, _, H1, rfl, I2, turn_enumT a (s1.heap.objs.size + 1) s1.heap.objs.size (Nat.succ_ne_self _) (Nat.ne_of_lt al) (Nat.ne_of_gt (Nat.lt_succ_of_lt al)), ⟨⟨.none, he⟩, ⟨_, hit, rfl, rfl⟩⟩, fun b hb => ?_, q⟩
    have e' : b = s1.heap.objs.size + 1 ∨ b = s1.heap.objs.size := by simpa using hb
    have hle : s1.heap.objs.size ≤ b := by
      rcases e' with z | z
      · rw [z]; exact Nat.le_add_right _ _
      · rw [z]; exact Nat.le_refl _
    exact I1.fpOk hle (I1.hok.fresh hle)
theorem for_enumT {K : PySem.W.Frag} {a : Addr} {xs : List V} {g : TG} {tb : TS} {D : Ends} {σ : St} {H : Hp} (Pv : Nat → St → Hp → Prop) (h0 : Pv 0 σ H) (hl : ∀ i σ H, i ≤ xs.length → Pv i σ H → SqT K H a xs)
    (hs : ∀ i x T σ H, xs[i]? = some x → Pv i σ H → H T = none → g (.ref T) σ (upd H T (.tup [.int (i : Nat), x])) fun σ2 H2 => tb { D with nx := Pv (i + 1), ct := Pv (i + 1), bk := D.nx } σ2 H2) (hd : ∀ σ H, Pv xs.length σ H → D.nx σ H) :
    ∃ W : Nat → Nat → St → Hp → Prop, (∃ m, W 0 m σ H) ∧ ∀ i m σ H, W i m σ H →
      ((IteT K a).stop i H ∧ D.nx σ H) ∨ ((IteT K a).go i H ∧ ∃ N : St → Hp → Prop, (∀ σ' H', N σ' H' → ∃ m', m' < m ∧ W (i + 1) m' σ' H') ∧ ∀ x H', (IteT K a).yld i H x H' → g x σ H' fun σ2 H2 => tb { D with nx := N, ct := N, bk := D.nx } σ2 H2) := by
  refine ⟨fun i m σ H => m = xs.length - i ∧ i ≤ xs.length ∧ Pv i σ H, ⟨xs.length, by simp, Nat.zero_le _, h0⟩, ?_⟩
  rintro i m σ H ⟨rfl, hi, p⟩
  have q := hl i σ H hi p
  by_cases hlt : i < xs.length
  · refine .inr ⟨⟨xs, xs[i], q, by simp [hlt]⟩, Pv (i + 1), fun σ' H' p' => ⟨xs.length - (i + 1), by omega, rfl, hlt, p'⟩, fun x H' y => ?_⟩
    obtain ⟨T, x', rfl, nT, rfl, hy⟩ := y
    exact hs i x' T σ H (hy xs q) p nT
  · obtain rfl : i = xs.length := by omega
    exact .inl ⟨⟨xs, q, Nat.le_refl _⟩, hd σ H p⟩
end L2
namespace HT
open PySem PySem.Spec PyProof.Rows
section
variable {prog : Program} {w : World} {A : Around} {E : Value → Shared → Prop} {s : Shared}
/-! ### t[::-1] of a tuple -/
theorem sliceApplied_rev {sl : Addr} {n : Nat} {tk : Tok} {Q : Int × Int × Nat → Shared → Prop} (hs : s.heap.IsSliceOf sl .none .none (.int (-1) tk))
    (h : Q ((n : Int) - 1, -1, n) s) : wpAny (model prog w) A (Builtin.Slice.sliceApplied (.ref sl) (pure (n : Int))) Q E s := by
  obtain ⟨os, hos, hcs, hds⟩ := id hs
  unfold Builtin.Slice.sliceApplied Builtin.Slice.sliceFields
  refine wpAny_bind (wpAny_bind (wpAny_field hos hds (x := .none) rfl (wpAny_bind (wpAny_field hos hds (x := .none) rfl (wpAny_bind (wpAny_field hos hds (x := .int (-1) tk) rfl (wpAny_pure ?_)))))))
  refine wpAny_bind (slicePart_int ?_)
  show wpAny _ _ (if ((-1 : Int) == 0) = true then _ else _) _ _ s
  rw [if_neg (by decide)]
  refine wpAny_bind (slicePart_none (wpAny_bind (slicePart_none (wpAny_bind (wpAny_pure ?_)))))
  show wpAny _ _ (match Builtin.Slice.sliceAdjust none none (-1) (n : Int) with | (lo, hi) => pure (lo, (-1 : Int), Builtin.Slice.slicePlaces lo hi (-1))) _ _ s
  have e1 : Builtin.Slice.sliceAdjust none none (-1) (n : Int) = ((n : Int) - 1, -1) := by
    unfold Builtin.Slice.sliceAdjust
    rfl
  rw [e1]
  have e2 : Builtin.Slice.slicePlaces ((n : Int) - 1) (-1) (-1) = n := by
    unfold Builtin.Slice.slicePlaces
    rw [if_neg (by decide)]
    rw [show (-(-1) : Int) = 1 from rfl, Int.ediv_one]
    split <;> omega
  show wpAny _ _ (pure ((n : Int) - 1, (-1 : Int), Builtin.Slice.slicePlaces ((n : Int) - 1) (-1) (-1))) _ _ s
  rw [e2]
  exact wpAny_pure h
theorem filterMap_same {α β : Type} {f g : α → Option β} : ∀ {l : List α}, (∀ m ∈ l, f m = g m) → l.filterMap f = l.filterMap g
  | [], _ => rfl
  | x :: l, h => by
    rw [List.filterMap_cons, List.filterMap_cons, h x (List.mem_cons_self ..), filterMap_same fun m hm => h m (List.mem_cons_of_mem _ hm)]
theorem pick_rev (xs : Array Value) : ((List.range xs.size).filterMap fun (m : Nat) => xs[(((xs.size : Nat) : Int) - 1 + (m : Int) * (-1)).toNat]?) = xs.toList.reverse := by
  have h : ∀ m ∈ List.range xs.size, xs[(((xs.size : Nat) : Int) - 1 + (m : Int) * (-1)).toNat]? = xs.toList.reverse[m]? := fun m hm => by
    have hm := List.mem_range.mp hm
    rw [show (((xs.size : Nat) : Int) - 1 + (m : Int) * (-1)).toNat = xs.size - 1 - m by omega, List.getElem?_reverse (by rw [Array.length_toList]; exact hm), Array.length_toList, Array.getElem?_toList]
  rw [filterMap_same h]
  have e : xs.size = xs.toList.reverse.length := by rw [List.length_reverse, Array.length_toList]
  rw [e]
  generalize xs.toList.reverse = l
  induction l with
  | nil => rfl
  | cons x r ih =>
    rw [List.length_cons, List.range_succ_eq_map, List.filterMap_cons]
    show x :: List.filterMap _ (List.map Nat.succ (List.range r.length)) = _
    rw [List.filterMap_map]
    exact congrArg _ ih
theorem getItem_tuple_rev {t sl : Addr} {items : Array Value} {tk : Tok} {Q : Value → Shared → Prop} (ht : IsTup s.heap t items) (hs : s.heap.IsSliceOf sl .none .none (.int (-1) tk))
    (h : Q (.ref s.heap.objs.size) { s with heap := s.heap.push { cls := .type "tuple", data := .seq items.toList.reverse.toArray } })
    (hsz : items.size ≤ sizeLine) : wpAny (model prog w) A (getItem (.ref t) (.ref sl)) Q E s := by
  have htake : sizeOk (.seq items.toList.reverse.toArray) := by
    show items.toList.reverse.toArray.size ≤ sizeLine
    rw [List.size_toArray, List.length_reverse, Array.length_toList]
    exact hsz
  obtain ⟨os, hos, hcs, hds⟩ := id hs
  have hTs : s.TypeIs (.ref sl) "slice" := ⟨os, hos, hcs⟩
  unfold getItem
  try with_reducible refine wpAny_holding ?_
  first | refine wpAny_bind (wpAny_pure ?_) | skip
  refine wpAny_bind (wpAny_sequenceKey ht.typeIs (by decide) ?_)
  refine wpAny_bind (wpAny_callSpecial?_slot (name := Str.ofString "__getitem__") ht.typeIs PyProof.Rows.slot_tuple_getitem
    (wpAny_call_entry PyProof.Rows.slot_tuple_getitem ht.typeIs entry_tuple_getitem ?_ (args_tuple_getitem _ _)))
  show wpAny _ _ (Builtin.Tuple.tupleItemsOf (.ref t) >>= _) _ _ s
  refine wpAny_bind (tupleItemsOf_ ht ?_)
  refine wpAny_bind (wpAny_typeOf hTs ?_)
  rw [if_pos (by decide)]
  refine wpAny_bind (sliceApplied_rev hs ?_)
  have hno : ¬ (((((items.size : Nat) : Int) - 1) == 0 && (-1 : Int) == 1 && items.size == items.size) = true) := by
    intro q
    rw [Bool.and_eq_true, Bool.and_eq_true] at q
    exact absurd (eq_of_beq q.1.2) (by decide)
  show wpAny _ _ (if ((((items.size : Nat) : Int) - 1) == 0 && (-1 : Int) == 1 && items.size == items.size) = true then _ else _) _ _ s
  rw [if_neg hno, pick_rev]
  first
    | exact wpAny_bind (m := Builtin.Tuple.tupleExact _) (wpAny_newObj_type (wpAny_pure ⟨_, rfl, wpAny_pure h⟩) htake)
    | exact wpAny_bind (m := Builtin.Tuple.tupleExact _) (wpAny_newObj_type (wpAny_bind (wpAny_pure (wpAny_pure ⟨_, rfl, wpAny_pure h⟩))) htake)
    | exact wpAny_bind (wpAny_bind (m := Builtin.Tuple.tupleExact _) (wpAny_newObj_type (wpAny_pure (wpAny_pure ⟨_, rfl, wpAny_pure h⟩)) htake))
    | exact wpAny_bind (wpAny_bind (m := Builtin.Tuple.tupleExact _) (wpAny_newObj_type (wpAny_pure ⟨_, rfl, wpAny_pure h⟩) htake))
end
end HT
namespace K5
open PySem PySem.Spec PyProof.Rows L2
def tRevT (K : PySem.W.Frag) (te : TE) : TE := fun σ H Q => te σ H fun x H1 => ∃ a xs, x = .ref a ∧ SqT K H1 a xs ∧ ∀ p, H1 p = none → Q (.ref p) (upd H1 p (.tup xs.reverse))
theorem pe_revT {X : Cx} {e : Expr} {te : TE} {k : Nat} {p1 p2 p3 pos : Pos} (he : PE X e te) : PE X (.Subscript e (.Slice none none (some (.UnaryOp .USub (.Constant (.int 1) k p1) p2)) p3) pos) (tRevT X.K te) := by
  refine ⟨fun pins s σ H Q I h => ?_⟩
  refine Subscript_ (thn (he.run pins s σ H _ I h) fun v s1 ⟨x, H1, I1, r1, q1⟩ => ?_)
  obtain ⟨a, xs, ex, hx, q⟩ := q1
  subst ex
  cases r1
  have hst : PO X (some (.UnaryOp .USub (.Constant (.int 1) k p1) p2)) (tPart (tUn (rU fun i => .int (-i)) (tC (.int 1)))) := po_some (pe_un un_neg pe_int)
  refine wpAny_Slice (thn (po_none.run pins s1 σ H1 (fun o H2 => o = none ∧ H2 = H1) I1 ⟨rfl, rfl⟩) fun vl s2 ⟨l, H2, I2, pl, el, e2⟩ => ?_)
  subst el e2
  refine thn (po_none.run pins s2 σ H2 (fun o H3 => o = none ∧ H3 = H2) I2 ⟨rfl, rfl⟩) fun vu s3 ⟨u, H3, I3, pu, eu, e3⟩ => ?_
  subst eu e3
  refine thn (hst.run pins s3 σ H3 (fun o H4 => o = some (-1) ∧ H4 = H3) I3 ⟨1, rfl, -1, rfl, rfl, rfl⟩) fun vs s4 ⟨o, H4, I4, ps, eo, e4⟩ => ?_
  subst eo e4
  obtain ⟨tk, rfl⟩ : ∃ tk, vs = .int (-1) tk := by
    cases ps
    exact ⟨_, rfl⟩
  obtain rfl : vl = .none := by
    cases pl
    rfl
  obtain rfl : vu = .none := by
    cases pu
    rfl
  have I5 : L2.Inv X pins σ H4 { s4 with heap := s4.heap.push { cls := .type "slice", data := .fields #[.none, .none, .int (-1) tk] } } := I4.kept (t' := s4.toks) fun b ob q => Heap.get?_push_of_some _ q
  obtain ⟨its, r, ht, hz⟩ := I5.tuple hx
  have hlen := r.length
  show wpAny (model X.prog X.w) X.A (subscriptTail e (.Slice none none (some (.UnaryOp .USub (.Constant (.int 1) k p1) p2)) p3) (.ref a) (.ref s4.heap.objs.size)) (EP X pins σ Q) X.xe { s4 with heap := s4.heap.push { cls := .type "slice", data := .fields #[.none, .none, .int (-1) tk] } }
  refine tail_any (ops := [.ref a, .ref s4.heap.objs.size]) ht.typeIs (PyProof.Rows.slot_tuple_getitem.lookup) ?_ (by with_unfolding_all rfl)
  refine HT.getItem_tuple_rev ht (Heap.IsSliceOf.new _ .none .none (.int (-1) tk)) ?_ (by rw [List.size_toArray]; omega)
  refine ⟨.ref _, _, I5.laid (t' := s4.toks) (o := .tup xs.reverse) (fun b ob q => Heap.get?_push_of_some _ q) (Nat.le_refl _) ?_, rfl, q _ (I5.hok.fresh (Nat.le_refl _))⟩
  refine ⟨by rw [List.length_reverse]; exact hz, its.reverse, r.reverse, _, Heap.get?_push_size _ rfl, rfl, 0, ?_⟩
  rfl
end K5
namespace K5
open PySem PySem.Spec PyProof.Rows L2
/-! ### a text is split as it was joined -/
theorem cut_at {c : Nat} : ∀ {x y a b : List Nat}, c ∉ x → c ∉ y → x ++ c :: a = y ++ c :: b → x = y ∧ a = b
  | [], [], a, b, _, _, h => by
    injection h with _ h
    exact ⟨rfl, h⟩
  | [], z :: y, a, b, _, h2, h => by
    injection h with h _
    exact absurd (by rw [h]; exact List.mem_cons_self ..) h2
  | z :: x, [], a, b, h1, _, h => by
    injection h with h _
    exact absurd (by rw [← h]; exact List.mem_cons_self ..) h1
  | z :: x, w :: y, a, b, h1, h2, h => by
    injection h with e h
    obtain ⟨q1, q2⟩ := cut_at (x := x) (y := y) (fun q => h1 (List.mem_cons_of_mem _ q)) (fun q => h2 (List.mem_cons_of_mem _ q)) h
    exact ⟨by rw [e, q1], q2⟩
theorem str_list {x y : Str} (h : x.cps.toList = y.cps.toList) : x = y := by
  cases x
  cases y
  congr
  exact Array.toList_inj.mp h
theorem join_list (c : Nat) (x z : Str) (r : List Str) : (Str.join ⟨#[c]⟩ (x :: z :: r)).cps.toList = x.cps.toList ++ c :: (Str.join ⟨#[c]⟩ (z :: r)).cps.toList := by
  show (x ++ (⟨#[c]⟩ : Str) ++ Str.join ⟨#[c]⟩ (z :: r)).cps.toList = _
  rw [cps_append, cps_append, List.append_assoc]
  rfl
theorem join_inj {c : Nat} : ∀ {ps qs : List Str}, ps ≠ [] → qs ≠ [] → (∀ p ∈ ps, c ∉ p.cps.toList) → (∀ q ∈ qs, c ∉ q.cps.toList) → (Str.join ⟨#[c]⟩ ps).cps.toList = (Str.join ⟨#[c]⟩ qs).cps.toList → ps = qs
  | [], _, h, _, _, _, _ => absurd rfl h
  | _, [], _, h, _, _, _ => absurd rfl h
  | [x], [y], _, _, _, _, h => by rw [str_list (x := x) (y := y) h]
  | [x], y :: w :: r, _, _, h1, h2, h => by
    rw [join_list] at h
    have hx : c ∈ x.cps.toList := by
      rw [show x.cps.toList = _ from h]
      exact List.mem_append_right _ (List.mem_cons_self ..)
    exact absurd hx (h1 x (List.mem_cons_self ..))
  | x :: w :: r, [y], _, _, h1, h2, h => by
    rw [join_list] at h
    have hy : c ∈ y.cps.toList := by
      rw [show y.cps.toList = _ from h.symm]
      exact List.mem_append_right _ (List.mem_cons_self ..)
    exact absurd hy (h2 y (List.mem_cons_self ..))
  | x :: z :: r, y :: w :: t, _, _, h1, h2, h => by
    rw [join_list, join_list] at h
    obtain ⟨e1, e2⟩ := cut_at (h1 x (List.mem_cons_self ..)) (h2 y (List.mem_cons_self ..)) h
    rw [str_list e1, join_inj (ps := z :: r) (qs := w :: t) (fun q => nomatch q) (fun q => nomatch q) (fun p hp => h1 p (List.mem_cons_of_mem _ hp)) (fun p hp => h2 p (List.mem_cons_of_mem _ hp)) e2]
theorem split_ne (x : Str) (c : Nat) : Txt.split x ⟨#[c]⟩ ≠ [] := by
  unfold Txt.split
  split
  · exact fun e => nomatch e
  · split
    · exact fun e => nomatch e
    · rw [StrLaws.partsBetween_eq]
      obtain ⟨p, r, h⟩ := StrLaws.partsFrom_ne x (⟨#[c]⟩ : Str).length 0 (Builtin.Str.occurrences x ⟨#[c]⟩ 0 x.length (x.length + 1))
      rw [h]
      exact fun e => nomatch e
theorem split_join {c : Nat} {ps : List Str} (ne : ps ≠ []) (free : ∀ p ∈ ps, c ∉ p.cps.toList) : Txt.split (Str.join ⟨#[c]⟩ ps) ⟨#[c]⟩ = ps :=
  join_inj (split_ne _ _) ne (StrLaws.split_free _ c) free (by rw [StrLaws.join_split])
theorem rows_join {ps : List Str} (ne : ps ≠ []) (free : ∀ p ∈ ps, 10 ∉ p.cps.toList) : rowsOf (Str.join "\n" ps) = ps := by
  have e : ("\n" : Str) = ⟨#[10]⟩ := by decide +kernel
  unfold rowsOf
  rw [e]
  exact split_join ne free
end K5
namespace K5
open PySem PySem.Spec PyProof.Rows L2
def lRest (z : Str) : Str := Txt.lstripChars z " "
def lWords (z : Str) (dp : Nat) : Option (List Str) := if (z.length : Int) - ((lRest z).length : Int) ≠ 2 * (dp : Nat) ∨ ("" : Str) ∈ Txt.split (lRest z) " " then none else some (Txt.split (lRest z) " ")
theorem marg' : ∀ d : Fin 4, (margin d.val).cps.toList = List.replicate (2 * d.val) 32 := by decide +kernel
theorem margL' {d : Nat} (h : d ≤ 3) : (margin d).cps.toList = List.replicate (2 * d) 32 := marg' ⟨d, by omega⟩
theorem len_toList' (z : Str) : z.length = z.cps.toList.length := by
  rw [Array.length_toList]
  rfl
theorem margN' {d : Nat} (h : d ≤ 3) : (margin d).length = 2 * d := by rw [len_toList', margL' h, List.length_replicate]
theorem space' : (" " : Str) = ⟨#[32]⟩ := by decide +kernel
theorem blank_empty {z : Str} {r : List Nat} (h : z.cps.toList = 32 :: r) : ("" : Str) ∈ Txt.split z " " := by
  rw [space']
  have hj := StrLaws.join_split z ⟨#[32]⟩
  have free := StrLaws.split_free z 32
  cases q : Txt.split z ⟨#[32]⟩ with
  | nil => exact absurd q (split_ne z 32)
  | cons x l =>
    rw [q] at hj free
    have fx := free x (List.mem_cons_self ..)
    have hx : x.cps.toList = [] := by
      cases l with
      | nil =>
        have e : x = z := hj
        rw [e, h] at fx
        exact absurd (List.mem_cons_self ..) fx
      | cons y l =>
        have e : (Str.join ⟨#[32]⟩ (x :: y :: l)).cps.toList = z.cps.toList := by rw [hj]
        rw [join_list, h] at e
        cases hl : x.cps.toList with
        | nil => rfl
        | cons c t =>
          rw [hl] at e fx
          injection e with e1 _
          rw [e1] at fx
          exact absurd (List.mem_cons_self ..) fx
    have e0 : x = "" := str_list (by rw [hx]; rfl)
    rw [e0]
    exact List.mem_cons_self ..
def lead (z : Str) : Nat := (z.cps.toList.takeWhile (· == 32)).length
theorem lead_take (z : Str) : z.cps.toList.take (lead z) = List.replicate (lead z) 32 := by
  have e : z.cps.toList.take (lead z) = z.cps.toList.takeWhile (· == 32) := by
    unfold lead
    generalize z.cps.toList = l
    induction l with
    | nil => rfl
    | cons x r ih =>
      rw [List.takeWhile_cons]
      split
      · rw [List.length_cons, List.take_succ_cons, ih]
      · rfl
  rw [e, List.eq_replicate_iff]
  refine ⟨rfl, fun b hb => ?_⟩
  clear e
  revert hb
  generalize z.cps.toList = l
  induction l with
  | nil => intro h; cases h
  | cons x r ih =>
    intro h
    rw [List.takeWhile_cons] at h
    split at h
    · rename_i hx
      rcases List.mem_cons.mp h with c | c
      · rw [c]
        exact eq_of_beq hx
      · exact ih c
    · cases h
theorem lead_le (z : Str) : lead z ≤ z.length := by
  unfold lead
  rw [len_toList']
  exact (List.takeWhile_prefix _).length_le
theorem lead_stop (z : Str) : ∀ r, z.cps.toList.drop (lead z) ≠ 32 :: r := by
  unfold lead
  generalize z.cps.toList = l
  induction l with
  | nil => intro r h; cases h
  | cons x t ih =>
    intro r h
    rw [List.takeWhile_cons] at h
    split at h
    · rw [List.length_cons, List.drop_succ_cons] at h
      exact ih r h
    · rename_i hx
      have h : x :: t = 32 :: r := h
      injection h with h1 _
      exact hx (by rw [h1]; rfl)
theorem rest_list (z : Str) : (lRest z).cps.toList = z.cps.toList.drop (lead z) := by
  unfold lRest Txt.lstripChars
  rw [PyProof.Rows.stripBy_eq]
  have hg : ((" " : Str).cps.contains : Nat → Bool) = (· == 32) := by
    funext c
    rw [space']
    show (#[32] : Array Nat).contains c = (c == 32)
    simp [Array.contains]
  rw [hg]
  show (Builtin.Str.strSub z (lead z) z.length).cps.toList = _
  show (z.cps.extract (lead z) z.cps.size).toList = _
  rw [Array.toList_extract]
  show (z.cps.toList.drop (lead z)).take (z.cps.size - lead z) = _
  exact List.take_of_length_le (by rw [List.length_drop, Array.length_toList]; exact Nat.le_refl _)
theorem rest_len (z : Str) : (z.length : Int) - ((lRest z).length : Int) = (lead z : Nat) := by
  have h := lead_le z
  rw [len_toList' (lRest z), rest_list, List.length_drop, ← len_toList']
  omega
theorem starts_iff {z : Str} {dp : Nat} (hd : dp ≤ 3) : Txt.startswith z (margin dp) = decide (2 * dp ≤ lead z) := by
  unfold Txt.startswith
  rw [StrLaws.subAt_eq, margN' hd, margL' hd, List.drop_zero]
  by_cases h : 2 * dp ≤ lead z
  · rw [decide_eq_true h, Bool.and_eq_true]
    refine ⟨decide_eq_true (by have := lead_le z; omega), ?_⟩
    have e : z.cps.toList.take (2 * dp) = List.replicate (2 * dp) 32 := by
      have e1 : z.cps.toList.take (2 * dp) = (z.cps.toList.take (lead z)).take (2 * dp) := by rw [List.take_take, Nat.min_eq_left h]
      rw [e1, lead_take, List.take_replicate, Nat.min_eq_left h]
    rw [e]
    exact beq_self_eq_true _
  · rw [decide_eq_false h]
    cases q : (decide (0 + 2 * dp ≤ z.length) && (z.cps.toList.take (2 * dp) == List.replicate (2 * dp) 32)) with
    | false => rfl
    | true =>
      rw [Bool.and_eq_true] at q
      have h1 := of_decide_eq_true q.1
      have h2 := eq_of_beq q.2
      have h3 := congrArg (fun l : List Nat => l[lead z]?) h2
      have h3 : (z.cps.toList.take (2 * dp))[lead z]? = (List.replicate (2 * dp) 32)[lead z]? := h3
      rw [List.getElem?_take_of_lt (by omega), List.getElem?_replicate_of_lt (by omega)] at h3
      have h4 := drop_cons h3
      exact absurd h4 (lead_stop z _)
theorem cut_list {z : Str} {dp : Nat} (hd : dp ≤ 3) (h : 2 * dp ≤ lead z) : (cutS z (some ((margin dp).length : Int)) none).cps.toList = z.cps.toList.drop (2 * dp) := by
  have hl := lead_le z
  unfold cutS
  rw [HT.sIx_nat, HT.sIx_none, margN' hd]
  show (z.cps.toList.drop (min (2 * dp) z.length)).take _ = _
  rw [Nat.min_eq_left (by omega), List.take_of_length_le (by rw [List.length_drop, ← len_toList']; exact Nat.le_refl _)]
theorem words_law (z : Str) {dp : Nat} (hd : dp ≤ 3) : rowWords z dp = (lWords z dp).getD [] := by
  unfold rowWords lWords
  rw [starts_iff hd, rest_len]
  by_cases h : 2 * dp ≤ lead z
  · rw [decide_eq_true h, if_pos rfl]
    by_cases e : lead z = 2 * dp
    · have ec : cutS z (some ((margin dp).length : Int)) none = lRest z := str_list (by rw [cut_list hd h, rest_list, e])
      unfold cleanWords restWords
      rw [ec, inV_strs]
      by_cases hm : ("" : Str) ∈ Txt.split (lRest z) " "
      · rw [if_pos (decide_eq_true hm), if_pos (.inr hm)]
        rfl
      · rw [if_neg (by rw [decide_eq_false hm]; exact Bool.false_ne_true), if_neg (fun c => c.elim (fun c => c (by omega)) hm)]
        rfl
    · rw [if_pos (.inl (by omega))]
      obtain ⟨r, hr⟩ : ∃ r, (cutS z (some ((margin dp).length : Int)) none).cps.toList = 32 :: r := by
        rw [cut_list hd h]
        have h3 : z.cps.toList[2 * dp]? = some 32 := by
          have h4 : (z.cps.toList.take (lead z))[2 * dp]? = some 32 := by rw [lead_take, List.getElem?_replicate_of_lt (by omega)]
          rw [List.getElem?_take_of_lt (by omega)] at h4
          exact h4
        exact ⟨_, drop_cons h3⟩
      unfold cleanWords restWords
      rw [inV_strs, if_pos (decide_eq_true (blank_empty hr))]
      rfl
  · rw [decide_eq_false h, if_neg Bool.false_ne_true, if_pos (.inl (by omega))]
    rfl
theorem words_ne {z : Str} {dp : Nat} {ws : List Str} (h : lWords z dp = some ws) : ws ≠ [] := by
  unfold lWords at h
  split at h
  · cases h
  · rw [← Option.some.inj h, space']
    exact split_ne _ _
end K5
namespace K5
open PySem PySem.Spec PyProof.Rows L2
/-! ### a text of outcomes, cut at ', ' -/
/-- words one behind the other -/
def glue : List (List Nat) → List Nat
  | [] => []
  | [w] => w
  | w :: x :: r => w ++ 32 :: glue (x :: r)
/-- the parts: a word that ends with ',' and has one behind it ends a part -/
def partsW : List Nat → List (List Nat) → List (List Nat)
  | acc, [] => [acc]
  | acc, [w] => [acc ++ w]
  | acc, w :: x :: r => if w.getLast? = some 44 then (acc ++ w.dropLast) :: partsW [] (x :: r) else partsW (acc ++ (w ++ [32])) (x :: r)
abbrev sepC : List Nat := [44, 32]
theorem pre_sep {c d : Nat} {r : List Nat} : TL.pre sepC (c :: d :: r) = (decide (c = 44) && decide (d = 32)) := by
  show ([c, d] == [44, 32]) = _
  by_cases h : c = 44 <;> by_cases h2 : d = 32 <;> simp [h, h2]
theorem pre_one {c : Nat} : TL.pre sepC [c] = false := by
  show ([c] == [44, 32]) = false
  simp
theorem spl_end : ∀ (w acc : List Nat), 32 ∉ w → TL.spl sepC 0 acc w = [acc ++ w]
  | [], acc, _ => by rw [List.append_nil]; rfl
  | [c], acc, h => by rw [TL.spl_miss pre_one]; rfl
  | c :: d :: w, acc, h => by
    have hd : d ≠ 32 := fun e => h (by rw [e]; simp)
    rw [TL.spl_miss (by rw [pre_sep, decide_eq_false hd, Bool.and_false]), spl_end (d :: w) (acc ++ [c]) (fun e => h (List.mem_cons_of_mem _ e)), List.append_assoc]
    rfl
theorem spl_word : ∀ (w acc R : List Nat), 32 ∉ w → TL.spl sepC 0 acc (w ++ 32 :: R) = if w.getLast? = some 44 then (acc ++ w.dropLast) :: TL.spl sepC 0 [] R else TL.spl sepC 0 (acc ++ (w ++ [32])) R
  | [], acc, R, _ => by
    rw [if_neg (by simp)]
    show TL.spl sepC 0 acc (32 :: R) = _
    rw [TL.spl_miss (TL.pre_of_head _ _ (by decide))]
    rfl
  | [c], acc, R, _ => by
    show TL.spl sepC 0 acc (c :: 32 :: R) = _
    by_cases h : c = 44
    · subst h
      rw [if_pos (show ([44] : List Nat).getLast? = some 44 from rfl), TL.spl_hit (by rw [pre_sep]; rfl)]
      show acc :: TL.spl sepC 1 [] (32 :: R) = (acc ++ []) :: TL.spl sepC 0 [] R
      rw [List.append_nil]
      all_goals rfl
    · rw [if_neg (by simpa using h), TL.spl_miss (by rw [pre_sep, decide_eq_false h]; rfl), TL.spl_miss (TL.pre_of_head _ _ (by decide)), List.append_assoc]
      all_goals rfl
  | c :: d :: w, acc, R, h => by
    have hd : d ≠ 32 := fun e => h (by rw [e]; simp)
    have ih := spl_word (d :: w) (acc ++ [c]) R (fun e => h (List.mem_cons_of_mem _ e))
    show TL.spl sepC 0 acc (c :: d :: (w ++ 32 :: R)) = _
    rw [TL.spl_miss (by rw [pre_sep, decide_eq_false hd, Bool.and_false])]
    show TL.spl sepC 0 (acc ++ [c]) ((d :: w) ++ 32 :: R) = _
    rw [ih]
    have e1 : (c :: d :: w).getLast? = (d :: w).getLast? := by simp [List.getLast?_cons_cons]
    rw [e1]
    split
    · rw [List.append_assoc]
      rfl
    · rw [List.append_assoc]
      rfl
theorem spl_glue : ∀ (ws : List (List Nat)) (acc : List Nat), ws ≠ [] → (∀ w ∈ ws, 32 ∉ w) → TL.spl sepC 0 acc (glue ws) = partsW acc ws
  | [w], acc, _, h => spl_end w acc (h w (List.mem_cons_self ..))
  | w :: x :: r, acc, _, h => by
    show TL.spl sepC 0 acc (w ++ 32 :: glue (x :: r)) = if w.getLast? = some 44 then (acc ++ w.dropLast) :: partsW [] (x :: r) else partsW (acc ++ (w ++ [32])) (x :: r)
    rw [spl_word w acc _ (h w (List.mem_cons_self ..)), spl_glue (x :: r) [] (by simp) fun y hy => h y (List.mem_cons_of_mem _ hy), spl_glue (x :: r) (acc ++ (w ++ [32])) (by simp) fun y hy => h y (List.mem_cons_of_mem _ hy)]
theorem glue_join : ∀ ws : List Str, (Str.join " " ws).cps.toList = glue (ws.map fun w => w.cps.toList)
  | [] => rfl
  | [w] => rfl
  | w :: x :: r => by
    rw [space', join_list, ← space', glue_join (x :: r)]
    rfl
def mkS (l : List Nat) : Str := ⟨l.toArray⟩
theorem mkS_list (l : List Nat) : (mkS l).cps.toList = l := rfl
theorem split_parts {ws : List Str} (ne : ws ≠ []) (h : ∀ w ∈ ws, 32 ∉ w.cps.toList) : Txt.split (Txt.join " " ws) ", " = (partsW [] (ws.map fun w => w.cps.toList)).map mkS := by
  have e : (Txt.split (Txt.join " " ws) ", ").map TL.tl = TL.spl (TL.tl (", " : Str)) 0 [] (TL.tl (Txt.join " " ws)) := TL.split_spl _ _ (by decide +kernel) (TL.kind_ok (by decide +kernel))
  have e2 : TL.tl (", " : Str) = sepC := by decide +kernel
  rw [e2, TL.join_eq] at e
  have e3 : TL.tl (Str.join " " ws) = glue (ws.map fun w => w.cps.toList) := glue_join ws
  rw [e3, spl_glue _ [] (by simpa using ne) (fun w hw => by
    obtain ⟨z, hz, rfl⟩ := List.mem_map.mp hw
    exact h z hz)] at e
  rw [TL.join_eq, ← e, List.map_map]
  refine (List.map_id _).symm.trans (List.map_congr_left fun z _ => ?_)
  exact str_list rfl
end K5
namespace K5
open PySem PySem.Spec PyProof.Rows L2
/-! ### lists of texts that are built (as in k85) -/
def LsAt (H : Hp) (p : Addr) (ws : List Str) : Prop := H p = some (.lst (ws.map V.str))
/-- the list of texts ws is made, in whatever heap holds what H holds -/
def LV (te : TE) (σ : L2.St) (H : Hp) (ws : List Str) : Prop := ∀ (H1 : Hp) (Q : VK), Same H H1 → (∀ (H' : Hp) (p : Addr), Same H1 H' → LsAt H' p ws → Q (.ref p) H') → te σ H1 Q
/-- the text z, likewise -/
def SV (te : TE) (σ : L2.St) (H : Hp) (z : Str) : Prop := ∀ (H1 : Hp), Same H H1 → Val te σ H1 (.str z)
section
variable {K : PySem.W.Frag} {σ : L2.St} {H : Hp} {ta tb : TE} {ws us : List Str} {z y : Str} {p : Addr} {j : Nat}
theorem SV.c : SV (tC (.str z)) σ H z := fun H1 _ => val_c
theorem SV.v (h : σ[j]? = some (some (.str z))) : SV (tVar j) σ H z := fun H1 _ => val_var h
def rAddS : R2 := fun x y H Q => ∃ i j, x = .str i ∧ y = .str j ∧ i.length + j.length ≤ sizeLine ∧ Q (.str (i ++ j)) H
theorem SV.add (ha : SV ta σ H z) (hb : SV tb σ H y) (hz : z.length + y.length ≤ 10000000) : SV (tOp rAddS ta tb) σ H (z ++ y) := fun H1 s => val_op (ha H1 s) (hb H1 s) fun Q q => ⟨z, y, rfl, rfl, big_size hz, q⟩
theorem LV.v (h : σ[j]? = some (some (.ref p))) (hp : LsAt H p ws) : LV (tVar j) σ H ws := fun H1 Q s q => (val_var h) _ (q H1 p (Same.refl _) (s _ _ hp))
theorem LV.cat (ha : LV ta σ H ws) (hb : LV tb σ H us) (hz : ws.length + us.length ≤ 1000) : LV (tOp rCat ta tb) σ H (ws ++ us) := fun H1 Q s q => ha H1 _ s fun H2 p1 s2 h1 => hb H2 _ (s.trans s2) fun H3 p2 s3 h2 => by
  refine ⟨p1, p2, ws.map V.str, us.map V.str, rfl, rfl, s3 _ _ h1, h2, by rw [List.length_map, List.length_map]; exact Nat.le_trans hz (by decide), fun p np => q _ p ((s2.trans s3).trans (same_upd np)) ?_⟩
  unfold LsAt
  rw [upd_same, List.map_append]
theorem LV.rep {k : Nat} (ha : LV ta σ H ws) (hk : k ≤ 100) (hz : ws.length ≤ 100) : LV (tOp rRep ta (tC (.int k))) σ H (List.replicate k ws).flatten := fun H1 Q s q => ha H1 _ s fun H2 p1 s2 h1 => by
  refine ⟨p1, k, ws.map V.str, rfl, rfl, h1, by omega, by omega, ?_, fun p np => q _ p (s2.trans (same_upd np)) ?_⟩
  · rw [List.length_map, Int.toNat_natCast]
    exact Nat.le_trans (Nat.mul_le_mul hz hk) (by decide)
  · unfold LsAt
    rw [upd_same, List.map_flatten, List.map_replicate, Int.toNat_natCast]
def OV (t : TO) (σ : L2.St) (o : Option Int) : Prop := ∀ (H : Hp) (Q : Option Int → Hp → Prop), Q o H → t σ H Q
theorem OV.no : OV tNoPart σ none := fun _ _ q => q
theorem OV.yes {te : TE} {i : Int} (h : ∀ H : Hp, Val te σ H (.int i)) : OV (tPart te) σ (some i) := fun H Q q => (h H) _ ⟨i, rfl, q⟩
def cutL {α : Type} (xs : List α) (lo hi : Option Int) : List α := (xs.drop (HT.sIx xs.length 0 lo)).take (HT.sIx xs.length xs.length hi - HT.sIx xs.length 0 lo)
theorem cutV_map (lo hi : Option Int) : cutV (ws.map V.str) lo hi = (cutL ws lo hi).map V.str := by
  unfold cutV cutL
  rw [List.length_map, List.map_take, List.map_drop]
theorem LV.cut {lo hi : Option Int} {tl th : TO} (ha : LV ta σ H ws) (hl : OV tl σ lo) (hh : OV th σ hi) : LV (tSl (rSlL K) ta tl th) σ H (cutL ws lo hi) := fun H1 Q s q => ha H1 _ s fun H2 p1 s2 h1 => hl _ _ (hh _ _ ⟨p1, _, rfl, SqL.of h1, fun p np => q _ p (s2.trans (same_upd np)) (by
  unfold LsAt
  rw [upd_same, cutV_map])⟩)
theorem LV.nil : LV (tLst tNil) σ H [] := fun H1 Q _ q => ⟨Nat.zero_le _, fun p np => q _ p (same_upd np) upd_same⟩
theorem LV.one (ha : SV ta σ H z) : LV (tLst (tCons ta tNil)) σ H [z] := fun H1 Q s q => (ha H1 s) _ ⟨by show 1 ≤ sizeLine; decide, fun p np => q _ p (same_upd np) upd_same⟩
theorem LV.two (ha : SV ta σ H z) (hb : SV tb σ H y) : LV (tLst (tCons ta (tCons tb tNil))) σ H [z, y] := fun H1 Q s q => (ha H1 s) _ ((hb H1 s) _ ⟨by show 2 ≤ sizeLine; decide, fun p np => q _ p (same_upd np) upd_same⟩)
end
theorem app_len' (x y : Str) : (x ++ y).length = x.length + y.length := len_app x y
theorem app_assoc3 (x y z : Str) : x ++ y ++ z = x ++ (y ++ z) := by
  refine str_eq ?_
  rw [cps_append, cps_append, cps_append, cps_append, List.append_assoc]
theorem join2 (c x z : Str) (r : List Str) : Str.join c (x :: z :: r) = x ++ (c ++ Str.join c (z :: r)) := by
  show x ++ c ++ Str.join c (z :: r) = _
  rw [app_assoc3]
theorem jn_txt (a : Str) (ys : List Str) : Txt.join a ys = Str.join a ys := TL.join_eq a ys
/-! ### how much text stands in rows -/
def Wt (xs : List Str) : Nat := (xs.map fun z => z.length + 1).sum
theorem Wt_cons (z : Str) (r : List Str) : Wt (z :: r) = z.length + 1 + Wt r := by
  unfold Wt
  rw [List.map_cons, List.sum_cons]
theorem Wt_nil : Wt [] = 0 := rfl
theorem Wt_app : ∀ a b : List Str, Wt (a ++ b) = Wt a + Wt b
  | [], b => (Nat.zero_add _).symm
  | z :: a, b => by rw [List.cons_append, Wt_cons, Wt_cons, Wt_app a b]; omega
theorem Wt_join {c : Str} (hc : c.length = 1) : ∀ {ps : List Str}, ps ≠ [] → (Str.join c ps).length + 1 = Wt ps
  | [], h => absurd rfl h
  | [x], _ => by
    rw [Wt_cons, Wt_nil]
    rfl
  | x :: y :: r, _ => by
    have ih := Wt_join hc (ps := y :: r) (fun z => nomatch z)
    rw [join2, app_len', app_len', hc, Wt_cons]
    omega
theorem Wt_join_le {c : Str} (hc : c.length = 1) (ps : List Str) : (Str.join c ps).length ≤ Wt ps := by
  cases ps with
  | nil => exact Nat.le_refl _
  | cons x r =>
    have := Wt_join hc (ps := x :: r) (fun z => nomatch z)
    omega
theorem nl1 : ("\n" : Str).length = 1 := by decide +kernel
theorem sp1 : (" " : Str).length = 1 := by decide +kernel
theorem nlC : ("\n" : Str) = ⟨#[10]⟩ := by decide +kernel
theorem Wt_rows (z : Str) : Wt (rowsOf z) = z.length + 1 := by
  have ne : rowsOf z ≠ [] := by
    unfold rowsOf
    rw [nlC]
    exact split_ne _ _
  have := Wt_join nl1 ne
  unfold rowsOf at this ⊢
  rw [StrLaws.join_split] at this
  exact this.symm
theorem Wt_blank (z : Str) : Wt (Txt.split z " ") = z.length + 1 := by
  have ne : Txt.split z " " ≠ [] := by
    rw [space']
    exact split_ne _ _
  have := Wt_join sp1 ne
  rw [StrLaws.join_split] at this
  exact this.symm
theorem Wt_cut (k : Nat) (xs : List Str) : Wt (xs.take k) + Wt (xs.drop k) = Wt xs := by
  rw [← Wt_app, List.take_append_drop]
theorem Wt_mem {y : Str} : ∀ {xs : List Str}, y ∈ xs → y.length + 1 ≤ Wt xs
  | x :: r, h => by
    rw [Wt_cons]
    rcases List.mem_cons.mp h with rfl | h
    · omega
    · have := Wt_mem h
      omega
theorem Wt_len : ∀ xs : List Str, xs.length ≤ Wt xs
  | [] => Nat.le_refl _
  | x :: r => by
    have := Wt_len r
    rw [Wt_cons, List.length_cons]
    omega
theorem sum_Wt : ∀ xs : List Str, (xs.map (·.length)).sum + xs.length = Wt xs
  | [] => rfl
  | x :: r => by
    have := sum_Wt r
    rw [Wt_cons, List.map_cons, List.sum_cons, List.length_cons]
    omega
theorem Wt_rep (xs : List Str) : ∀ k : Nat, Wt (List.replicate k xs).flatten = k * Wt xs
  | 0 => by
    rw [Nat.zero_mul]
    rfl
  | k + 1 => by
    rw [List.replicate_succ, List.flatten_cons, Wt_app, Wt_rep xs k, Nat.succ_mul]
    omega
def OkA (xs : List Str) : Prop := ∀ z ∈ xs, PyData.strOk z = true
theorem ok_add {x y : Str} (hx : PyData.strOk x = true) (hy : PyData.strOk y = true) : PyData.strOk (x ++ y) = true := by
  unfold PyData.strOk at hx hy ⊢
  rw [Array.all_eq_true'] at hx hy ⊢
  intro c hc
  have h1 : c ∈ (x ++ y).cps.toList := Array.mem_toList_iff.mpr hc
  rw [cps_append] at h1
  rcases List.mem_append.mp h1 with h | h
  · exact hx c (Array.mem_toList_iff.mp h)
  · exact hy c (Array.mem_toList_iff.mp h)
theorem ok_join {c : Str} (hc : PyData.strOk c = true) : ∀ {ps : List Str}, OkA ps → PyData.strOk (Str.join c ps) = true
  | [], _ => by
    show PyData.strOk "" = true
    decide +kernel
  | [x], h => h x (List.mem_cons_self ..)
  | x :: y :: r, h => by
    rw [join2]
    exact ok_add (h x (List.mem_cons_self ..)) (ok_add hc (ok_join hc (ps := y :: r) fun z hz => h z (List.mem_cons_of_mem _ hz)))
theorem OkA.app {a b : List Str} (ha : OkA a) (hb : OkA b) : OkA (a ++ b) := fun z hz => by
  rcases List.mem_append.mp hz with h | h
  · exact ha z h
  · exact hb z h
theorem OkA.take {a : List Str} (k : Nat) (ha : OkA a) : OkA (a.take k) := fun z hz => ha z (List.mem_of_mem_take hz)
theorem OkA.drop {a : List Str} (k : Nat) (ha : OkA a) : OkA (a.drop k) := fun z hz => ha z (List.mem_of_mem_drop hz)
theorem OkA.rep {a : List Str} (k : Nat) (ha : OkA a) : OkA (List.replicate k a).flatten := fun z hz => by
  obtain ⟨l, hl, hz⟩ := List.mem_flatten.mp hz
  rw [(List.mem_replicate.mp hl).2] at hz
  exact ha z hz
theorem OkA.split {z y : Str} (h : PyData.strOk z = true) : OkA (Txt.split z y) := fun p hp => split_ok hp h
theorem strip_ok {z y : Str} (h : PyData.strOk z = true) : PyData.strOk (Txt.lstripChars z y) = true := by
  obtain ⟨i, hi, e⟩ := PyProof.Rows.stripBy_left y.cps.contains z
  unfold Txt.lstripChars
  rw [e]
  unfold PyData.strOk at h ⊢
  rw [Array.all_eq_true'] at h ⊢
  intro c hc
  refine h c ?_
  have h1 : c ∈ (z.cps.extract i z.length) := hc
  rw [Array.mem_extract_iff_getElem] at h1
  obtain ⟨k, hk, e⟩ := h1
  rw [← e]
  exact Array.getElem_mem _
/-! ### lists of texts, of any size -/
section
variable {K : PySem.W.Frag} {σ : L2.St} {H : Hp} {ta tb : TE} {ws us : List Str} {z y : Str} {p : Addr} {j : Nat}
theorem LV.catB (ha : LV ta σ H ws) (hb : LV tb σ H us) (hz : ws.length + us.length ≤ 10000000) : LV (tOp rCat ta tb) σ H (ws ++ us) := fun H1 Q s q => ha H1 _ s fun H2 p1 s2 h1 => hb H2 _ (s.trans s2) fun H3 p2 s3 h2 => by
  refine ⟨p1, p2, ws.map V.str, us.map V.str, rfl, rfl, s3 _ _ h1, h2, by rw [List.length_map, List.length_map]; exact big_size hz, fun p np => q _ p ((s2.trans s3).trans (same_upd np)) ?_⟩
  unfold LsAt
  rw [upd_same, List.map_append]
theorem LV.repB {k : Nat} (ha : LV ta σ H ws) (hk : k ≤ 100) (hz : ws.length * k ≤ 10000000) (hb : ∀ H : Hp, Val tb σ H (.int k)) : LV (tOp rRep ta tb) σ H (List.replicate k ws).flatten := fun H1 Q s q => ha H1 _ s fun H2 p1 s2 h1 => (hb H2) _ (by
  refine ⟨p1, k, ws.map V.str, rfl, rfl, h1, by omega, by omega, ?_, fun p np => q _ p (s2.trans (same_upd np)) ?_⟩
  · rw [List.length_map, Int.toNat_natCast]
    exact big_size hz
  · unfold LsAt
    rw [upd_same, List.map_flatten, List.map_replicate, Int.toNat_natCast])
/-- written texts -/
def AL (t : TA) (σ : L2.St) (ws : List Str) : Prop := ∀ (H : Hp) (Q : List V → Hp → Prop), Q (ws.map V.str) H → t σ H Q
theorem AL.nil : AL tNil σ [] := fun _ _ q => q
theorem AL.c {t : TA} (h : AL t σ ws) : AL (tCons (tC (.str z)) t) σ (z :: ws) := fun H Q q => val_c _ (h H _ q)
theorem LV.lst {t : TA} (h : AL t σ ws) (few : ws.length ≤ 100) : LV (tLst t) σ H ws := fun H1 Q _ q => h H1 _ ⟨by rw [List.length_map]; exact Nat.le_trans few (by decide), fun p np => q _ p (same_upd np) upd_same⟩
theorem cutL_to {α : Type} (xs : List α) (k : Nat) : cutL xs none (some (k : Int)) = xs.take k := by
  unfold cutL
  rw [HT.sIx_none, HT.sIx_nat, List.drop_zero, Nat.sub_zero]
  exact List.take_eq_take_min.symm
theorem cutL_from {α : Type} (xs : List α) (k : Nat) : cutL xs (some (k : Int)) none = xs.drop k := by
  unfold cutL
  rw [HT.sIx_none, HT.sIx_nat]
  by_cases h : k ≤ xs.length
  · rw [Nat.min_eq_left h, List.take_of_length_le (by rw [List.length_drop]; exact Nat.le_refl _)]
  · rw [Nat.min_eq_right (by omega), Nat.sub_self, List.take_zero, List.drop_eq_nil_of_le (by omega)]
theorem cutL_mid {α : Type} (xs : List α) (a b : Nat) (ha : a ≤ xs.length) : cutL xs (some (a : Int)) (some (b : Int)) = (xs.drop a).take (b - a) := by
  unfold cutL
  rw [HT.sIx_nat, HT.sIx_nat, Nat.min_eq_left ha]
  by_cases h : b ≤ xs.length
  · rw [Nat.min_eq_left h]
  · rw [Nat.min_eq_right (by omega), List.take_of_length_le (by rw [List.length_drop]; exact Nat.le_refl _), List.take_of_length_le (by rw [List.length_drop]; omega)]
theorem LV.to {k : Nat} (ha : LV ta σ H ws) (hb : ∀ H : Hp, Val tb σ H (.int k)) : LV (tSl (rSlL K) ta tNoPart (tPart tb)) σ H (ws.take k) := by
  rw [← cutL_to]
  exact LV.cut ha OV.no (OV.yes hb)
theorem LV.from {k : Nat} (ha : LV ta σ H ws) (hb : ∀ H : Hp, Val tb σ H (.int k)) : LV (tSl (rSlL K) ta (tPart tb) tNoPart) σ H (ws.drop k) := by
  rw [← cutL_from]
  exact LV.cut ha (OV.yes hb) OV.no
theorem LV.mid {a b : Nat} {tc : TE} (ha : LV ta σ H ws) (h1 : ∀ H : Hp, Val tb σ H (.int a)) (h2 : ∀ H : Hp, Val tc σ H (.int b)) (hl : a ≤ ws.length) : LV (tSl (rSlL K) ta (tPart tb) (tPart tc)) σ H ((ws.drop a).take (b - a)) := by
  rw [← cutL_mid ws a b hl]
  exact LV.cut ha (OV.yes h1) (OV.yes h2)
/-- c.join(a list that is made) -/
theorem join_run {c : Str} {Q : VK} (hl : LV ta σ H ws) (hc : c.length = 1) (few : Wt ws ≤ 10000000) (q : ∀ H', Same H H' → Q (.str (Str.join c ws)) H') : tBM K "str" (fun x xs H Q => ∃ a p, ∃ ys : List Str, x = .str a ∧ xs = [.ref p] ∧ (SqL K H p (ys.map V.str) ∨ SqT K H p (ys.map V.str)) ∧ (ys.map (·.length)).sum + ys.length * a.length ≤ 16777216 ∧ Q (.str (Txt.join a ys)) H) (tC (.str c)) (tCons ta tNil) σ H Q := by
  refine bm_run (x := .str c) val_c rfl ?_
  try dsimp only [tCons, tNil]
  refine hl H _ (Same.refl _) fun H1 p s1 hp => ⟨c, p, ws, rfl, rfl, .inl (SqL.of hp), ?_, ?_⟩
  · have := sum_Wt ws
    rw [hc, Nat.mul_one]
    omega
  · rw [jn_txt]
    exact q _ s1
end
theorem seq_lv {te : TE} {u : TS} {D : Ends} {σ : L2.St} {H : Hp} {ws : List Str} {i : Nat} (h : LV te σ H ws) (k : ∀ H' p, Same H H' → LsAt H' p ws → u D (σ.set i (some (.ref p))) H') : tSeq (tAsg te (gName i)) u D σ H :=
  h H _ (Same.refl _) fun H' p s hp => k H' p s hp
theorem Wt_drop (k : Nat) (xs : List Str) : Wt (xs.drop (k + 1)) ≤ Wt (xs.drop k) := by
  have := Wt_cut 1 (xs.drop k)
  rw [List.drop_drop] at this
  omega
theorem ls_ne {H : Hp} {a b : Addr} {ws : List Str} {p q n : Int} (hb : H b = some (.lst (bx p q n))) (h : LsAt H a ws) : a ≠ b := fun e => by
  unfold LsAt at h
  rw [e, hb] at h
  injection h with h
  injection h with h
  cases ws with
  | nil => cases h
  | cons z r => cases h
theorem Wt_set {y : Str} : ∀ {xs : List Str} {k : Nat} (h : k < xs.length), Wt (xs.set k y) + (xs[k].length + 1) = Wt xs + (y.length + 1)
  | x :: r, 0, _ => by
    show Wt (y :: r) + (x.length + 1) = _
    rw [Wt_cons, Wt_cons]
    omega
  | x :: r, k + 1, h => by
    have ih := Wt_set (y := y) (xs := r) (k := k) (Nat.lt_of_succ_lt_succ h)
    show Wt (x :: r.set k y) + ((r[k]'(Nat.lt_of_succ_lt_succ h)).length + 1) = _
    rw [Wt_cons, Wt_cons]
    omega
theorem OkA.set {y : Str} {xs : List Str} {k : Nat} (h : OkA xs) (hy : PyData.strOk y = true) : OkA (xs.set k y) := fun z hz => by
  rcases List.mem_or_eq_of_mem_set hz with q | q
  · exact h z q
  · rw [q]
    exact hy
theorem ixN_nat {n k : Nat} (h : k < n) : ixN n (k : Int) = some k := by
  unfold ixN
  rw [if_pos (by omega), if_pos (by omega), Int.toNat_natCast]
theorem val_cutH {σ : L2.St} {H : Hp} {ta tb : TE} {z : Str} {n : Int} (ha : Val ta σ H (.str z)) (hb : Val tb σ H (.int n)) (hz : z.length ≤ sizeLine) : Val (tSl rSlS ta tNoPart (tPart tb)) σ H (.str (cutS z none (some n))) := fun Q q =>
  ha _ (hb _ ⟨n, rfl, z, rfl, hz, q⟩)
theorem asg_seq {te : TE} {u : TS} {D : Ends} {σ : L2.St} {H : Hp} {i : Nat} (h : te σ H fun x H' => u D (σ.set i (some x)) H') : tSeq (tAsg te (gName i)) u D σ H := h
theorem asg_end {te : TE} {D : Ends} {σ : L2.St} {H : Hp} {i : Nat} (h : te σ H fun x H' => D.nx (σ.set i (some x)) H') : tAsg te (gName i) D σ H := h
end K5
namespace K5
open PySem PySem.Spec PyProof.Rows L2
/-! ### short texts of one line -/
structure Tz (n : Nat) (z : Str) : Prop where
  l : z.length ≤ n
  o : PyData.strOk z = true
  f : 10 ∉ z.cps.toList
theorem Tz.mono {n m : Nat} {z : Str} (h : Tz n z) (le : n ≤ m) : Tz m z := ⟨Nat.le_trans h.l le, h.o, h.f⟩
theorem Tz.add {n m : Nat} {x y : Str} (hx : Tz n x) (hy : Tz m y) : Tz (n + m) (x ++ y) := ⟨by
  rw [app_len']
  exact Nat.add_le_add hx.l hy.l, ok_add hx.o hy.o, fun c => by
  rw [cps_append] at c
  rcases List.mem_append.mp c with c | c
  · exact hx.f c
  · exact hy.f c⟩
theorem Tz.join {n m : Nat} {c : Str} (hc : Tz m c) : ∀ {ps : List Str}, (∀ z ∈ ps, Tz n z) → Tz (ps.length * (n + m)) (Str.join c ps)
  | [], _ => ⟨Nat.zero_le _, by show PyData.strOk "" = true; decide +kernel, fun h => nomatch h⟩
  | [x], h => by
    refine (h x (List.mem_cons_self ..)).mono ?_
    show n ≤ 1 * (n + m)
    omega
  | x :: y :: r, h => by
    rw [join2]
    refine ((h x (List.mem_cons_self ..)).add (hc.add (Tz.join hc (ps := y :: r) fun z hz => h z (List.mem_cons_of_mem _ hz)))).mono ?_
    rw [List.length_cons (a := x), Nat.succ_mul]
    omega
theorem tz_of {n : Nat} {z : Str} (h : (decide (z.length ≤ n) && (PyData.strOk z && !(z.cps.toList.contains 10))) = true) : Tz n z := by
  rw [Bool.and_eq_true, Bool.and_eq_true] at h
  exact ⟨of_decide_eq_true h.1, h.2.1, fun c => by
    have := h.2.2
    rw [List.contains_iff_mem.mpr c] at this
    cases this⟩
theorem tz_nums : ∀ i : Fin 4, Tz 1 (toString ((i.val : Nat) : Int) : Str) := fun i => tz_of (by revert i; decide +kernel)
theorem tz_num {i : Int} (h0 : 0 ≤ i) (h1 : i < 4) : Tz 1 (toString i : Str) := by
  have := tz_nums ⟨i.toNat, by omega⟩
  rw [show ((i.toNat : Nat) : Int) = i by omega] at this
  exact this
theorem tz_ans {i : Int} (h0 : -2 ≤ i) (h1 : i < 4) : Tz 4 (ansW i) := by
  unfold ansW
  by_cases c1 : i = -1
  · rw [if_pos c1]
    exact tz_of (by decide +kernel)
  · rw [if_neg c1]
    by_cases c2 : i = -2
    · rw [if_pos c2]
      exact tz_of (by decide +kernel)
    · rw [if_neg c2]
      exact (tz_num (by omega) h1).mono (by decide)
theorem tz_pool : ∀ z ∈ poolD, Tz 8 z := fun z h => tz_of (by
  have : ∀ z ∈ poolD, (decide (z.length ≤ 8) && (PyData.strOk z && !(z.cps.toList.contains 10))) = true := by decide +kernel
  exact this z h)
/-- the text of a page: how long, how many rows -/
structure Pg (L R : Nat) (z : Str) : Prop where
  l : z.length ≤ L
  o : PyData.strOk z = true
  r : (rowsOf z).length ≤ R
theorem Pg.mono {L L' R R' : Nat} {z : Str} (h : Pg L R z) (hl : L ≤ L') (hr : R ≤ R') : Pg L' R' z := ⟨Nat.le_trans h.l hl, h.o, Nat.le_trans h.r hr⟩
def lns (z : Str) : Nat := z.cps.toList.count 10
theorem lns_app (x y : Str) : lns (x ++ y) = lns x + lns y := by
  unfold lns
  rw [cps_append, List.count_append]
theorem lns_free {z : Str} (h : 10 ∉ z.cps.toList) : lns z = 0 := List.count_eq_zero.mpr h
theorem lns_join : ∀ {ps : List Str}, (∀ z ∈ ps, 10 ∉ z.cps.toList) → lns (Str.join "\n" ps) = ps.length - 1
  | [], _ => rfl
  | [x], h => lns_free (h x (List.mem_cons_self ..))
  | x :: y :: r, h => by
    rw [join2, lns_app, lns_app, lns_free (h x (List.mem_cons_self ..)), lns_join (ps := y :: r) fun z hz => h z (List.mem_cons_of_mem _ hz)]
    have : lns ("\n" : Str) = 1 := by decide +kernel
    rw [this]
    simp only [List.length_cons]
    omega
theorem rows_free (z : Str) : ∀ p ∈ rowsOf z, 10 ∉ p.cps.toList := by
  unfold rowsOf
  rw [nlC]
  exact StrLaws.split_free _ 10
theorem rows_ne (z : Str) : rowsOf z ≠ [] := by
  unfold rowsOf
  rw [nlC]
  exact split_ne _ _
theorem rows_lns (z : Str) : (rowsOf z).length = lns z + 1 := by
  have h := lns_join (rows_free z)
  have e : Str.join "\n" (rowsOf z) = z := by
    unfold rowsOf
    rw [StrLaws.join_split]
  rw [e] at h
  have := List.length_pos_iff.mpr (rows_ne z)
  omega
/-- a joined page -/
theorem pg_join {L R : Nat} {ps : List Str} (R1 : 1 ≤ R) (l : Wt ps ≤ L) (o : OkA ps) (f : ∀ z ∈ ps, 10 ∉ z.cps.toList) (r : ps.length ≤ R) : Pg L R (Str.join "\n" ps) := ⟨Nat.le_trans (Wt_join_le nl1 ps) l, ok_join (by decide +kernel) o, by
  rw [rows_lns, lns_join f]
  omega⟩
theorem lns_cut {z : Str} {lo hi : Option Int} : lns (cutS z lo hi) ≤ lns z := by
  unfold lns cutS
  exact List.Sublist.count_le _ (List.Sublist.trans (List.take_sublist ..) (List.drop_sublist ..))
end K5
namespace K5
open PySem PySem.Spec PyProof.Rows L2
theorem log_mid {n : Nat} (h : n ≤ 20000) : n.log2 < 1920 := by
  by_cases h0 : n = 0
  · rw [h0]; decide
  · exact Nat.lt_of_lt_of_le ((Nat.log2_lt h0).mpr (show n < 2 ^ 15 by omega)) (by decide)
/-! ### the text of a drawn pact -/
def partI (o : Int × Int) : Str := ansW o.1 ++ " " ++ toString o.2
def shownI (os : List (Int × Int)) : List (Int × Int) := os.filter (fun o => decide (-1 < o.1)) ++ os.reverse.filter (fun o => decide (o.1 < 0))
def rowI (r : RwD) : Str := "  " ++ r.1.1 ++ " " ++ toString ((r.1.2 : Nat) : Int) ++ " -> " ++ Str.join ", " ((shownI r.2).map partI)
def pageI : Nat → List (List RwD) → List Str
  | _, [] => []
  | k, s :: r => stateRow k :: (s.map rowI ++ pageI (k + 1) r)
theorem pageI_snoc (s : List RwD) : ∀ (l : List (List RwD)) (k : Nat), pageI k (l ++ [s]) = pageI k l ++ (stateRow (k + l.length) :: s.map rowI)
  | [], k => by
    show stateRow k :: (s.map rowI ++ []) = [] ++ (stateRow (k + 0) :: s.map rowI)
    rw [List.append_nil]
    rfl
  | x :: l, k => by
    show stateRow k :: (x.map rowI ++ pageI (k + 1) (l ++ [s])) = stateRow k :: (x.map rowI ++ pageI (k + 1) l) ++ (stateRow (k + (l.length + 1)) :: s.map rowI)
    rw [pageI_snoc s l (k + 1), show k + 1 + l.length = k + (l.length + 1) by omega, List.cons_append, List.append_assoc]
def spPText : Sp := fun vs H Q _ => ∃ (r : Addr) (ps : List Addr) (sts : List (List RwD)), vs = [.ref r] ∧ H r = some (.tup (ps.map V.ref)) ∧ Paired (StD H) ps sts ∧ (∀ s ∈ sts, s.length ≤ 12 ∧ ∀ w ∈ s, RowOk w) ∧ sts.length ≤ 4 ∧ 0 < sts.length ∧
  ∀ (H' : Hp) (z : Str), Same H H' → Pg 3160 52 z → z = Str.join "\n" (pageI 0 sts) → Q (.str z) H'
abbrev s__law_pact_text : Stmt := topS 45
abbrev nmPT : List Str := ["_law_pact_here", "_law_lines", "_law_number", "_law_state", "_law_its_door", "_law_its_worth", "_law_outcomes", "_law_some_here", "_law_told", "_law_one", "_law_answer", "_law_later"]
theorem sc__law_pact_text : FnScope nmPT ["_law_pact_here"] (defScope s__law_pact_text) := ⟨rfl, rfl, rfl, by decide +kernel, rfl, by decide +kernel, by decide +kernel⟩
theorem paired_at {α β : Type} {R : α → β → Prop} : ∀ {l : List α} {m : List β} (i : Nat) {a : α}, Paired R l m → l[i]? = some a → ∃ b, m[i]? = some b ∧ R a b
  | _, _, _, _, .nil, h => by cases h
  | _, _, 0, _, .cons (b := b) x r, h => ⟨b, rfl, by
    injection h with h
    exact h ▸ x⟩
  | _, _, i + 1, _, .cons x r, h => paired_at i r h
theorem paired_rev {α β : Type} {R : α → β → Prop} : ∀ {l : List α} {m : List β}, Paired R l m → Paired R l.reverse m.reverse
  | _, _, .nil => .nil
  | _, _, .cons x r => by
    rw [List.reverse_cons, List.reverse_cons]
    exact paired_app (paired_rev r) x
section
variable {K : PySem.W.Frag}
/-- [x for x in t if test(x[0])] -/
theorem filt_lc {te : TE} {tt : TT} {p : Int → Bool} {ts : List Addr} {os : List (Int × Int)} {o : Addr} {u0 u1 u2 u3 u4 u5 u6 u7 u8 u9 u10 u11 : Option V} {H : Hp} {Q : VK} (hv : Val te [u0, u1, u2, u3, u4, u5, u6, u7, u8, u9, u10, u11] H (.ref o)) (ho : H o = some (.tup (ts.map V.ref))) (a : OsAt H ts os) (few : os.length ≤ 6)
    (ht : ∀ (t : Addr) (q : Int × Int) (H' : Hp) (R : Bool → Hp → Prop), H' t = some (.tup [.int q.1, .int q.2]) → R (p q.1) H' → tt [u0, u1, u2, u3, u4, u5, u6, u7, u8, some (.ref t), u10, u11] H' R)
    (k : ∀ (H' : Hp) (D : Addr) (us : List Addr), Same H H' → H' D = some (.lst (us.map V.ref)) → OsAt H' us (os.filter fun q => p q.1) → Q (.ref D) H') :
    tLc (iTup K te) (gName 9) tt (tVar 9) [9] [u0, u1, u2, u3, u4, u5, u6, u7, u8, u9, u10, u11] H Q := by
  dsimp only [tLc, iTup]
  refine hv _ ⟨o, rfl, ⟨_, SqT.of ho⟩, fun D nD => ?_⟩
  refine lc_tup (xs := ts.map V.ref) (fun j H2 => ∃ us : List Addr, Same H H2 ∧ H2 D = some (.lst (us.map V.ref)) ∧ OsAt H2 us ((os.take j).filter fun q => p q.1)) ⟨[], same_upd nD, upd_same, .nil⟩ (fun j H2 _ ⟨us, s2, _⟩ => SqT.of (s2 _ _ ho)) (fun j x H2 hj hI => ?_) fun H2 hI => ?_
  · obtain ⟨us, s2, hD, au⟩ := hI
    obtain ⟨t, et, rfl⟩ : ∃ t, ts[j]? = some t ∧ x = .ref t := by
      rw [List.getElem?_map] at hj
      cases e : ts[j]? with
      | none => rw [e] at hj; cases hj
      | some i => rw [e] at hj; exact ⟨i, rfl, (Option.some.inj hj).symm⟩
    obtain ⟨q, eq, hq⟩ := paired_at j a et
    have ul : us.length ≤ j := by
      rw [au.len]
      refine Nat.le_trans (List.length_filter_le _ _) ?_
      rw [List.length_take]
      omega
    have jlt := (List.getElem?_eq_some_iff.mp eq).1
    refine ⟨rfl, ?_⟩
    refine ht t q H2 _ (s2 _ _ hq) ?_
    have tk : os.take (j + 1) = os.take j ++ [q] := by
      rw [List.take_add_one, eq]
      rfl
    cases c : p q.1 with
    | false =>
      rw [if_neg (by decide)]
      refine ⟨us, s2, hD, ?_⟩
      rw [tk, List.filter_append]
      have : ([q].filter fun q => p q.1) = [] := by simp [c]
      rw [this, List.append_nil]
      exact au
    | true =>
      rw [if_pos rfl]
      refine (val_var rfl) _ ⟨us.map V.ref, hD, by rw [List.length_map]; exact Nat.lt_of_le_of_lt ul (Nat.lt_trans (show j < 7 by omega) (by decide)), us ++ [t], fun b o' e => ?_, ?_, ?_⟩
      · rw [upd_ne (ne_of_none e nD)]
        exact s2 _ _ e
      · rw [List.map_append]
        exact upd_same
      · rw [tk, List.filter_append]
        have : ([q].filter fun q => p q.1) = [q] := by simp [c]
        rw [this]
        have sB := SameBut.upd D H2 (.lst (us.map V.ref ++ [V.ref t]))
        refine OsAt.app (au.but sB hD) (sB _ _ (fun e => ?_) (s2 _ _ hq))
        rw [e] at hq
        rw [hq] at nD
        cases nD
  · obtain ⟨us, s2, hD, au⟩ := hI
    rw [List.length_map, a.len, List.take_length] at au
    exact k H2 D us s2 hD au

/-- [x for x in t[::-1] if test(x[0])] -/
theorem rev_lc {tt : TT} {p : Int → Bool} {ts : List Addr} {os : List (Int × Int)} {o : Addr} {u0 u1 u2 u3 u4 u5 u6 u7 u8 u9 u10 u11 : Option V} {H : Hp} {Q : VK} (hv : Val (tVar 6) [u0, u1, u2, u3, u4, u5, u6, u7, u8, u9, u10, u11] H (.ref o)) (ho : H o = some (.tup (ts.map V.ref))) (a : OsAt H ts os) (few : os.length ≤ 6)
    (ht : ∀ (t : Addr) (q : Int × Int) (H' : Hp) (R : Bool → Hp → Prop), H' t = some (.tup [.int q.1, .int q.2]) → R (p q.1) H' → tt [u0, u1, u2, u3, u4, u5, u6, u7, u8, some (.ref t), u10, u11] H' R)
    (k : ∀ (H' : Hp) (D : Addr) (us : List Addr), Same H H' → H' D = some (.lst (us.map V.ref)) → OsAt H' us (os.reverse.filter fun q => p q.1) → Q (.ref D) H') :
    tLc (iTup K (tRevT K (tVar 6))) (gName 9) tt (tVar 9) [9] [u0, u1, u2, u3, u4, u5, u6, u7, u8, u9, u10, u11] H Q := by
  have hr : ∀ (v : Addr) (H1 : Hp) (Q : VK), Same H H1 → H1 v = some (.tup (ts.reverse.map V.ref)) → (∀ (H' : Hp) (D : Addr) (us : List Addr), Same H1 H' → H' D = some (.lst (us.map V.ref)) → OsAt H' us (os.reverse.filter fun q => p q.1) → Q (.ref D) H') →
      tLc (iTup K (tC (.ref v))) (gName 9) tt (tVar 9) [9] [u0, u1, u2, u3, u4, u5, u6, u7, u8, u9, u10, u11] H1 Q := fun v H1 Q s hv1 kk =>
    filt_lc val_c hv1 (paired_rev (Paired.mapP a fun _ _ e => s _ _ e)) (by rw [List.length_reverse]; exact few) ht kk
  unfold tLc iTup tRevT
  refine hv _ ⟨o, _, rfl, SqT.of ho, fun v nv => ?_⟩
  have s := same_upd (o := .tup (ts.map V.ref).reverse) nv
  refine hr v _ Q s ?_ fun H' D us s2 => k H' D us (s.trans s2)
  rw [upd_same, List.map_reverse]
theorem paired_append {α β : Type} {R : α → β → Prop} : ∀ {l l' : List α} {m m' : List β}, Paired R l m → Paired R l' m' → Paired R (l ++ l') (m ++ m')
  | _, _, _, _, .nil, h => h
  | _, _, _, _, .cons x r, h => .cons x (paired_append r h)
theorem sum_le {c : Nat} : ∀ {zs : List Str}, (∀ z ∈ zs, z.length ≤ c) → (zs.map (·.length)).sum ≤ c * zs.length
  | [], _ => Nat.zero_le _
  | z :: r, h => by
    have := h z (List.mem_cons_self ..)
    have ih := sum_le (zs := r) fun y hy => h y (List.mem_cons_of_mem _ hy)
    rw [List.map_cons, List.sum_cons, List.length_cons, Nat.mul_succ]
    omega
/-- [ansW(a) + " " + str(n) for a, n in xs] -/
theorem told_lc {te : TE} {us : List Addr} {os : List (Int × Int)} {o : Addr} {u0 u1 u2 u3 u4 u5 u6 u7 u8 u9 u10 u11 : Option V} {H : Hp} {Q : VK} (hv : Val (tVar 7) [u0, u1, u2, u3, u4, u5, u6, u7, u8, u9, u10, u11] H (.ref o)) (ho : H o = some (.lst (us.map V.ref))) (a : OsAt H us os) (ok : OsOk os)
    (ht : ∀ (q w : Int) (H' : Hp) (R : VK), -2 ≤ q → q < 4 → 0 ≤ w → w < 4 → (∀ H'', Same H' H'' → R (.str (ansW q ++ " " ++ toString w)) H'') → te [u0, u1, u2, u3, u4, u5, u6, u7, u8, u9, some (.int q), some (.int w)] H' R)
    (k : ∀ (H' : Hp) (D : Addr) (zs : List Str), Same H H' → H' D = some (.lst (zs.map V.str)) → zs.length ≤ 6 → (∀ z ∈ zs, Tz 6 z) → zs = os.map partI → Q (.ref D) H') :
    tLc (iList K (tVar 7)) (gTup K 2 (gCons (gName 10) (gCons (gName 11) gNil))) tYes te [10, 11] [u0, u1, u2, u3, u4, u5, u6, u7, u8, u9, u10, u11] H Q := by
  dsimp only [tLc, iList]
  refine hv _ ⟨o, rfl, ⟨_, SqL.of ho⟩, fun D nD => ?_⟩
  refine lc_list (xs := us.map V.ref) (fun j H2 => ∃ zs : List Str, Same H H2 ∧ H2 D = some (.lst (zs.map V.str)) ∧ zs.length = j ∧ (∀ z ∈ zs, Tz 6 z) ∧ zs = (os.take j).map partI) ⟨[], same_upd nD, upd_same, rfl, (fun _ h => (nomatch h)), rfl⟩ (fun j H2 _ ⟨zs, s2, _⟩ => SqL.of (s2 _ _ ho)) (fun j x H2 hj hI => ?_) fun H2 hI => ?_
  · obtain ⟨zs, s2, hD, zl, zt, ze⟩ := hI
    obtain ⟨t, et, rfl⟩ : ∃ t, us[j]? = some t ∧ x = .ref t := by
      rw [List.getElem?_map] at hj
      cases e : us[j]? with
      | none => rw [e] at hj; cases hj
      | some i => rw [e] at hj; exact ⟨i, rfl, (Option.some.inj hj).symm⟩
    obtain ⟨q, eq, hq⟩ := paired_at j a et
    have jlt := (List.getElem?_eq_some_iff.mp eq).1
    have j6 := ok.1
    have qo := ok.2 q (List.mem_of_getElem? eq)
    refine ⟨t, _, rfl, SqT.of (s2 _ _ hq), rfl, _, _, rfl, _, _, rfl, rfl, ?_⟩
    refine ⟨rfl, ?_⟩
    dsimp only [tYes]
    rw [if_pos rfl]
    refine ht q.1 q.2 H2 _ qo.1 qo.2.1 qo.2.2.1 qo.2.2.2 fun H3 s3 => ?_
    have hD3 := s3 _ _ hD
    refine ⟨zs.map V.str, hD3, by rw [List.length_map, zl]; exact Nat.lt_trans (show j < 7 by omega) (by decide), zs ++ [ansW q.1 ++ " " ++ toString q.2], fun b o' e => ?_, ?_, by rw [List.length_append, zl]; rfl, fun z hz => ?_, ?_⟩
    · rw [upd_ne (ne_of_none e nD)]
      exact s3 _ _ (s2 _ _ e)
    · rw [List.map_append]
      exact upd_same
    · rcases List.mem_append.mp hz with hz | hz
      · exact zt z hz
      · rw [List.mem_singleton.mp hz]
        exact ((tz_ans qo.1 qo.2.1).add (tz_of (n := 1) (by decide +kernel))).add (tz_num qo.2.2.1 qo.2.2.2)
    · rw [ze, List.take_add_one, eq, List.map_append]
      rfl
  · obtain ⟨zs, s2, hD, zl, zt, ze⟩ := hI
    rw [List.length_map, a.len] at zl
    rw [List.length_map, a.len, List.take_length] at ze
    exact k H2 D zs s2 hD (by rw [zl]; exact ok.1) zt ze
end
/-- what stands at each turn -/
structure Pt (H : Hp) (L : Addr) (H' : Hp) (zs : List Str) (w n : Nat) : Prop where
  s : ∀ b o, H b = some o → H' b = some o
  l : H' L = some (.lst (zs.map V.str))
  t : ∀ z ∈ zs, Tz 64 z
  w : Wt zs ≤ w
  n : zs.length ≤ n
theorem Pt.same {H H1 H2 : Hp} {L : Addr} {zs : List Str} {w n : Nat} (h : Pt H L H1 zs w n) (s : Same H1 H2) : Pt H L H2 zs w n := ⟨fun b o e => s _ _ (h.s b o e), s _ _ h.l, h.t, h.w, h.n⟩
theorem Pt.mono {H H1 : Hp} {L : Addr} {zs : List Str} {w n w' n' : Nat} (h : Pt H L H1 zs w n) (lw : w ≤ w') (ln : n ≤ n') : Pt H L H1 zs w' n' := ⟨h.s, h.l, h.t, Nat.le_trans h.w lw, Nat.le_trans h.n ln⟩
theorem Pt.push {H H1 : Hp} {L : Addr} {zs : List Str} {w n k : Nat} {z : Str} (h : Pt H L H1 zs w n) (nL : H L = none) (hk : k ≤ 64) (hz : Tz k z) : Pt H L (upd H1 L (.lst (zs.map V.str ++ [.str z]))) (zs ++ [z]) (w + (k + 1)) (n + 1) := ⟨fun b o e => by
  rw [upd_ne (ne_of_none e nL)]
  exact h.s b o e, by rw [List.map_append]; exact upd_same, fun y hy => by
  rcases List.mem_append.mp hy with hy | hy
  · exact h.t y hy
  · rw [List.mem_singleton.mp hy]
    exact hz.mono hk, by
  have := h.w
  have := hz.l
  rw [Wt_app, Wt_cons, Wt_nil]
  omega, by
  have := h.n
  rw [List.length_append]
  show zs.length + 1 ≤ _
  omega⟩
abbrev rStrI : List V → Hp → VK → Prop := fun xs H Q => ∃ i, xs = [.int i] ∧ i.natAbs.log2 < 1920 ∧ Q (.str (toString i)) H
abbrev rJoinS (K : PySem.W.Frag) : V → List V → Hp → VK → Prop := fun x xs H Q => ∃ a p, ∃ ys : List Str, x = .str a ∧ xs = [.ref p] ∧ (SqL K H p (ys.map V.str) ∨ SqT K H p (ys.map V.str)) ∧ (ys.map (·.length)).sum + ys.length * a.length ≤ 16777216 ∧ Q (.str (Txt.join a ys)) H
abbrev tRowD (K : PySem.W.Frag) : TS :=
  tSeq (tAsg (tOp rCat (tLc (iTup K (tVar 6)) (gName 9) ((tTest (tOp (rI0 fun i j => V.bl (decide (j < i))) (tOp (rIxT K) (tVar 9) (tC (.int (0 : Nat)))) (tUn (rU fun i => .int (-i)) (tC (.int 1)))))) (tVar 9) [9])
      (tLc (iTup K (tRevT K (tVar 6))) (gName 9) ((tTest (tOp (rI0 fun i j => V.bl (decide (i < j))) (tOp (rIxT K) (tVar 9) (tC (.int (0 : Nat)))) (tC (.int 0))))) (tVar 9) [9])) (gName 7))
  (tSeq (tAsg (tBM K "str" (rJoinS K) (tC (.str ", ")) (tCons (tLc (iList K (tVar 7)) (gTup K 2 (gCons (gName 10) (gCons (gName 11) gNil))) tYes (tOp rAddS (tOp rAddS (tCall spAw [] E0 (tCons (tVar 10) tNil)) (tC (.str " "))) (tCB rStrI (tCons (tVar 11) tNil))) [10, 11]) tNil)) (gName 8))
  (tDrop (tBM K "list" rAppend (tVar 1) (tCons (tOp rAddS (tOp rAddS (tOp rAddS (tOp rAddS (tOp rAddS (tC (.str "  ")) (tVar 4)) (tC (.str " "))) (tCB rStrI (tCons (tVar 5) tNil))) (tC (.str " -> "))) (tVar 8)) tNil))))

theorem paired_map {α β : Type} {R S : α → β → Prop} {l : List α} {m : List β} (h : Paired R l m) (f : ∀ a b, R a b → S a b) : Paired S l m := Paired.mapP h f
theorem small_log {i : Int} (h0 : -20000 ≤ i) (h1 : i ≤ 20000) : i.natAbs.log2 < 1920 := log_mid (by omega)
theorem val_addS {σ : L2.St} {H : Hp} {ta tb : TE} {x y : Str} (ha : Val ta σ H (.str x)) (hb : Val tb σ H (.str y)) (hz : x.length + y.length ≤ 10000000) : Val (tOp rAddS ta tb) σ H (.str (x ++ y)) := val_op ha hb fun Q q => ⟨x, y, rfl, rfl, big_size hz, q⟩
section
variable {K : PySem.W.Frag}
theorem prow_loop {D0 : Ends} {H H8 : Hp} {L r st : Addr} {rs : List RwD} {zs : List Str} {w0 n0 : Nat} {v2 u4 u5 u6 u7 u8 u9 u10 u11 : Option V} (nL : H L = none) (hst : StD H st rs) (rl : rs.length ≤ 12) (ok : ∀ w ∈ rs, RowOk w) (pt : Pt H L H8 zs w0 n0) (hw : w0 ≤ 100000) (hn : n0 ≤ 1000)
    (hd : ∀ (u4 u5 u6 u7 u8 u9 u10 u11 : Option V) (H' : Hp) (zs' : List Str), Pt H L H' zs' (w0 + 65 * 12) (n0 + 12) → zs' = zs ++ rs.map rowI → D0.nx [some (.ref r), some (.ref L), v2, some (.ref st), u4, u5, u6, u7, u8, u9, u10, u11] H') :
    tFor (iTup K (tVar 3)) (gTup K 3 (gCons (gName 4) (gCons (gName 5) (gCons (gName 6) gNil)))) (tRowD K) D0 [some (.ref r), some (.ref L), v2, some (.ref st), u4, u5, u6, u7, u8, u9, u10, u11] H8 := by
  obtain ⟨ts, hts, hp⟩ := hst
  have tl : ts.length = rs.length := Paired.length hp
  refine ⟨.ref st, rfl, st, rfl, ⟨_, SqT.of (pt.s _ _ hts)⟩, ?_⟩
  show ∃ W : Nat → Nat → L2.St → Hp → Prop, _
  refine for_tup (K := K) (a := st) (xs := ts.map V.ref) (fun c σ H' => ∃ (u4 u5 u6 u7 u8 u9 u10 u11 : Option V) (zs' : List Str), σ = [some (.ref r), some (.ref L), v2, some (.ref st), u4, u5, u6, u7, u8, u9, u10, u11] ∧ Pt H L H' zs' (w0 + 65 * c) (n0 + c) ∧ zs' = zs ++ (rs.take c).map rowI) ?_ ?_ ?_ ?_
  · exact ⟨_, _, _, _, _, _, _, _, zs, rfl, pt, by rw [List.take_zero, List.map_nil, List.append_nil]⟩
  · rintro c σ H9 _ ⟨_, _, _, _, _, _, _, _, zs9, rfl, pt9, _⟩
    exact SqT.of (pt9.s _ _ hts)
  · rintro c x σ H9 ex ⟨u4, u5, u6, u7, u8, u9, u10, u11, zs9, rfl, pt9, ze9⟩
    obtain ⟨t, et, rfl⟩ : ∃ t, ts[c]? = some t ∧ x = .ref t := by
      rw [List.getElem?_map] at ex
      cases e : ts[c]? with
      | none => rw [e] at ex; cases ex
      | some i => rw [e] at ex; exact ⟨i, rfl, (Option.some.inj ex).symm⟩
    obtain ⟨q, eq, o, hq, us, ho, au⟩ := paired_at c hp et
    have clt := (List.getElem?_eq_some_iff.mp eq).1
    obtain ⟨qd, qw, qo⟩ := ok q (List.mem_of_getElem? eq)
    have qd := tz_pool _ qd
    refine ⟨t, _, rfl, SqT.of (pt9.s _ _ hq), rfl, _, _, rfl, _, _, rfl, _, _, rfl, rfl, ?_⟩
    try dsimp only [gName, List.set]
    dsimp only [tRowD, tSeq, tAsg, tOp]
    refine filt_lc (p := fun i => decide (-1 < i)) (val_var rfl) (pt9.s _ _ ho) (Paired.mapP au fun _ _ e => pt9.s _ _ e) qo.1 (fun t' q' H' R hq' hR => ?_) fun H10 D1 us1 s10 hD1 a1 => ?_
    · dsimp only [tTest, tOp, tUn]
      refine (val_var rfl) _ ?_
      refine val_c _ ?_
      refine ⟨t', _, _, _, rfl, rfl, SqT.of hq', rfl, ?_⟩
      refine val_c _ ?_
      refine ⟨1, rfl, ?_⟩
      exact ⟨q'.1, -1, rfl, rfl, _, rfl, hR⟩
    have ho10 := s10 _ _ (pt9.s _ _ ho)
    have revp : ∀ (H' : Hp) (R : VK), Same H10 H' → True := fun _ _ _ => trivial
    -- the tuple turned round
    refine rev_lc (K := K) (p := fun i => decide (i < 0)) (val_var rfl) ho10 (Paired.mapP au fun _ _ e => s10 _ _ (pt9.s _ _ e)) qo.1 (fun t' q' H' R hq' hR => ?_) fun H11 D2 us2 s11 hD2 a2 => ?_
    · dsimp only [tTest, tOp]
      refine (val_var rfl) _ ?_
      refine val_c _ ?_
      refine ⟨t', _, _, _, rfl, rfl, SqT.of hq', rfl, ?_⟩
      refine val_c _ ?_
      exact ⟨q'.1, 0, rfl, rfl, _, rfl, hR⟩
    have hD1' := s11 _ _ hD1
    have cnt : (q.2.filter fun o => decide (-1 < o.1)).length + (q.2.reverse.filter fun o => decide (o.1 < 0)).length ≤ 6 := by
      have h1 := qo.1
      rw [List.filter_reverse, List.length_reverse]
      have : ∀ os : List (Int × Int), (os.filter fun o => decide (-1 < o.1)).length + (os.filter fun o => decide (o.1 < 0)).length = os.length := by
        intro os
        induction os with
        | nil => rfl
        | cons o r ih =>
          rw [List.filter_cons, List.filter_cons, List.length_cons]
          by_cases h : -1 < o.1
          · rw [decide_eq_true h, decide_eq_false (show ¬ o.1 < 0 by omega), if_pos rfl, if_neg Bool.false_ne_true, List.length_cons]
            omega
          · rw [decide_eq_false h, decide_eq_true (show o.1 < 0 by omega), if_pos rfl, if_neg Bool.false_ne_true, List.length_cons]
            omega
      rw [this]
      exact h1
    have l1 := a1.len
    have l2 := a2.len
    refine ⟨D1, D2, _, _, rfl, rfl, hD1', hD2, by rw [List.length_map, List.length_map]; exact Nat.le_trans (show us1.length + us2.length ≤ 6 by omega) (by decide), fun D3 nD3 => ?_⟩
    have s12 := same_upd (o := .lst (us1.map V.ref ++ us2.map V.ref)) nD3
    have hD3 : (upd H11 D3 (.lst (us1.map V.ref ++ us2.map V.ref))) D3 = some (.lst ((us1 ++ us2).map V.ref)) := by rw [List.map_append]; exact upd_same
    generalize (upd H11 D3 (.lst (us1.map V.ref ++ us2.map V.ref))) = H12 at s12 hD3 ⊢
    have a3 : OsAt H12 (us1 ++ us2) (q.2.filter (fun o => decide (-1 < o.1)) ++ q.2.reverse.filter (fun o => decide (o.1 < 0))) := paired_append (Paired.mapP a1 fun _ _ e => s12 _ _ (s11 _ _ e)) (Paired.mapP a2 fun _ _ e => s12 _ _ e)
    have ok3 : OsOk (q.2.filter (fun o => decide (-1 < o.1)) ++ q.2.reverse.filter (fun o => decide (o.1 < 0))) := ⟨by rw [List.length_append]; exact cnt, fun o ho => by
      rcases List.mem_append.mp ho with ho | ho
      · exact qo.2 o (List.mem_filter.mp ho).1
      · exact qo.2 o (List.mem_reverse.mp (List.mem_filter.mp ho).1)⟩
    have pt12 := (pt9.same s10).same (s11.trans s12)
    try dsimp only [gName, List.set]
    refine asg_seq ?_
    refine bm_run (x := .str ", ") val_c rfl ?_
    dsimp only [tCons, tNil]
    refine told_lc (val_var rfl) hD3 a3 ok3 (fun q' w' H' R h0 h1 h2 h3 hR => ?_) fun H13 D4 ys s13 hD4 yl yt ye => ?_
    · dsimp only [tOp, tCall, tCons, tNil, tCB]
      refine (val_var rfl) _ ⟨q', rfl, small_log (by omega) (by omega), fun H'' s'' => ?_⟩
      have t1 := tz_ans h0 h1
      have t2 := tz_num h2 h3
      refine val_c _ ⟨_, " ", rfl, rfl, big_size ?_, ?_⟩
      · have := t1.l
        have : (" " : Str).length = 1 := by decide +kernel
        omega
      · have tt := t1.add (tz_of (n := 1) (z := " ") (by decide +kernel))
        refine (val_var rfl) _ ⟨w', rfl, small_log (by omega) (by omega), _, _, rfl, rfl, big_size ?_, hR _ s''⟩
        have := tt.l
        have := t2.l
        omega
    have e2 : (", " : Str).length = 2 := by decide +kernel
    have TT := Tz.join (n := 6) (m := 2) (c := ", ") (tz_of (by decide +kernel)) yt
    refine ⟨", ", D4, ys, rfl, rfl, .inl (SqL.of hD4), ?_, ?_⟩
    · have := sum_le (zs := ys) (c := 6) fun z hz => (yt z hz).l
      rw [e2]
      omega
    rw [jn_txt]
    have pt13 := pt12.same s13
    try dsimp only [gName, List.set]
    have ez : Str.join ", " ys = Str.join ", " ((shownI q.2).map partI) := by rw [ye]; rfl
    generalize Str.join ", " ys = zt at TT ez ⊢
    have TT := TT.mono (m := 48) (by omega)
    dsimp only [tDrop]
    refine (val_var rfl) _ ?_
    refine ⟨.inl ⟨rfl, _, SqL.of pt13.l⟩, ?_⟩
    have ts1 : Tz 2 ("  " : Str) := tz_of (by decide +kernel)
    have ts2 : Tz 1 (" " : Str) := tz_of (by decide +kernel)
    have ts3 : Tz 4 (" -> " : Str) := tz_of (by decide +kernel)
    have tw : Tz 1 (toString ((q.1.2 : Nat) : Int) : Str) := tz_num (by omega) (by omega)
    have T1 := ts1.add qd
    have T2 := T1.add ts2
    have T3 := T2.add tw
    have T4 := T3.add ts3
    have T5 := T4.add TT
    have vv := val_addS (val_addS (val_addS (val_addS (val_addS (val_c (v := .str "  ")) (val_var (i := 4) (σ := [some (.ref r), some (.ref L), v2, some (.ref st), some (.str q.1.1), some (.int (q.1.2 : Nat)), some (.ref o), some (.ref D3), some (.str zt), u9, u10, u11]) (H := H13) rfl) (by have := T1.l; rw [app_len'] at this; omega)) (val_c (v := .str " ")) (by have := T2.l; rw [app_len'] at this; omega)) (val_strI (val_var (i := 5) (v := .int (q.1.2 : Nat)) rfl) (small_log (by omega) (by omega))) (by have := T3.l; rw [app_len'] at this; omega)) (val_c (v := .str " -> ")) (by have := T4.l; rw [app_len'] at this; omega)) (val_var (i := 8) rfl) (by have := T5.l; rw [app_len'] at this; omega)
    refine vv _ ?_
    have er : ("  " : Str) ++ q.1.1 ++ " " ++ toString ((q.1.2 : Nat) : Int) ++ " -> " ++ zt = rowI q := by rw [ez]; rfl
    obtain ⟨zr, ezr⟩ : ∃ zr, zr = rowI q := ⟨_, rfl⟩
    rw [er, ← ezr] at T5 ⊢
    refine ⟨L, zs9.map V.str, .str zr, rfl, rfl, pt13.l, ?_, ?_⟩
    · rw [List.length_map]
      have := pt9.n
      exact Nat.lt_of_lt_of_le (show zs9.length < 2000 by omega) (by decide)
    · have P := pt13.push nL (by decide) T5
      exact ⟨_, _, _, _, _, _, _, _, _, rfl, P.mono (by omega) (by omega), by rw [ze9, List.take_add_one, eq, ezr, List.map_append, List.append_assoc]; rfl⟩
  · rintro σ H9 ⟨u4, u5, u6, u7, u8, u9, u10, u11, zs9, rfl, pt9, ze9⟩
    rw [List.length_map, tl] at pt9
    rw [List.length_map, tl, List.take_length] at ze9
    exact hd _ _ _ _ _ _ _ _ _ _ (pt9.mono (by omega) (by omega)) ze9
end
end K5
namespace K5
open PySem PySem.Spec PyProof.Rows L2
section
variable {P : Program} {w : World} {K : PySem.W.Frag} {mg : Str → Option Value} {base : Heap}
theorem ok_pact_text {f fA : Addr} {fd fdA : FuncData} (B : Bt mg) (me : mg "enumerate" = none) (D : Df K mg "_law_pact_text" s__law_pact_text f fd ["_law_pact_here"])
    (DA : Df K mg "_law_answer_word" s__law_answer_word fA fdA ["_law_answer"]) :
    FnOk P w K mg base CX0 2 f fd ["_law_pact_here"] spPText := by
  have GA : FnOk P w K mg base CX0 1 fA fdA ["_law_answer"] spAw := ok_ansW B DA
  refine D.F.ok sc__law_pact_text (fun vs H Q E h => ?_) (fun cdv A outer s H vs Q E hr h => ?_)
  · obtain ⟨r, ps, sts, rfl, _⟩ := h
    rfl
  · obtain ⟨r, ps, sts, rfl, hr0, hp, ok, l4, l0, k⟩ := h
    have S := sc__law_pact_text
    refine ⟨_, (pss_cons (ps_set (i := 1) S.nd rfl (.inl rfl) (pe_lst pa_nil))
      (pss_cons (ps_for PassesOwn.never rfl (pi_enumT (by rfl) me (pa_cons (pv 0) pa_nil)) (pg_tup (by rfl) (pgs_cons (pg_name (i := 2) S.nd rfl (.inl rfl)) (pgs_cons (pg_name (i := 3) S.nd rfl (.inl rfl)) pgs_nil)))
        (pss_cons (ps_expr (pe_bm PySem.F.plainAttrs_list PySem.F.slot_list_append PySem.F.type_list_append mt_append (pv 1) (pa_cons (pe_op op_add_str pe_str (pe_callTy call_str_int (by rfl) B.m_str (by decide +kernel) (pa_cons (pv 2) pa_nil))) pa_nil)))
        (pss_one (ps_for PassesOwn.never rfl (pi_tup (pv 3)) (pg_tup (by rfl) (pgs_cons (pg_name (i := 4) S.nd rfl (.inl rfl)) (pgs_cons (pg_name (i := 5) S.nd rfl (.inl rfl)) (pgs_cons (pg_name (i := 6) S.nd rfl (.inl rfl)) pgs_nil))))
          (pss_cons (ps_set (i := 7) S.nd rfl (.inl rfl) (pe_op op_cat
              (pe_lc (own := [("_law_one", 9)]) (g := gName 9) rfl S.nd (pi_tup (pv 6)) (blkOk_by (own := [("_law_one", 9)]) (N := nmPT) (sc := defScope s__law_pact_text) (by decide +kernel)) (fun _ _ _ _ _ => pg_name (i := 9) S.nd rfl (Or.inl rfl)) (fun _ _ _ _ _ => pts_one (pt_cmpR op_gt (pe_ix (r := rIxT K) ix_tup (pv 9) pe_int (fun _ _ => rfl)) (pe_un un_neg pe_int) (nomark _))) (fun _ _ _ _ _ => pv 9))
              (pe_lc (own := [("_law_one", 9)]) (g := gName 9) rfl S.nd (pi_tup (pe_revT (pv 6))) (blkOk_by (own := [("_law_one", 9)]) (N := nmPT) (sc := defScope s__law_pact_text) (by decide +kernel)) (fun _ _ _ _ _ => pg_name (i := 9) S.nd rfl (Or.inl rfl)) (fun _ _ _ _ _ => pts_one (pt_cmpR op_lt (pe_ix (r := rIxT K) ix_tup (pv 9) pe_int (fun _ _ => rfl)) pe_int (nomark _))) (fun _ _ _ _ _ => pv 9))))
          (pss_cons (ps_set (i := 8) S.nd rfl (.inl rfl) (pe_bm PySem.F.plainAttrs_str PySem.F.slot_str_join PySem.F.type_str_join mt_join pe_str (pa_cons
              (pe_lc (own := [("_law_answer", 10), ("_law_later", 11)]) (g := gTup K 2 (gCons (gName 10) (gCons (gName 11) gNil))) (tt := tYes) rfl S.nd (pi_list (pv 7)) (blkOk_by (own := [("_law_answer", 10), ("_law_later", 11)]) (N := nmPT) (sc := defScope s__law_pact_text) (by decide +kernel)) (fun _ _ _ _ _ => pg_tup (by rfl) (pgs_cons (pg_name (i := 10) S.nd rfl (Or.inl rfl)) (pgs_cons (pg_name (i := 11) S.nd rfl (Or.inl rfl)) pgs_nil))) (fun _ _ _ _ _ => pts_nil)
                (fun _ _ _ _ _ => pe_op op_add_str (pe_op op_add_str (pe_call GA (hr.mono (by decide)) (by rfl) DA.g DA.F.kp DA.b .nil pass0 (pa_cons (pv 10) pa_nil)) pe_str) (pe_callTy call_str_int (by rfl) B.m_str (by decide +kernel) (pa_cons (pv 11) pa_nil)))) pa_nil)))
          (pss_one (ps_expr (pe_bm PySem.F.plainAttrs_list PySem.F.slot_list_append PySem.F.type_list_append mt_append (pv 1) (pa_cons
              (pe_op op_add_str (pe_op op_add_str (pe_op op_add_str (pe_op op_add_str (pe_op op_add_str pe_str (pv 4)) pe_str) (pe_callTy call_str_int (by rfl) B.m_str (by decide +kernel) (pa_cons (pv 5) pa_nil))) pe_str) (pv 8)) pa_nil))))))))))
      (pss_one (ps_ret (pe_bm PySem.F.plainAttrs_str PySem.F.slot_str_join PySem.F.type_str_join mt_join pe_str (pa_cons (pv 1) pa_nil)))))), ?_⟩
    refine asg_seq ?_
    refine ⟨Nat.zero_le _, fun L nL => ?_⟩
    have pt0 : Pt H L (upd H L (.lst [])) [] 0 0 := ⟨same_upd nL, upd_same, fun _ h => (nomatch h), Nat.le_refl _, Nat.le_refl _⟩
    generalize (upd H L (.lst [])) = H1 at pt0 ⊢
    have pl : ps.length = sts.length := Paired.length hp
    refine (val_var rfl) _ ⟨r, _, rfl, SqT.of (pt0.s _ _ hr0), ?_⟩
    show ∃ W : Nat → Nat → L2.St → Hp → Prop, _
    refine for_enumT (K := K) (a := r) (xs := ps.map V.ref) (fun i σ H' => ∃ (u2 u3 u4 u5 u6 u7 u8 u9 u10 u11 : Option V) (zs : List Str), σ = [some (.ref r), some (.ref L), u2, u3, u4, u5, u6, u7, u8, u9, u10, u11] ∧ Pt H L H' zs (788 * i) (13 * i) ∧ zs = pageI 0 (sts.take i)) ?_ ?_ ?_ ?_
    · exact ⟨none, none, none, none, none, none, none, none, none, none, [], rfl, pt0, rfl⟩
    · rintro i σ H9 _ ⟨_, _, _, _, _, _, _, _, _, _, zs, rfl, pt9, _⟩
      exact SqT.of (pt9.s _ _ hr0)
    · rintro i x T σ H9 ex ⟨u2, u3, u4, u5, u6, u7, u8, u9, u10, u11, zs, rfl, pt9, ze⟩ nT
      obtain ⟨st, et, rfl⟩ : ∃ t, ps[i]? = some t ∧ x = .ref t := by
        rw [List.getElem?_map] at ex
        cases e : ps[i]? with
        | none => rw [e] at ex; cases ex
        | some i => rw [e] at ex; exact ⟨i, rfl, (Option.some.inj ex).symm⟩
      obtain ⟨rs, ers, hst⟩ := paired_at i hp et
      have ilt := (List.getElem?_eq_some_iff.mp ers).1
      obtain ⟨rl, rok⟩ := ok rs (List.mem_of_getElem? ers)
      have sT := same_upd (o := .tup [.int (i : Nat), .ref st]) nT
      have hT : (upd H9 T (.tup [.int (i : Nat), .ref st])) T = some (.tup [.int (i : Nat), .ref st]) := upd_same
      have pt10 := pt9.same sT
      generalize (upd H9 T (.tup [.int (i : Nat), .ref st])) = H10 at sT hT pt10 ⊢
      refine ⟨T, _, rfl, SqT.of hT, rfl, _, _, rfl, _, _, rfl, rfl, ?_⟩
      try dsimp only [gName, List.set]
      dsimp only [tSeq, tDrop]
      refine bm_run (x := .ref L) (val_var rfl) (.inl ⟨rfl, _, SqL.of pt10.l⟩) ?_
      have tn : Tz 7 (("state " : Str) ++ toString ((i : Nat) : Int)) := (tz_of (n := 6) (by decide +kernel)).add (tz_num (by omega) (by omega))
      dsimp only [tCons, tNil]
      refine val_addS (val_c (v := .str "state ")) (val_strI (val_var (i := 2) (v := .int (i : Nat)) rfl) (small_log (by omega) (by omega))) (by have := tn.l; rw [app_len'] at this; omega) _ ?_
      obtain ⟨zr, ezr⟩ : ∃ zr, zr = stateRow i := ⟨_, rfl⟩
      rw [show ("state " : Str) ++ toString ((i : Nat) : Int) = zr from ezr.symm] at tn ⊢
      have pt11 := pt10.push nL (by decide) tn
      refine ⟨L, zs.map V.str, .str zr, rfl, rfl, pt10.l, ?_, ?_⟩
      · rw [List.length_map]
        have := pt9.n
        exact Nat.lt_of_lt_of_le (show zs.length < 2000 by omega) (by decide)
      · refine prow_loop (K := K) (r := r) (L := L) (st := st) (v2 := some (.int (i : Nat))) nL hst rl rok (H8 := upd H10 L (.lst (zs.map V.str ++ [.str zr]))) pt11 (by omega) (by omega) fun u4 u5 u6 u7 u8 u9 u10 u11 H' zs' pt' ze' => ?_
        refine ⟨_, _, _, _, _, _, _, _, _, _, zs', rfl, pt'.mono (by omega) (by omega), ?_⟩
        rw [ze', ze, ezr, List.take_add_one, ers]
        show _ = pageI 0 (sts.take i ++ [rs])
        rw [pageI_snoc, List.length_take, Nat.min_eq_left (Nat.le_of_lt ilt), Nat.zero_add, List.append_assoc]
        rfl
    · rintro σ H9 ⟨u2, u3, u4, u5, u6, u7, u8, u9, u10, u11, zs, rfl, pt9, ze⟩
      rw [List.length_map, pl] at pt9
      rw [List.length_map, pl, List.take_length] at ze
      have wz := pt9.w
      have nz := pt9.n
      dsimp only [tRet]
      refine join_run (LV.v rfl pt9.l) nl1 (by omega) fun H5 s5 => ?_
      refine k H5 _ (fun b o e => s5 _ _ (pt9.s b o e)) (pg_join (by decide) (by omega) (fun z hz => (pt9.t z hz).o) (fun z hz => (pt9.t z hz).f) (by omega)) (by rw [ze])
end
end K5
namespace K5
open PySem PySem.Spec PyProof.Rows L2
/-! ### what is told, as data -/
def encI (q : Int × Int) : PyData := .tuple [.int q.1, .int q.2]
def sortI (is : List (Int × Int)) : List (Int × Int) := is.mergeSort (PySem.W.dataLe false encI)
theorem sortI_perm (is : List (Int × Int)) : (sortI is).Perm is := List.mergeSort_perm _ _
theorem sortI_asc (is : List (Int × Int)) : (sortI is).Pairwise fun a b => a.1 ≤ b.1 := by
  unfold sortI
  have e : PySem.W.dataLe false encI = fun p q : Int × Int => decide (p.1 < q.1 ∨ (p.1 = q.1 ∧ p.2 ≤ q.2)) := PySem.W.dataLe_ii (fun q : Int × Int => q.1) (fun q => q.2)
  rw [e]
  refine List.Pairwise.imp (fun {a b} h => ?_) (List.pairwise_mergeSort (le := fun p q : Int × Int => decide (p.1 < q.1 ∨ (p.1 = q.1 ∧ p.2 ≤ q.2))) (fun a b c h1 h2 => ?_) (fun a b => ?_) is)
  · have := of_decide_eq_true h
    omega
  · have h1 := of_decide_eq_true h1
    have h2 := of_decide_eq_true h2
    exact decide_eq_true (by omega)
  · rw [Bool.or_eq_true]
    by_cases h : a.1 < b.1 ∨ (a.1 = b.1 ∧ a.2 ≤ b.2)
    · exact .inl (decide_eq_true h)
    · exact .inr (decide_eq_true (by omega))
def osAt (st : StA) (k : Str × Int) : Outs := ((st.find? fun q => decide (q.1 = k)).map (·.2)).getD []
def outsD (os : Outs) : PyData := .tuple ((sortI os).map fun q => .tuple [.int q.1, .int q.2])
def rowD (st : StA) (k : Str × Int) : PyData := .tuple [.str k.1, .int k.2, outsD (osAt st k)]
def stD (st : StA) : PyData := .tuple ((sortK (st.map (·.1))).map (rowD st))
def pactD (sts : List StA) : PyData := .tuple (sts.map stD)
structure StOk (st : StA) : Prop where
  n : (st.map (·.1)).Nodup
  o : ∀ q ∈ st, (q.2.map (·.1)).Nodup
theorem osAt_mem {st : StA} (nd : (st.map (·.1)).Nodup) : ∀ {q : (Str × Int) × Outs}, q ∈ st → osAt st q.1 = q.2 := by
  induction st with
  | nil => exact fun h => nomatch h
  | cons a r ih =>
    intro q h
    rw [List.map_cons, List.nodup_cons] at nd
    unfold osAt
    rcases List.mem_cons.mp h with e | h
    · rw [e, List.find?_cons_of_pos (by simp)]
      rfl
    · have ne : a.1 ≠ q.1 := fun e => nd.1 (by rw [e]; exact List.mem_map_of_mem h)
      rw [List.find?_cons_of_neg (by simp [ne])]
      exact ih nd.2 h
theorem asc_eq : ∀ {a b : List (Int × Int)}, a.Pairwise (fun x y => x.1 < y.1) → b.Pairwise (fun x y => x.1 < y.1) → (∀ q, q ∈ a ↔ q ∈ b) → a = b
  | [], [], _, _, _ => rfl
  | [], y :: b, _, _, h => nomatch (h y).mpr (List.mem_cons_self ..)
  | x :: a, [], _, _, h => nomatch (h x).mp (List.mem_cons_self ..)
  | x :: a, y :: b, ha, hb, h => by
    rw [List.pairwise_cons] at ha hb
    have exy : x = y := by
      rcases List.mem_cons.mp ((h x).mp (List.mem_cons_self ..)) with e | hx
      · exact e
      · rcases List.mem_cons.mp ((h y).mpr (List.mem_cons_self ..)) with e | hy
        · exact e.symm
        · have h1 := hb.1 x hx
          have h2 := ha.1 y hy
          omega
    subst exy
    rw [asc_eq ha.2 hb.2 fun q => ⟨fun hq => ?_, fun hq => ?_⟩]
    · rcases List.mem_cons.mp ((h q).mp (List.mem_cons_of_mem _ hq)) with e | hq'
      · have := ha.1 q hq
        rw [e] at this
        omega
      · exact hq'
    · rcases List.mem_cons.mp ((h q).mpr (List.mem_cons_of_mem _ hq)) with e | hq'
      · have := hb.1 q hq
        rw [e] at this
        omega
      · exact hq'
theorem strict_of {l : List (Int × Int)} (h : l.Pairwise fun a b => a.1 ≤ b.1) (nd : (l.map (·.1)).Nodup) : l.Pairwise fun a b => a.1 < b.1 := by
  unfold List.Nodup at nd
  rw [List.pairwise_map] at nd
  exact List.Pairwise.imp₂ (fun {a b} h1 h2 => by omega) h nd
theorem sortI_strict {os : Outs} (nd : (os.map (·.1)).Nodup) : (sortI os).Pairwise fun a b => a.1 < b.1 :=
  strict_of (sortI_asc os) ((((sortI_perm os).map (·.1)).nodup_iff).mpr nd)
theorem nodup_inj {α : Type} : ∀ {l : List (Int × α)} {a b : Int × α}, (l.map (·.1)).Nodup → a ∈ l → b ∈ l → a.1 = b.1 → a = b
  | x :: l, a, b, nd, ha, hb, e => by
    rw [List.map_cons, List.nodup_cons] at nd
    rcases List.mem_cons.mp ha with ha | ha
    · rcases List.mem_cons.mp hb with hb | hb
      · rw [ha, hb]
      · exact absurd (by rw [← ha, e]; exact List.mem_map_of_mem hb) nd.1
    · rcases List.mem_cons.mp hb with hb | hb
      · exact absurd (by rw [← hb, ← e]; exact List.mem_map_of_mem ha) nd.1
      · exact nodup_inj nd.2 ha hb e
theorem bs_sorted {ks : List Int} {bs : List (Int × Int)} {os : Outs} (e : bs.map (·.1) = ks) (perm : ks.Perm (os.map (·.1))) (asc : ks.Pairwise (· ≤ ·)) (mem : ∀ q ∈ bs, q ∈ os) (nd : (os.map (·.1)).Nodup) : bs = sortI os := by
  subst e
  have ndb : (bs.map (·.1)).Nodup := perm.nodup_iff.mpr nd
  refine asc_eq (strict_of (by rw [List.pairwise_map] at asc; exact asc) ndb) (sortI_strict nd) fun q => ⟨fun hq => (sortI_perm os).mem_iff.mpr (mem q hq), fun hq => ?_⟩
  have hq := (sortI_perm os).mem_iff.mp hq
  have hk : q.1 ∈ bs.map (·.1) := perm.mem_iff.mpr (List.mem_map_of_mem hq)
  obtain ⟨q', hq', e⟩ := List.mem_map.mp hk
  have : q' = q := by
    have hm := mem q' hq'
    exact nodup_inj nd hm hq e
  exact this ▸ hq'
theorem dq_pairs {H : Hp} : ∀ {ts : List Addr} {bs : List (Int × Int)}, Paired (fun (t : Addr) (q : Int × Int) => H t = some (.tup [.int q.1, .int q.2])) ts bs → DqA H (ts.map V.ref) (bs.map fun q => .tuple [.int q.1, .int q.2])
  | _, _, .nil => .nil
  | _, _, .cons h r => .cons (.tup h (.cons (.int _) (.cons (.int _) .nil))) (dq_pairs r)
theorem OutsAt.dq {H : Hp} {p : Addr} {os : Outs} (h : OutsAt H p os) (nd : (os.map (·.1)).Nodup) : Dq H (.ref p) (outsD os) := by
  obtain ⟨ks, ts, bs, h1, h2, h3, h4, h5, h6⟩ := h
  rw [bs_sorted h2 h3 h4 h5 nd] at h6
  exact .tup h1 (dq_pairs h6)
theorem dq_rows {H : Hp} {st : StA} (ok : StOk st) : ∀ {ts : List Addr} {bs : List ((Str × Int) × Addr)}, (∀ b ∈ bs, ∃ os, (b.1, os) ∈ st ∧ OutsAt H b.2 os) → Paired (fun (t : Addr) (b : (Str × Int) × Addr) => H t = some (.tup [.str b.1.1, .int b.1.2, .ref b.2])) ts bs → DqA H (ts.map V.ref) (bs.map fun b => rowD st b.1)
  | _, _, _, .nil => .nil
  | _, b :: bs, hm, .cons h r => by
    obtain ⟨os, m1, m2⟩ := hm b (List.mem_cons_self ..)
    have e : osAt st b.1 = os := osAt_mem ok.n m1
    refine .cons (.tup h (.cons (.str _) (.cons (.int _) (.cons ?_ .nil)))) (dq_rows ok (fun c hc => hm c (List.mem_cons_of_mem _ hc)) r)
    rw [e]
    exact m2.dq (ok.o _ m1)
theorem StAt.dq {H : Hp} {p : Addr} {st : StA} (h : StAt H p st) (ok : StOk st) : Dq H (.ref p) (stD st) := by
  obtain ⟨ts, bs, h1, h2, h3, h4⟩ := h
  have := dq_rows ok h3 h4
  unfold stD
  rw [← h2, List.map_map]
  exact .tup h1 this
theorem dq_sts {H : Hp} : ∀ {ts : List Addr} {sts : List StA}, Paired (StAt H) ts sts → (∀ st ∈ sts, StOk st) → DqA H (ts.map V.ref) (sts.map stD)
  | _, _, .nil, _ => .nil
  | _, _, .cons h r, ok => .cons (h.dq (ok _ (List.mem_cons_self ..))) (dq_sts r fun s hs => ok s (List.mem_cons_of_mem _ hs))
theorem PactAt.dq {H : Hp} {p : Addr} {sts : List StA} (h : PactAt H p sts) (ok : ∀ st ∈ sts, StOk st) : Dq H (.ref p) (pactD sts) := by
  obtain ⟨ts, h1, h2⟩ := h
  exact .tup h1 (dq_sts h2 ok)

theorem asc_uniq {α : Type} {lt le : α → α → Prop} (hle : ∀ a b, le a b → ¬ lt b a) : ∀ {l M : List α}, l.Pairwise lt → M.Pairwise le → M.Perm l → M = l
  | [], M, _, _, p => List.perm_nil.mp p
  | x :: l, [], _, _, p => absurd p.length_eq (by simp)
  | x :: l, y :: M, h1, h2, p => by
    rw [List.pairwise_cons] at h1 h2
    have e : y = x := by
      rcases List.mem_cons.mp (p.mem_iff.mp (List.mem_cons_self ..)) with e | hy
      · exact e
      · rcases List.mem_cons.mp (p.mem_iff.mpr (List.mem_cons_self ..)) with e | hx
        · exact e.symm
        · exact absurd (h1.1 y hy) (hle _ _ (h2.1 x hx))
    subst e
    rw [asc_uniq hle h1.2 h2.2 (List.Perm.cons_inv p)]
def KLt (a b : Str × Int) : Prop := SLt a.1 b.1 ∨ (a.1 = b.1 ∧ a.2 < b.2)
theorem SLt.ne {a b : Str} (h : SLt a b) : a ≠ b := fun e => by
  rw [e] at h
  exact List.lt_irrefl _ h
theorem klt_data {a b : Str × Int} (h : KLt a b) : PySem.W.dataLt (encK a) (encK b) = true := by
  unfold encK
  rw [PySem.W.dataLt_pair (by simp [PySem.W.alike]) (by simp [PySem.W.alike]), PySem.W.dataLt_int, PySem.W.dataLt_str]
  simp only [PyData.eqv, beq_iff_eq]
  rcases h with h | ⟨h1, h2⟩
  · rw [if_neg h.ne]
    exact decide_eq_true h
  · rw [if_pos h1, if_neg (by omega)]
    exact decide_eq_true h2
theorem sortK_of {ks l : List (Str × Int)} (p : ks.Perm l) (asc : l.Pairwise KLt) : sortK ks = l := by
  unfold sortK
  have T := PySem.W.sortLe_total (PyProof.Rows.listOrd PyProof.Rows.itemOrd) false (fun b : Str × Int => PySem.W.keyToks (encK b))
  refine asc_uniq (lt := KLt) (le := fun a b => PySem.W.dataLe false encK a b = true) (fun a b h c => ?_) asc (List.pairwise_mergeSort (fun a b c => T.trans a b c) (fun a b => ?_) ks) ((List.mergeSort_perm _ _).trans p)
  · have h1 : (!PySem.W.dataLt (encK b) (encK a)) = true := h
    rw [klt_data c] at h1
    cases h1
  · rcases T.total a b with h | h
    · exact Bool.or_eq_true_iff.mpr (.inl h)
    · exact Bool.or_eq_true_iff.mpr (.inr h)
theorem sortI_of {os l : List (Int × Int)} (p : os.Perm l) (asc : (l.map (·.1)).Pairwise (· < ·)) : sortI os = l :=
  asc_uniq (lt := fun a b => a.1 < b.1) (le := fun a b => a.1 ≤ b.1) (fun a b h => by omega) (List.pairwise_map.mp asc) (sortI_asc os) ((sortI_perm os).trans p)
def pairD (o : Int × Int) : PyData := .tuple [.int o.1, .int o.2]
def rwD (r : RwD) : PyData := .tuple [.str r.1.1, .int r.1.2, .tuple (r.2.map pairD)]
def keyR (r : RwD) : Str × Int := (r.1.1, (r.1.2 : Int))
def datD (sts : List (List RwD)) : PyData := .tuple (sts.map fun rs => .tuple (rs.map rwD))
/-- what was read of a state: its rows, in some sequence -/
structure Canon (acc : StA) (rs : List RwD) : Prop where
  p : (acc.map (·.1)).Perm (rs.map keyR)
  m : ∀ q ∈ acc, ∃ r ∈ rs, q.1 = keyR r ∧ q.2.Perm r.2
theorem keys_asc {m w : Nat} {rs : List RwD} (h : StX m w rs) : (rs.map keyR).Pairwise KLt := by
  refine List.pairwise_map.mpr ((List.pairwise_map.mp h.1).imp fun {a b} h => ?_)
  rcases h with h | ⟨h1, h2⟩
  · exact .inl h
  · exact .inr ⟨h1, Int.ofNat_lt.mpr h2⟩
theorem klt_ne {a b : Str × Int} (h : KLt a b) : a ≠ b := fun e => by
  rw [e] at h
  rcases h with h | ⟨_, h⟩
  · exact h.ne rfl
  · omega
theorem keys_nodup {m w : Nat} {rs : List RwD} (h : StX m w rs) : (rs.map keyR).Nodup := (keys_asc h).imp klt_ne
theorem keyR_inj {m w : Nat} {rs : List RwD} (h : StX m w rs) {a b : RwD} (ha : a ∈ rs) (hb : b ∈ rs) (e : keyR a = keyR b) : a = b := by
  have nd := keys_nodup h
  clear h
  induction rs with
  | nil => cases ha
  | cons x r ih =>
    rw [List.map_cons, List.nodup_cons] at nd
    rcases List.mem_cons.mp ha with c | c
    · rcases List.mem_cons.mp hb with d | d
      · rw [c, d]
      · exact absurd (by rw [← c, e]; exact List.mem_map_of_mem d) nd.1
    · rcases List.mem_cons.mp hb with d | d
      · exact absurd (by rw [← d, ← e]; exact List.mem_map_of_mem c) nd.1
      · exact ih c d nd.2
theorem canon_dat {m w : Nat} {acc : StA} {rs : List RwD} (h : StX m w rs) (c : Canon acc rs) : stD acc = .tuple (rs.map rwD) := by
  unfold stD
  rw [sortK_of c.p (keys_asc h), List.map_map]
  congr 1
  refine List.map_congr_left fun r hr => ?_
  show rowD acc (keyR r) = rwD r
  have nd : (acc.map (·.1)).Nodup := c.p.nodup_iff.mpr (keys_nodup h)
  obtain ⟨q, hq, e⟩ := List.mem_map.mp (c.p.mem_iff.mpr (List.mem_map_of_mem (f := keyR) hr))
  obtain ⟨r', hr', e1, e2⟩ := c.m q hq
  have er : r' = r := keyR_inj h hr' hr (e1.symm.trans e)
  subst er
  unfold rowD
  rw [← e, osAt_mem nd hq]
  unfold outsD
  rw [sortI_of e2 (h.2 r' hr').2.2.1, e]
  rfl
theorem canon_ok {m w : Nat} {acc : StA} {rs : List RwD} (h : StX m w rs) (c : Canon acc rs) : StOk acc := by
  refine ⟨c.p.nodup_iff.mpr (keys_nodup h), fun q hq => ?_⟩
  obtain ⟨r, hr, _, e⟩ := c.m q hq
  have nd : (r.2.map (·.1)).Nodup := (h.2 r hr).2.2.1.imp fun {a b} h => Int.ne_of_lt h
  exact (e.map (·.1)).nodup_iff.mpr nd
theorem canon_pact {m w : Nat} : ∀ {accs : List StA} {sts : List (List RwD)}, Paired Canon accs sts → (∀ s ∈ sts, StX m w s) → pactD accs = datD sts ∧ ∀ a ∈ accs, StOk a
  | _, _, .nil, _ => ⟨rfl, fun _ h => nomatch h⟩
  | _, _, .cons (a := acc) (l₁ := accs) (b := rs) (l₂ := sts) h r, hx => by
    obtain ⟨i1, i2⟩ := canon_pact r fun s hs => hx s (List.mem_cons_of_mem _ hs)
    have hr := hx rs (List.mem_cons_self ..)
    refine ⟨?_, fun a ha => ?_⟩
    · have i1 : PyData.tuple (accs.map stD) = .tuple (sts.map fun rs => .tuple (rs.map rwD)) := i1
      injection i1 with i1
      show PyData.tuple (stD acc :: accs.map stD) = .tuple (.tuple (rs.map rwD) :: sts.map fun rs => .tuple (rs.map rwD))
      rw [canon_dat hr h, i1]
    · rcases List.mem_cons.mp ha with e | ha
      · rw [e]
        exact canon_ok hr h
      · exact i2 a ha
end K5
namespace K5
open PySem PySem.Spec PyProof.Rows L2
/-! ### a row with its parts in any sequence is read -/
theorem spl_part : ∀ (w acc R : List Nat), 44 ∉ w → TL.spl sepC 0 acc (w ++ 44 :: 32 :: R) = (acc ++ w) :: TL.spl sepC 0 [] R
  | [], acc, R, _ => by
    show TL.spl sepC 0 acc (44 :: 32 :: R) = _
    rw [TL.spl_hit (by rw [pre_sep]; rfl), List.append_nil]
    rfl
  | c :: w, acc, R, h => by
    have hc : c ≠ 44 := fun e => h (by rw [e]; exact List.mem_cons_self ..)
    show TL.spl sepC 0 acc (c :: (w ++ 44 :: 32 :: R)) = _
    rw [TL.spl_miss (TL.pre_of_head _ _ hc), spl_part w (acc ++ [c]) R (fun e => h (List.mem_cons_of_mem _ e)), List.append_assoc]
    rfl
theorem spl_last : ∀ (w acc : List Nat), 44 ∉ w → TL.spl sepC 0 acc w = [acc ++ w]
  | [], acc, _ => by rw [List.append_nil]; rfl
  | c :: w, acc, h => by
    have hc : c ≠ 44 := fun e => h (by rw [e]; exact List.mem_cons_self ..)
    rw [TL.spl_miss (TL.pre_of_head _ _ hc), spl_last w (acc ++ [c]) (fun e => h (List.mem_cons_of_mem _ e)), List.append_assoc]
    rfl
theorem comma_list : (", " : Str).cps.toList = [44, 32] := by decide +kernel
theorem spl_join : ∀ ps : List Str, ps ≠ [] → (∀ p ∈ ps, 44 ∉ p.cps.toList) → TL.spl sepC 0 [] (Str.join ", " ps).cps.toList = ps.map fun p => p.cps.toList
  | [x], _, h => spl_last _ [] (h x (List.mem_cons_self ..))
  | x :: y :: r, _, h => by
    rw [join2, cps_append, cps_append, comma_list]
    show TL.spl sepC 0 [] (x.cps.toList ++ 44 :: 32 :: (Str.join ", " (y :: r)).cps.toList) = _
    rw [spl_part _ [] _ (h x (List.mem_cons_self ..)), spl_join (y :: r) (by simp) fun p hp => h p (List.mem_cons_of_mem _ hp)]
    rfl
theorem split_cs {ps : List Str} (ne : ps ≠ []) (h : ∀ p ∈ ps, 44 ∉ p.cps.toList) : Txt.split (Str.join ", " ps) ", " = ps := by
  have e : (Txt.split (Str.join ", " ps) ", ").map TL.tl = TL.spl (TL.tl (", " : Str)) 0 [] (TL.tl (Str.join ", " ps)) := TL.split_spl _ _ (by decide +kernel) (TL.kind_ok (by decide +kernel))
  have e2 : TL.tl (", " : Str) = sepC := by decide +kernel
  rw [e2] at e
  have e3 : TL.tl (Str.join ", " ps) = (Str.join ", " ps).cps.toList := rfl
  rw [e3, spl_join ps ne h] at e
  have inj : ∀ {a b : List Str}, a.map TL.tl = b.map (fun p => p.cps.toList) → a = b := fun {a} => by
    induction a with
    | nil => intro b hb; cases b with
      | nil => rfl
      | cons => cases hb
    | cons x a ih => intro b hb; cases b with
      | nil => cases hb
      | cons y b =>
        rw [List.map_cons, List.map_cons] at hb
        injection hb with h1 h2
        rw [ih h2, str_list (x := x) (y := y) h1]
  exact inj e
def wpart (p : Str × Str) : Str := p.1 ++ " " ++ p.2
def tws : List (Str × Str) → List Str
  | [] => []
  | [p] => [p.1, p.2]
  | p :: q :: r => p.1 :: (p.2 ++ ",") :: tws (q :: r)
theorem tws_cons (q : Str × Str) (r : List (Str × Str)) : ∃ c d t, tws (q :: r) = c :: d :: t := by
  cases r with
  | nil => exact ⟨_, _, _, rfl⟩
  | cons => exact ⟨_, _, _, rfl⟩
theorem space_list : (" " : Str).cps.toList = [32] := by decide +kernel
theorem com_list : ("," : Str).cps.toList = [44] := by decide +kernel
theorem tws_join : ∀ ps : List (Str × Str), ps ≠ [] → Str.join " " (tws ps) = Str.join ", " (ps.map wpart)
  | [p], _ => rfl
  | p :: q :: r, _ => by
    have ih := tws_join (q :: r) (by simp)
    obtain ⟨c, d, t, e⟩ := tws_cons q r
    have e1 : tws (p :: q :: r) = p.1 :: (p.2 ++ ",") :: tws (q :: r) := rfl
    rw [e1, join2]
    rw [e] at ih ⊢
    rw [join2, ih]
    show _ = Str.join ", " (wpart p :: wpart q :: r.map wpart)
    rw [join2]
    refine str_list ?_
    unfold wpart
    simp only [cps_append, comma_list, space_list, com_list, List.append_assoc]
    rfl
theorem tws_all {P : Str → Prop} (hc : ∀ z, P z → P (z ++ ",")) : ∀ ps : List (Str × Str), (∀ p ∈ ps, P p.1 ∧ P p.2) → ∀ w ∈ tws ps, P w
  | [], _, _, h => nomatch h
  | [p], hp, w, h => by
    have h : w ∈ [p.1, p.2] := h
    have := hp p (List.mem_cons_self ..)
    rcases List.mem_cons.mp h with e | h
    · rw [e]; exact this.1
    · rw [List.mem_singleton.mp h]; exact this.2
  | p :: q :: r, hp, w, h => by
    have h : w ∈ p.1 :: (p.2 ++ ",") :: tws (q :: r) := h
    have := hp p (List.mem_cons_self ..)
    rcases List.mem_cons.mp h with e | h
    · rw [e]; exact this.1
    · rcases List.mem_cons.mp h with e | h
      · rw [e]; exact hc _ this.2
      · exact tws_all hc (q :: r) (fun x hx => hp x (List.mem_cons_of_mem _ hx)) w h
/-- a word: not empty, no blank, no comma, no line feed -/
structure Wd (z : Str) : Prop where
  n : z.cps.toList ≠ []
  b : 32 ∉ z.cps.toList
  c : 44 ∉ z.cps.toList
  f : 10 ∉ z.cps.toList
theorem row_wordsW {ws : List Str} (ne : ws ≠ []) (fr : ∀ w ∈ ws, w.cps.toList ≠ [] ∧ 32 ∉ w.cps.toList) : rowWords ("  " ++ Str.join " " ws) 1 = ws := by
  have es : Txt.split (Str.join " " ws) " " = ws := by
    rw [space']
    exact split_join ne fun p hp => (fr p hp).2
  have hc : ∃ c t, (Str.join " " ws).cps.toList = c :: t ∧ c ≠ 32 := by
    cases ws with
    | nil => exact absurd rfl ne
    | cons x r =>
      obtain ⟨h1, h2⟩ := fr x (List.mem_cons_self ..)
      cases q : x.cps.toList with
      | nil => exact absurd q h1
      | cons c t =>
        have hc : c ≠ 32 := fun e => h2 (by rw [q, e]; exact List.mem_cons_self ..)
        cases r with
        | nil => exact ⟨c, t, q, hc⟩
        | cons y r =>
          refine ⟨c, t ++ (" " ++ Str.join " " (y :: r)).cps.toList, ?_, hc⟩
          rw [join2, cps_append, q]
          rfl
  obtain ⟨c, t, ec, hc⟩ := hc
  generalize Str.join " " ws = J at es ec
  have e2 : ("  " : Str).cps.toList = [32, 32] := by decide +kernel
  have cs : ("  " ++ J : Str).cps.toList = 32 :: 32 :: J.cps.toList := by
    rw [cps_append, e2]
    rfl
  have l2 : lead ("  " ++ J) = 2 := by
    unfold lead
    rw [cs, ec]
    simp [List.takeWhile_cons, hc]
  have er : lRest ("  " ++ J) = J := str_list (by rw [rest_list, l2, cs]; rfl)
  have ln : ("  " ++ J : Str).length = 2 + J.length := by
    rw [len_toList', cs, len_toList']
    simp
    omega
  rw [words_law _ (by decide)]
  unfold lWords
  rw [er, es, if_neg]
  · rfl
  · rintro (h | h)
    · omega
    · exact (fr _ h).1 rfl
end K5
namespace K5
open PySem PySem.Spec PyProof.Rows L2
/-! ### a page with its rows and outcomes in any sequence is read -/
theorem putAll_spec : ∀ (as : List Int) (b : Int) (acc : List (Int × Int)), as.Nodup → putAll as b acc = if ∃ a ∈ as, a ∈ acc.map (·.1) then none else some (acc ++ as.map fun a => (a, b))
  | [], b, acc, _ => by
    rw [if_neg (by rintro ⟨a, h, _⟩; cases h), List.map_nil, List.append_nil]
    rfl
  | a :: as, b, acc, nd => by
    rw [List.nodup_cons] at nd
    show (if a ∈ acc.map (·.1) then none else putAll as b (acc ++ [(a, b)])) = _
    by_cases h : a ∈ acc.map (·.1)
    · rw [if_pos h, if_pos ⟨a, List.mem_cons_self .., h⟩]
    · rw [if_neg h, putAll_spec as b _ nd.2]
      have e : (∃ x ∈ as, x ∈ (acc ++ [(a, b)]).map (·.1)) ↔ ∃ x ∈ a :: as, x ∈ acc.map (·.1) := by
        constructor
        · rintro ⟨x, hx, hm⟩
          rw [List.map_append] at hm
          rcases List.mem_append.mp hm with hm | hm
          · exact ⟨x, List.mem_cons_of_mem _ hx, hm⟩
          · have e2 : x = a := List.mem_singleton.mp hm
            rw [e2] at hx
            exact absurd hx nd.1
        · rintro ⟨x, hx, hm⟩
          rcases List.mem_cons.mp hx with hx | hx
          · rw [hx] at hm
            exact absurd hm h
          · exact ⟨x, hx, by rw [List.map_append]; exact List.mem_append_left _ hm⟩
      by_cases h2 : ∃ x ∈ a :: as, x ∈ acc.map (·.1)
      · rw [if_pos h2, if_pos (e.mpr h2)]
      · rw [if_neg h2, if_neg (fun c => h2 (e.mp c)), List.append_assoc]
        rfl
theorem great_digits : ∀ k : Fin 401, (32 ∉ (toString ((k.val : Nat) : Int) : Str).cps.toList ∧ 10 ∉ (toString ((k.val : Nat) : Int) : Str).cps.toList) ∧ (toString ((k.val : Nat) : Int) : Str).length ≤ 3 ∧ PyData.strOk (toString ((k.val : Nat) : Int) : Str) = true ∧ (toString ((k.val : Nat) : Int) : Str) ≠ "" := by decide +kernel
theorem state_join (d : Str) : ("state " : Str) ++ d = Str.join " " ["state", d] := by
  have e : ("state " : Str) = "state" ++ " " := by decide +kernel
  rw [e]
  exact str_list (by simp [Str.join, cps_append, List.append_assoc])
theorem great_words (k : Fin 401) : rowWords (stateRow k.val) 0 = (["state", toString ((k.val : Nat) : Int)] : List Str) ∧ rowWords (stateRow k.val) 1 = [] ∧ (stateRow k.val).length ≤ 9 ∧ PyData.strOk (stateRow k.val) = true ∧ 10 ∉ (stateRow k.val).cps.toList := by
  obtain ⟨⟨n32, n10⟩, l3, ok, ne⟩ := great_digits k
  unfold stateRow
  generalize (toString ((k.val : Nat) : Int) : Str) = d at n32 n10 l3 ok ne
  have cs : (("state " : Str) ++ d).cps.toList = 115 :: 116 :: 97 :: 116 :: 101 :: 32 :: d.cps.toList := by
    rw [cps_append]
    rfl
  have l0 : lead ("state " ++ d) = 0 := by
    unfold lead
    rw [cs]
    rfl
  have er : lRest ("state " ++ d) = "state " ++ d := str_list (by rw [rest_list, l0]; rfl)
  have es : Txt.split (("state " : Str) ++ d) " " = (["state", d] : List Str) := by
    rw [state_join]
    have e : (" " : Str) = ⟨#[32]⟩ := by decide +kernel
    rw [e]
    refine split_join (by intro h; cases h) fun p hp => ?_
    rcases List.mem_cons.mp hp with h | h
    · rw [h]
      decide +kernel
    · rw [List.mem_singleton.mp h]
      exact n32
  have len : (("state " : Str) ++ d).length = 6 + d.length := by
    rw [len_toList', cs, len_toList']
    simp
    omega
  refine ⟨?_, ?_, by omega, ok_add (by decide +kernel) ok, ?_⟩
  · rw [words_law _ (by decide)]
    unfold lWords
    rw [er, es, if_neg]
    · rfl
    · rintro (h | h)
      · omega
      · rcases List.mem_cons.mp h with h | h
        · exact absurd h (by decide +kernel)
        · exact ne (List.mem_singleton.mp h).symm
  · rw [words_law _ (by decide)]
    unfold lWords
    rw [er, if_pos (.inl (by omega))]
    rfl
  · rw [cs]
    intro h
    simp at h
    exact n10 (Array.mem_toList_iff.mpr h)
theorem wpart_split {p : Str × Str} (h1 : Wd p.1) (h2 : Wd p.2) : Txt.split (wpart p) " " = [p.1, p.2] := by
  have e : wpart p = Str.join " " [p.1, p.2] := rfl
  rw [e, space']
  refine split_join (by simp) fun q hq => ?_
  rcases List.mem_cons.mp hq with e | hq
  · rw [e]; exact h1.b
  · rw [List.mem_singleton.mp hq]; exact h2.b
theorem wpart_free {p : Str × Str} (h1 : Wd p.1) (h2 : Wd p.2) : 44 ∉ (wpart p).cps.toList := by
  unfold wpart
  rw [cps_append, cps_append, space_list]
  intro h
  rcases List.mem_append.mp h with h | h
  · rcases List.mem_append.mp h with h | h
    · exact h1.c h
    · exact absurd (List.mem_singleton.mp h) (by decide)
  · exact h2.c h
def osW (m n : Nat) (ps : List (Str × Str)) : List (Int × Int) := ps.flatMap fun p => (asOf p.1 m).map fun a => (a, numOf p.2 n)
def PsOk (m n : Nat) (p : Str × Str) : Prop := Wd p.1 ∧ Wd p.2 ∧ asOf p.1 m ≠ [] ∧ 0 ≤ numOf p.2 n
theorem outs_wild {m n : Nat} : ∀ (ps : List (Str × Str)) (acc : List (Int × Int)), (∀ p ∈ ps, PsOk m n p) → ((acc ++ osW m n ps).map (·.1)).Nodup → outsOf m n (ps.map wpart) acc = some (acc ++ osW m n ps)
  | [], acc, _, _ => by
    show some acc = some (acc ++ [])
    rw [List.append_nil]
  | p :: r, acc, h, nd => by
    obtain ⟨w1, w2, a, b⟩ := h p (List.mem_cons_self ..)
    show (outRow m n (Txt.split (wpart p) " ") acc).bind (outsOf m n (r.map wpart)) = _
    rw [wpart_split w1 w2]
    have e : outRow m n [p.1, p.2] acc = putAll (asOf p.1 m) (numOf p.2 n) acc := if_pos ⟨a, b⟩
    have eo : osW m n (p :: r) = ((asOf p.1 m).map fun a => (a, numOf p.2 n)) ++ osW m n r := List.flatMap_cons
    rw [eo, ← List.append_assoc] at nd
    have nd1 : ((acc ++ (asOf p.1 m).map fun a => (a, numOf p.2 n)).map (·.1)).Nodup := by
      rw [List.map_append] at nd
      exact (List.nodup_append.mp nd).1
    have em : (((asOf p.1 m).map fun a => (a, numOf p.2 n)).map (·.1)) = asOf p.1 m := by
      rw [List.map_map]
      exact List.map_id _
    rw [List.map_append, em] at nd1
    obtain ⟨_, na, disj⟩ := List.nodup_append.mp nd1
    rw [e, putAll_spec _ _ _ na, if_neg (by
      rintro ⟨x, hx, hm⟩
      exact disj x hm x hx rfl)]
    show outsOf m n (r.map wpart) (acc ++ (asOf p.1 m).map fun a => (a, numOf p.2 n)) = _
    rw [outs_wild r _ (fun q hq => h q (List.mem_cons_of_mem _ hq)) nd, eo, List.append_assoc]
structure WRow where
  d : Str
  w : Str
  ps : List (Str × Str)
def wtold (r : WRow) : Str := Str.join ", " (r.ps.map wpart)
def wrowT (r : WRow) : Str := "  " ++ r.d ++ " " ++ r.w ++ " -> " ++ wtold r
def wAcc (m n : Nat) (r : WRow) : StA := (wOf r.w m).map fun x => ((r.d, x), osW m n r.ps)
structure WOk (m n : Nat) (r : WRow) : Prop where
  d : Wd r.d
  dd : isDoor r.d = true
  w : Wd r.w
  ws : wOf r.w m ≠ []
  ne : r.ps ≠ []
  p : ∀ p ∈ r.ps, PsOk m n p
  o : ((osW m n r.ps).map (·.1)).Nodup
theorem tws_ne {ps : List (Str × Str)} (ne : ps ≠ []) : ∃ c d t, tws ps = c :: d :: t := by
  cases ps with
  | nil => exact absurd rfl ne
  | cons q r => exact tws_cons q r
theorem wrow_eq {r : WRow} (ne : r.ps ≠ []) : wrowT r = "  " ++ Str.join " " (r.d :: r.w :: "->" :: tws r.ps) := by
  obtain ⟨c, d, t, e⟩ := tws_ne ne
  have j := tws_join r.ps ne
  rw [e] at j ⊢
  rw [join2, join2, join2, j]
  have e1 : (" -> " : Str) = " " ++ ("->" ++ " ") := by decide +kernel
  unfold wrowT wtold
  rw [e1]
  refine str_list ?_
  simp only [cps_append, List.append_assoc]
theorem wrow_words {m n : Nat} {r : WRow} (h : WOk m n r) : rowWords (wrowT r) 1 = r.d :: r.w :: "->" :: tws r.ps := by
  rw [wrow_eq h.ne]
  refine row_wordsW (by simp) fun w hw => ?_
  have all := tws_all (P := fun z => z.cps.toList ≠ [] ∧ 32 ∉ z.cps.toList) (fun z hz => by
    rw [cps_append, com_list]
    refine ⟨by simp, fun c => ?_⟩
    rcases List.mem_append.mp c with c | c
    · exact hz.2 c
    · exact absurd (List.mem_singleton.mp c) (by decide)) r.ps fun p hp => ⟨⟨(h.p p hp).1.n, (h.p p hp).1.b⟩, (h.p p hp).2.1.n, (h.p p hp).2.1.b⟩
  rcases List.mem_cons.mp hw with e | hw
  · rw [e]; exact ⟨h.d.n, h.d.b⟩
  · rcases List.mem_cons.mp hw with e | hw
    · rw [e]; exact ⟨h.w.n, h.w.b⟩
    · rcases List.mem_cons.mp hw with e | hw
      · rw [e]; decide +kernel
      · exact all w hw
theorem wrow_st {m n : Nat} {r : WRow} {acc : StA} (h : WOk m n r) (nd : ∀ x ∈ wOf r.w m, (r.d, x) ∉ acc.map (·.1)) : rowSt m n (r.d :: r.w :: "->" :: tws r.ps) acc = some (acc ++ wAcc m n r) := by
  obtain ⟨c, d, t, e⟩ := tws_ne h.ne
  have sp : Txt.split (Txt.join " " (c :: d :: t)) ", " = r.ps.map wpart := by
    rw [jn_txt, ← e, tws_join _ h.ne]
    refine split_cs (by simpa using h.ne) fun p hp => ?_
    obtain ⟨q, hq, rfl⟩ := List.mem_map.mp hp
    exact wpart_free (h.p q hq).1 (h.p q hq).2.1
  rw [e]
  show (if ("->" : Str) = "->" ∧ isDoor r.d = true ∧ wOf r.w m ≠ [] ∧ ∀ x ∈ wOf r.w m, (r.d, x) ∉ acc.map (·.1) then (outsOf m n (Txt.split (Txt.join " " (c :: d :: t)) ", ") []).map (fun os => acc ++ (wOf r.w m).map fun w => ((r.d, w), os)) else none) = _
  rw [if_pos ⟨rfl, h.dd, h.ws, nd⟩, sp, outs_wild r.ps [] h.p (by rw [List.nil_append]; exact h.o)]
  rfl
theorem wAcc_keys (m n : Nat) (r : WRow) : (wAcc m n r).map (·.1) = (wOf r.w m).map fun x => (r.d, x) := by
  unfold wAcc
  rw [List.map_map]
  rfl
theorem stR_wild {m n : Nat} : ∀ (rs : List WRow) (rest : List Str) (at_ : Nat) (acc : StA), (∀ r ∈ rs, WOk m n r) → ((acc ++ rs.flatMap (wAcc m n)).map (·.1)).Nodup → (∀ z t, rest = z :: t → rowWords z 1 = []) → stR m n (rs.map wrowT ++ rest) at_ acc = .ok (at_ + rs.length, acc ++ rs.flatMap (wAcc m n))
  | [], rest, at_, acc, _, _, hr => by
    show stR m n rest at_ acc = .ok (at_, acc ++ [])
    rw [List.append_nil]
    cases rest with
    | nil => rfl
    | cons z t =>
      show (if rowWords z 1 = [] then (Except.ok (at_, acc) : Except Nat (Nat × StA)) else _) = _
      rw [if_pos (hr z t rfl)]
  | r :: rs, rest, at_, acc, h, nd, hr => by
    have hr0 := h r (List.mem_cons_self ..)
    have ef : (r :: rs).flatMap (wAcc m n) = wAcc m n r ++ rs.flatMap (wAcc m n) := List.flatMap_cons
    rw [ef, ← List.append_assoc] at nd ⊢
    have nd1 : ((acc ++ wAcc m n r).map (·.1)).Nodup := by
      rw [List.map_append] at nd
      exact (List.nodup_append.mp nd).1
    rw [List.map_append, wAcc_keys] at nd1
    have disj := (List.nodup_append.mp nd1).2.2
    have hs := wrow_st (acc := acc) hr0 fun x hx c => disj _ c _ (List.mem_map_of_mem hx) rfl
    show (if rowWords (wrowT r) 1 = [] then (Except.ok (at_, acc) : Except Nat (Nat × StA)) else match rowSt m n (rowWords (wrowT r) 1) acc with
      | none => .error at_
      | some acc' => stR m n (rs.map wrowT ++ rest) (at_ + 1) acc') = _
    rw [wrow_words hr0, if_neg (by simp), hs]
    show stR m n (rs.map wrowT ++ rest) (at_ + 1) (acc ++ wAcc m n r) = _
    rw [stR_wild rs rest (at_ + 1) _ (fun q hq => h q (List.mem_cons_of_mem _ hq)) nd hr]
    rw [List.length_cons, show at_ + 1 + rs.length = at_ + (rs.length + 1) by omega]
def wlines : Nat → List (List WRow) → List Str
  | _, [] => []
  | k, s :: r => stateRow k :: (s.map wrowT ++ wlines (k + 1) r)
def SOk (m n : Nat) (s : List WRow) : Prop := (∀ r ∈ s, WOk m n r) ∧ ((s.flatMap (wAcc m n)).map (·.1)).Nodup
theorem wlines_head {k : Nat} {ss : List (List WRow)} (hk : k ≤ 400) : ∀ z t, wlines k ss = z :: t → rowWords z 1 = [] := fun z t e => by
  cases ss with
  | nil => cases e
  | cons s r =>
    have e : stateRow k :: (s.map wrowT ++ wlines (k + 1) r) = z :: t := e
    injection e with e _
    rw [← e]
    exact (great_words ⟨k, by omega⟩).2.1
theorem go_wild {m n : Nat} {full : List Str} : ∀ (ss : List (List WRow)) (k f at_ : Nat) (accs : List StA), full.drop at_ = wlines k ss → at_ ≤ full.length → accs.length = k → ss.length ≤ f → k + ss.length ≤ 400 → (∀ s ∈ ss, SOk m n s) →
    pactGo m n full f at_ accs = .ok (full.length, accs ++ ss.map fun s => s.flatMap (wAcc m n))
  | [], k, f, at_, accs, hd, hle, hk, hf, h4, _ => by
    have hd : full.drop at_ = [] := hd
    have ha : at_ = full.length := by
      have := congrArg List.length hd
      rw [List.length_drop] at this
      simp at this
      omega
    rw [List.map_nil, List.append_nil, ha]
    cases f with
    | zero => rfl
    | succ f =>
      have w0 : wordsAt full full.length 0 = [] := by
        unfold wordsAt
        rw [List.getElem?_eq_none (Nat.le_refl _)]
      show (if wordsAt full full.length 0 = _ then _ else Except.ok (full.length, accs)) = _
      rw [if_neg (by rw [w0]; simp)]
  | s :: ss, k, 0, at_, accs, hd, hle, hk, hf, h4, ok => absurd hf (by simp)
  | s :: ss, k, f + 1, at_, accs, hd, hle, hk, hf, h4, ok => by
    have hd : full.drop at_ = stateRow k :: (s.map wrowT ++ wlines (k + 1) ss) := hd
    rw [List.length_cons] at hf h4
    have g := great_words ⟨k, by omega⟩
    have h0 : full[at_]? = some (stateRow k) := by
      have e := congrArg (fun l => l[0]?) hd
      simp only [List.getElem?_drop, Nat.add_zero, List.getElem?_cons_zero] at e
      exact e
    have w0 : wordsAt full at_ 0 = (["state", toString ((k : Nat) : Int)] : List Str) := by
      unfold wordsAt
      rw [h0]
      exact g.1
    have hd1 : full.drop (at_ + 1) = s.map wrowT ++ wlines (k + 1) ss := by
      rw [← List.drop_drop, hd]
      rfl
    have so := ok s (List.mem_cons_self ..)
    have st := stR_wild s (wlines (k + 1) ss) (at_ + 1) [] so.1 (by rw [List.nil_append]; exact so.2) (wlines_head (by omega))
    rw [← hd1, List.nil_append] at st
    show (if wordsAt full at_ 0 = ([("state" : Str), toString ((accs.length : Nat) : Int)] : List Str) then match stR m n (full.drop (at_ + 1)) (at_ + 1) [] with
        | Except.error e => (Except.error e : Except Nat (Nat × List StA))
        | Except.ok q => pactGo m n full f q.1 (accs ++ [q.2])
      else Except.ok (at_, accs)) = _
    rw [hk, if_pos w0, st]
    show pactGo m n full f (at_ + 1 + s.length) (accs ++ [s.flatMap (wAcc m n)]) = _
    have hd2 : full.drop (at_ + 1 + s.length) = wlines (k + 1) ss := by
      rw [← List.drop_drop, hd1]
      have : s.length = (s.map wrowT).length := (List.length_map ..).symm
      rw [this, List.drop_left]
    have hl : at_ + 1 + s.length ≤ full.length := by
      have := congrArg List.length hd1
      rw [List.length_drop, List.length_append, List.length_map] at this
      have l0 := (List.getElem?_eq_some_iff.mp h0).1
      omega
    rw [go_wild ss (k + 1) f _ _ hd2 hl (by rw [List.length_append, hk]; rfl) (by omega) (by omega) fun q hq => ok q (List.mem_cons_of_mem _ hq)]
    rw [List.map_cons, List.append_assoc]
    rfl
theorem state_ne {k : Nat} {r : WRow} : wrowT r ≠ stateRow k := fun e => by
  have e := congrArg (fun z : Str => z.cps.toList.head?) e
  unfold wrowT stateRow at e
  have e2 : ("  " : Str).cps.toList = [32, 32] := by decide +kernel
  have e3 : ("state " : Str).cps.toList = [115, 116, 97, 116, 101, 32] := by decide +kernel
  simp only [cps_append, e2, e3, List.cons_append, List.head?_cons] at e
  exact absurd e (by decide)
theorem told_rows {k : Nat} {R : List Str} : ∀ s : List WRow, toldR (s.map wrowT ++ R) k = toldR R k
  | [] => rfl
  | r :: s => by
    show (if k < 400 ∧ wrowT r = stateRow k then toldR (s.map wrowT ++ R) (k + 1) else toldR (s.map wrowT ++ R) k) = _
    rw [if_neg (fun h => state_ne h.2), told_rows s]
theorem told_wild : ∀ (ss : List (List WRow)) (k : Nat), k + ss.length ≤ 400 → toldR (wlines k ss) k = k + ss.length
  | [], k, _ => rfl
  | s :: ss, k, h => by
    rw [List.length_cons] at h
    show (if k < 400 ∧ stateRow k = stateRow k then toldR (s.map wrowT ++ wlines (k + 1) ss) (k + 1) else toldR (s.map wrowT ++ wlines (k + 1) ss) k) = _
    rw [if_pos ⟨by omega, rfl⟩, told_rows, told_wild ss (k + 1) (by omega), List.length_cons]
    omega
theorem pact_wild {m : Nat} {ss : List (List WRow)} (h : ss.length ≤ 4) (ok : ∀ s ∈ ss, SOk m ss.length s) : pactR m (wlines 0 ss) = .ok (ss.map fun s => s.flatMap (wAcc m ss.length)) := by
  unfold pactR
  rw [told_wild ss 0 (by omega), Nat.zero_add, go_wild (full := wlines 0 ss) ss 0 400 0 [] rfl (Nat.zero_le _) rfl (by omega) (by omega) ok]
  exact if_pos rfl
end K5
namespace K5
open PySem PySem.Spec PyProof.Rows L2
/-! ### the page that is shown is one of these -/
theorem Canon.app {a b : StA} {r s : List RwD} (h : Canon a r) (g : Canon b s) : Canon (a ++ b) (r ++ s) := ⟨by
  rw [List.map_append, List.map_append]
  exact h.p.append g.p, fun q hq => by
  rcases List.mem_append.mp hq with hq | hq
  · obtain ⟨x, hx, e⟩ := h.m q hq
    exact ⟨x, List.mem_append_left _ hx, e⟩
  · obtain ⟨x, hx, e⟩ := g.m q hq
    exact ⟨x, List.mem_append_right _ hx, e⟩⟩
theorem Canon.perm {a b : StA} {r s : List RwD} (h : Canon a r) (p : b.Perm a) (q : r.Perm s) : Canon b s := ⟨((p.map (·.1)).trans h.p).trans (q.map keyR), fun x hx => by
  obtain ⟨y, hy, e⟩ := h.m x (p.mem_iff.mp hx)
  exact ⟨y, q.mem_iff.mp hy, e⟩⟩
theorem wd_of {z : Str} (h : (!z.cps.toList.isEmpty && (!z.cps.toList.contains 32 && (!z.cps.toList.contains 44 && !z.cps.toList.contains 10))) = true) : Wd z := by
  simp only [Bool.and_eq_true, Bool.not_eq_true', List.isEmpty_eq_false_iff, List.contains_eq_mem, decide_eq_false_iff_not] at h
  exact ⟨h.1, h.2.1, h.2.2.1, h.2.2.2⟩
theorem pool_wd : ∀ z ∈ poolD, Wd z ∧ isDoor z = true := fun z hz => by
  have : ∀ z ∈ poolD, (!z.cps.toList.isEmpty && (!z.cps.toList.contains 32 && (!z.cps.toList.contains 44 && !z.cps.toList.contains 10))) = true ∧ isDoor z = true := by decide +kernel
  exact ⟨wd_of (this z hz).1, (this z hz).2⟩
theorem num_wd {i : Int} (h0 : 0 ≤ i) (h1 : i < 4) : Wd (toString i : Str) := by
  have : ∀ i : Fin 4, (!(toString ((i.val : Nat) : Int) : Str).cps.toList.isEmpty && (!(toString ((i.val : Nat) : Int) : Str).cps.toList.contains 32 && (!(toString ((i.val : Nat) : Int) : Str).cps.toList.contains 44 && !(toString ((i.val : Nat) : Int) : Str).cps.toList.contains 10))) = true := by decide +kernel
  have := wd_of (this ⟨i.toNat, by omega⟩)
  rw [show (((⟨i.toNat, by omega⟩ : Fin 4).val : Nat) : Int) = i by show ((i.toNat : Nat) : Int) = i; omega] at this
  exact this
theorem ans_wd {a : Int} (h0 : -2 ≤ a) (h1 : a < 4) : Wd (ansW a) := by
  unfold ansW
  by_cases c1 : a = -1
  · rw [if_pos c1]
    exact wd_of (by decide +kernel)
  · rw [if_neg c1]
    by_cases c2 : a = -2
    · rw [if_pos c2]
      exact wd_of (by decide +kernel)
    · rw [if_neg c2]
      exact num_wd (by omega) h1
theorem num_nat : ∀ i n : Fin 5, i.val < n.val → numOf (toString ((i.val : Nat) : Int)) ((n.val : Nat) : Int) = ((i.val : Nat) : Int) := by decide +kernel
theorem num_of {i : Int} {n : Nat} (h0 : 0 ≤ i) (h1 : i < n) (h4 : n ≤ 4) : numOf (toString i) (n : Int) = i := by
  have := num_nat ⟨i.toNat, by omega⟩ ⟨n, by omega⟩ (by show i.toNat < n; omega)
  rw [show (((⟨i.toNat, by omega⟩ : Fin 5).val : Nat) : Int) = i by show ((i.toNat : Nat) : Int) = i; omega] at this
  exact this
theorem num_any {i : Int} (h0 : 0 ≤ i) (h1 : i < 4) : (toString i : Str) ≠ "any" ∧ (toString i : Str) ≠ "busy" ∧ (toString i : Str) ≠ "lost" := by
  have : ∀ i : Fin 4, (toString ((i.val : Nat) : Int) : Str) ≠ "any" ∧ (toString ((i.val : Nat) : Int) : Str) ≠ "busy" ∧ (toString ((i.val : Nat) : Int) : Str) ≠ "lost" := by decide +kernel
  have := this ⟨i.toNat, by omega⟩
  rw [show (((⟨i.toNat, by omega⟩ : Fin 4).val : Nat) : Int) = i by show ((i.toNat : Nat) : Int) = i; omega] at this
  exact this
theorem wOf_num {i : Int} {m : Nat} (h0 : 0 ≤ i) (h1 : i < m) (h4 : m ≤ 4) : wOf (toString i) m = [i] := by
  unfold wOf
  rw [if_neg (num_any h0 (by omega)).1, num_of h0 h1 h4, if_pos h0]
theorem wOf_any (m : Nat) : wOf "any" m = (List.range m).map Int.ofNat := if_pos rfl
theorem asOf_ans {a : Int} {m : Nat} (h0 : -2 ≤ a) (h1 : a < m) (h4 : m ≤ 4) : asOf (ansW a) m = [a] := by
  unfold ansW asOf ansOf
  by_cases c1 : a = -1
  · rw [if_pos c1, if_neg (by decide +kernel), if_pos rfl, c1]
  · rw [if_neg c1]
    by_cases c2 : a = -2
    · rw [if_pos c2, if_pos rfl, c2]
    · rw [if_neg c2, if_neg (num_any (by omega) (by omega)).2.1, if_neg (num_any (by omega) (by omega)).2.2, num_of (by omega) h1 h4, if_pos (by omega)]
theorem asOf_any {m : Nat} : asOf "any" m = (List.range m).map Int.ofNat := by
  have e : ansOf "any" m = none := by
    unfold ansOf
    have h : numOf "any" m = -1 := if_pos (by decide +kernel)
    rw [if_neg (by decide +kernel), if_neg (by decide +kernel), h, if_neg (by decide)]
  unfold asOf
  rw [e]
  exact wOf_any m
theorem any_wd : Wd "any" := wd_of (by decide +kernel)
theorem asc_nd {os : List (Int × Int)} (h : (os.map fun o => o.1).Pairwise (· < ·)) : (os.map fun o => o.1).Nodup := List.Pairwise.imp (S := fun a b => a ≠ b) (fun {a b} h => Int.ne_of_lt h) h
/-- one outcome, as it is written -/
def oW (o : Int × Int) : Str × Str := (ansW o.1, toString o.2)
theorem oW_ok {m n : Nat} {o : Int × Int} (m4 : m ≤ 4) (n4 : n ≤ 4) (h : -2 ≤ o.1 ∧ o.1 < (m : Int) ∧ 0 ≤ o.2 ∧ o.2 < (n : Int)) : PsOk m n (oW o) := by
  refine ⟨ans_wd h.1 (by omega), num_wd h.2.2.1 (by omega), ?_, ?_⟩
  · show asOf (ansW o.1) m ≠ []
    rw [asOf_ans h.1 h.2.1 m4]
    simp
  · show 0 ≤ numOf (toString o.2) n
    rw [num_of h.2.2.1 h.2.2.2 n4]
    exact h.2.2.1
theorem osW_oW {m n : Nat} (m4 : m ≤ 4) (n4 : n ≤ 4) : ∀ os : List (Int × Int), (∀ o ∈ os, -2 ≤ o.1 ∧ o.1 < (m : Int) ∧ 0 ≤ o.2 ∧ o.2 < (n : Int)) → osW m n (os.map oW) = os
  | [], _ => rfl
  | o :: r, h => by
    have h0 := h o (List.mem_cons_self ..)
    have e : osW m n ((o :: r).map oW) = ((asOf (ansW o.1) m).map fun a => (a, numOf (toString o.2) n)) ++ osW m n (r.map oW) := List.flatMap_cons
    rw [e, asOf_ans h0.1 h0.2.1 m4, num_of h0.2.2.1 h0.2.2.2 n4, osW_oW m4 n4 r fun q hq => h q (List.mem_cons_of_mem _ hq)]
    rfl
theorem shown_perm (os : List (Int × Int)) : (shownI os).Perm os := by
  unfold shownI
  have e : ∀ os : List (Int × Int), (os.filter fun o => decide (o.1 < 0)) = os.filter fun o => !decide (-1 < o.1) := fun os => List.filter_congr fun o _ => by
    by_cases h : o.1 < 0
    · rw [decide_eq_true h, decide_eq_false (by omega)]
      rfl
    · rw [decide_eq_false h, decide_eq_true (by omega)]
      rfl
  rw [List.filter_reverse]
  refine ((List.Perm.refl _).append ((List.reverse_perm _))).trans ?_
  rw [e]
  exact List.filter_append_perm _ _
def wI (r : RwD) : WRow := ⟨r.1.1, toString ((r.1.2 : Nat) : Int), (shownI r.2).map oW⟩
theorem wI_text (r : RwD) : wrowT (wI r) = rowI r := by
  unfold wrowT rowI wtold wI
  show _ ++ Str.join ", " (((shownI r.2).map oW).map wpart) = _
  rw [List.map_map]
  rfl
theorem wI_ok {m n : Nat} {r : RwD} (m4 : m ≤ 4) (n4 : n ≤ 4) (hd : r.1.1 ∈ poolD) (h : RowX m n r) : WOk m n (wI r) ∧ wAcc m n (wI r) = [(keyR r, shownI r.2)] := by
  obtain ⟨hw, hp, ha, ho⟩ := h
  have ew : wOf (toString ((r.1.2 : Nat) : Int)) m = [((r.1.2 : Nat) : Int)] := wOf_num (by omega) (by omega) m4
  have hs : ∀ o ∈ shownI r.2, -2 ≤ o.1 ∧ o.1 < (m : Int) ∧ 0 ≤ o.2 ∧ o.2 < (n : Int) := fun o hq => ho o ((shown_perm r.2).mem_iff.mp hq)
  have eo : osW m n ((shownI r.2).map oW) = shownI r.2 := osW_oW m4 n4 _ hs
  have nd : ((shownI r.2).map (·.1)).Nodup := ((shown_perm r.2).map fun o => o.1).nodup_iff.mpr (asc_nd ha)
  refine ⟨⟨(pool_wd _ hd).1, (pool_wd _ hd).2, num_wd (by omega) (by omega), ?_, ?_, ?_, ?_⟩, ?_⟩
  · show wOf (toString ((r.1.2 : Nat) : Int)) m ≠ []
    rw [ew]
    simp
  · show (shownI r.2).map oW ≠ []
    intro e
    have e : ((shownI r.2).map oW).length = 0 := by rw [e]; rfl
    rw [List.length_map, (shown_perm r.2).length_eq] at e
    omega
  · intro p hp
    obtain ⟨o, hq, rfl⟩ := List.mem_map.mp hp
    exact oW_ok m4 n4 (hs o hq)
  · show ((osW m n ((shownI r.2).map oW)).map (·.1)).Nodup
    rw [eo]
    exact nd
  · show (wOf (toString ((r.1.2 : Nat) : Int)) m).map (fun x => ((r.1.1, x), osW m n ((shownI r.2).map oW))) = _
    rw [ew, eo]
    rfl
theorem wI_accs {m n : Nat} (m4 : m ≤ 4) (n4 : n ≤ 4) : ∀ rs : List RwD, (∀ r ∈ rs, r.1.1 ∈ poolD ∧ RowX m n r) → (rs.map wI).flatMap (wAcc m n) = rs.map fun r => (keyR r, shownI r.2)
  | [], _ => rfl
  | r :: rs, h => by
    have h0 := h r (List.mem_cons_self ..)
    rw [List.map_cons, List.flatMap_cons, (wI_ok m4 n4 h0.1 h0.2).2, wI_accs m4 n4 rs fun q hq => h q (List.mem_cons_of_mem _ hq)]
    rfl
theorem wI_canon {m n : Nat} (m4 : m ≤ 4) (n4 : n ≤ 4) {rs : List RwD} (h : ∀ r ∈ rs, r.1.1 ∈ poolD ∧ RowX m n r) : Canon ((rs.map wI).flatMap (wAcc m n)) rs := by
  rw [wI_accs m4 n4 rs h]
  refine ⟨by rw [List.map_map]; exact List.Perm.refl _, fun q hq => ?_⟩
  obtain ⟨r, hr, rfl⟩ := List.mem_map.mp hq
  exact ⟨r, hr, rfl, shown_perm r.2⟩
theorem page_lines : ∀ (k : Nat) (sts : List (List RwD)), pageI k sts = wlines k (sts.map fun rs => rs.map wI)
  | _, [] => rfl
  | k, s :: r => by
    show stateRow k :: (s.map rowI ++ pageI (k + 1) r) = stateRow k :: ((s.map wI).map wrowT ++ wlines (k + 1) (r.map fun rs => rs.map wI))
    rw [page_lines (k + 1) r, List.map_map]
    congr 2
    exact List.map_congr_left fun q _ => (wI_text q).symm
/-- a page of states of which each stands for the drawn one is read as the drawn pact -/
theorem canon_read {m : Nat} {ss : List (List WRow)} {sts : List (List RwD)} (l4 : sts.length ≤ 4) (e : ss.length = sts.length) (ok : ∀ s ∈ ss, ∀ r ∈ s, WOk m sts.length r) (c : Paired (fun s rs => Canon (s.flatMap (wAcc m sts.length)) rs) ss sts) (hx : ∀ s ∈ sts, StX m sts.length s) :
    ∃ accs, pactR m (wlines 0 ss) = .ok accs ∧ pactD accs = datD sts ∧ ∀ a ∈ accs, StOk a := by
  refine ⟨ss.map fun s => s.flatMap (wAcc m ss.length), pact_wild (by omega) fun s hs => ?_, canon_pact ?_ hx⟩
  · rw [e]
    refine ⟨ok s hs, ?_⟩
    obtain ⟨i, hi⟩ := List.getElem?_of_mem hs
    obtain ⟨rs, hrs, cn⟩ := paired_at i c hi
    exact cn.p.nodup_iff.mpr (keys_nodup (hx rs (List.mem_of_getElem? hrs)))
  · rw [e]
    clear e ok hx l4
    generalize sts.length = n at c
    induction c with
    | nil => exact .nil
    | cons h _ ih => exact .cons h ih
theorem page_read {m : Nat} {sts : List (List RwD)} (m4 : m ≤ 4) (l4 : sts.length ≤ 4) (hp : ∀ s ∈ sts, ∀ r ∈ s, r.1.1 ∈ poolD) (hx : ∀ s ∈ sts, StX m sts.length s) : ∃ accs, pactR m (pageI 0 sts) = .ok accs ∧ pactD accs = datD sts ∧ ∀ a ∈ accs, StOk a := by
  rw [page_lines]
  refine canon_read l4 (List.length_map ..) (fun s hs r hr => ?_) ?_ hx
  · obtain ⟨rs, h1, rfl⟩ := List.mem_map.mp hs
    obtain ⟨q, h2, rfl⟩ := List.mem_map.mp hr
    exact (wI_ok m4 l4 (hp rs h1 q h2) ((hx rs h1).2 q h2)).1
  · have : ∀ l : List (List RwD), (∀ s ∈ l, ∀ r ∈ s, r.1.1 ∈ poolD ∧ RowX m sts.length r) → Paired (fun s rs => Canon (s.flatMap (wAcc m sts.length)) rs) (l.map fun rs => rs.map wI) l := by
      intro l
      induction l with
      | nil => exact fun _ => .nil
      | cons x l ih => exact fun h => .cons (wI_canon m4 l4 (h x (List.mem_cons_self ..))) (ih fun s hs => h s (List.mem_cons_of_mem _ hs))
    exact this sts fun s hs r hr => ⟨hp s hs r hr, (hx s hs).2 r hr⟩
end K5
namespace K5
open PySem PySem.Spec PyProof.Rows L2
/-! ### rows and outcomes with any -/
theorem asc_len : ∀ {l : List Int} {lo hi : Int}, l.Pairwise (· < ·) → (∀ x ∈ l, lo ≤ x ∧ x < hi) → l = [] ∨ (l.length : Int) ≤ hi - lo
  | [], _, _, _, _ => .inl rfl
  | x :: t, lo, hi, h, b => by
    rw [List.pairwise_cons] at h
    have bx := b x (List.mem_cons_self ..)
    rcases asc_len (lo := x + 1) (hi := hi) h.2 (fun y hy => ⟨by have := h.1 y hy; omega, (b y (List.mem_cons_of_mem _ hy)).2⟩) with e | e
    · rw [e]
      refine .inr ?_
      show (1 : Int) ≤ _
      omega
    · refine .inr ?_
      rw [List.length_cons]
      omega
theorem asc_range : ∀ {l : List Int} {lo : Int}, l.Pairwise (· < ·) → (∀ x ∈ l, lo ≤ x ∧ x < lo + l.length) → l = (List.range l.length).map fun i => lo + (i : Nat)
  | [], _, _, _ => rfl
  | x :: t, lo, h, b => by
    rw [List.pairwise_cons] at h
    have bx := b x (List.mem_cons_self ..)
    have bt : ∀ y ∈ t, x + 1 ≤ y ∧ y < lo + (x :: t).length := fun y hy => ⟨by have := h.1 y hy; omega, (b y (List.mem_cons_of_mem _ hy)).2⟩
    have e : x = lo := by
      rcases asc_len h.2 bt with e | e
      · rw [e] at bx
        have : x < lo + 1 := bx.2
        omega
      · rw [List.length_cons] at e
        omega
    rw [List.length_cons] at bt
    have ih := asc_range (l := t) (lo := lo + 1) h.2 fun y hy => by
      have := bt y hy
      omega
    rw [List.length_cons, List.range_succ_eq_map, List.map_cons, List.map_map]
    rw [e]
    congr 1
    · show lo = lo + ((0 : Nat) : Int)
      omega
    · refine ih.trans (List.map_congr_left fun i _ => ?_)
      show lo + 1 + (i : Int) = lo + ((i + 1 : Nat) : Int)
      omega
/-- words of outcomes, in some sequence, with any perhaps -/
structure PW (m n : Nat) (os : List (Int × Int)) (ps : List (Str × Str)) : Prop where
  ne : ps ≠ []
  ok : ∀ p ∈ ps, PsOk m n p
  pm : (osW m n ps).Perm os
theorem osW_perm {m n : Nat} {ps qs : List (Str × Str)} (h : ps.Perm qs) : (osW m n ps).Perm (osW m n qs) := List.Perm.flatMap_right _ h
theorem PW.perm {m n : Nat} {os : List (Int × Int)} {ps qs : List (Str × Str)} (h : PW m n os ps) (p : qs.Perm ps) : PW m n os qs := ⟨fun e => h.ne (by rw [e] at p; exact p.symm.eq_nil), fun q hq => h.ok q (p.mem_iff.mp hq), (osW_perm p).trans h.pm⟩
def lowI (os : List (Int × Int)) : List (Int × Int) := os.filter fun o => decide (o.1 < 0)
def highI (os : List (Int × Int)) : List (Int × Int) := os.filter fun o => decide (-1 < o.1)
theorem low_high (os : List (Int × Int)) : (lowI os ++ highI os).Perm os := by
  have e : lowI os = os.filter fun o => !decide (-1 < o.1) := List.filter_congr fun o _ => by
    by_cases h : o.1 < 0
    · rw [decide_eq_true h, decide_eq_false (by omega)]
      rfl
    · rw [decide_eq_false h, decide_eq_true (by omega)]
      rfl
  rw [e]
  exact List.perm_append_comm.trans (List.filter_append_perm _ _)
def OsX (m n : Nat) (os : List (Int × Int)) : Prop := 0 < os.length ∧ (os.map (·.1)).Pairwise (· < ·) ∧ ∀ o ∈ os, -2 ≤ o.1 ∧ o.1 < (m : Int) ∧ 0 ≤ o.2 ∧ o.2 < (n : Int)
/-- each outcome by itself -/
theorem pw_each {m n : Nat} {os : List (Int × Int)} (m4 : m ≤ 4) (n4 : n ≤ 4) (h : OsX m n os) : PW m n os ((lowI os ++ highI os).map oW) := by
  have hs : ∀ o ∈ lowI os ++ highI os, -2 ≤ o.1 ∧ o.1 < (m : Int) ∧ 0 ≤ o.2 ∧ o.2 < (n : Int) := fun o ho => h.2.2 o ((low_high os).mem_iff.mp ho)
  refine ⟨fun e => ?_, fun p hp => ?_, ?_⟩
  · have e : ((lowI os ++ highI os).map oW).length = 0 := by rw [e]; rfl
    rw [List.length_map, (low_high os).length_eq] at e
    have := h.1
    omega
  · obtain ⟨o, ho, rfl⟩ := List.mem_map.mp hp
    exact oW_ok m4 n4 (hs o ho)
  · rw [osW_oW m4 n4 _ hs]
    exact low_high os
def anyW (l : Int) : Str × Str := ("any", toString l)
/-- all answers from 0 on by one word -/
theorem pw_any {m n : Nat} {os : List (Int × Int)} {l : Int} (m0 : 0 < m) (m4 : m ≤ 4) (n4 : n ≤ 4) (h : OsX m n os) (hl : (highI os).length = m) (same : ∀ o ∈ highI os, o.2 = l) : PW m n os ((lowI os).map oW ++ [anyW l]) := by
  have hm : ∀ o ∈ highI os, o ∈ os ∧ -1 < o.1 := fun o ho => by
    have := List.mem_filter.mp ho
    exact ⟨this.1, of_decide_eq_true this.2⟩
  have asc : ((highI os).map (·.1)).Pairwise (· < ·) := (h.2.1).sublist (List.Sublist.map _ (List.filter_sublist))
  have er := asc_range (l := (highI os).map (·.1)) (lo := 0) asc fun x hx => by
    obtain ⟨o, ho, rfl⟩ := List.mem_map.mp hx
    have h1 := hm o ho
    have h2 := h.2.2 o h1.1
    rw [List.length_map, hl]
    omega
  rw [List.length_map, hl] at er
  have eh : highI os = (List.range m).map fun i => (((i : Nat) : Int), l) := by
    have e2 : highI os = ((highI os).map (·.1)).map fun x => (x, l) := by
      rw [List.map_map]
      refine (List.map_id _).symm.trans (List.map_congr_left fun o ho => ?_)
      show o = (o.1, l)
      rw [← same o ho]
    rw [e2, er, List.map_map]
    refine List.map_congr_left fun i _ => ?_
    show ((0 : Int) + (i : Nat), l) = (((i : Nat) : Int), l)
    rw [Int.zero_add]
  have hlow : ∀ o ∈ lowI os, -2 ≤ o.1 ∧ o.1 < (m : Int) ∧ 0 ≤ o.2 ∧ o.2 < (n : Int) := fun o ho => h.2.2 o (List.mem_filter.mp ho).1
  have hb : 0 ≤ l ∧ l < (n : Int) := by
    cases e : highI os with
    | nil =>
      rw [e] at hl
      simp at hl
      omega
    | cons o r =>
      have ho : o ∈ highI os := by rw [e]; exact List.mem_cons_self ..
      have h1 := h.2.2 o (hm o ho).1
      rw [same o ho] at h1
      exact h1.2.2
  refine ⟨by simp, fun p hp => ?_, ?_⟩
  · rcases List.mem_append.mp hp with hp | hp
    · obtain ⟨o, ho, rfl⟩ := List.mem_map.mp hp
      exact oW_ok m4 n4 (hlow o ho)
    · rw [List.mem_singleton.mp hp]
      refine ⟨any_wd, num_wd hb.1 (by omega), ?_, ?_⟩
      · show asOf "any" m ≠ []
        rw [asOf_any]
        intro e
        have e := congrArg List.length e
        simp at e
        omega
      · show 0 ≤ numOf (toString l) n
        rw [num_of hb.1 hb.2 n4]
        exact hb.1
  · have e : osW m n ((lowI os).map oW ++ [anyW l]) = lowI os ++ highI os := by
      unfold osW
      rw [List.flatMap_append]
      show osW m n ((lowI os).map oW) ++ osW m n [anyW l] = _
      rw [osW_oW m4 n4 _ hlow, eh]
      congr 1
      show ((asOf "any" m).map fun a => (a, numOf (toString l) n)) ++ [] = _
      rw [List.append_nil, asOf_any, num_of hb.1 hb.2 n4, List.map_map]
      rfl
    rw [e]
    exact low_high os
/-- a row by itself -/
theorem row_one {m n : Nat} {r : RwD} {ps : List (Str × Str)} (m4 : m ≤ 4) (n4 : n ≤ 4) (hd : r.1.1 ∈ poolD) (h : RowX m n r) (p : PW m n r.2 ps) : WOk m n ⟨r.1.1, toString ((r.1.2 : Nat) : Int), ps⟩ ∧ Canon (wAcc m n ⟨r.1.1, toString ((r.1.2 : Nat) : Int), ps⟩) [r] := by
  obtain ⟨hw, hp, ha, ho⟩ := h
  have ew : wOf (toString ((r.1.2 : Nat) : Int)) m = [((r.1.2 : Nat) : Int)] := wOf_num (by omega) (by omega) m4
  have nd : ((osW m n ps).map (·.1)).Nodup := (p.pm.map fun o => o.1).nodup_iff.mpr (asc_nd ha)
  refine ⟨⟨(pool_wd _ hd).1, (pool_wd _ hd).2, num_wd (by omega) (by omega), by show wOf (toString ((r.1.2 : Nat) : Int)) m ≠ []; rw [ew]; simp, p.ne, p.ok, nd⟩, ?_⟩
  have e : wAcc m n ⟨r.1.1, toString ((r.1.2 : Nat) : Int), ps⟩ = [(keyR r, osW m n ps)] := by
    show (wOf (toString ((r.1.2 : Nat) : Int)) m).map (fun x => ((r.1.1, x), osW m n ps)) = _
    rw [ew]
    rfl
  rw [e]
  refine ⟨List.Perm.refl _, fun q hq => ?_⟩
  rw [List.mem_singleton.mp hq]
  exact ⟨r, List.mem_singleton.mpr rfl, rfl, p.pm⟩
/-- all rows of a door by one -/
theorem row_any {m n : Nat} {d : Str} {g : List RwD} {os : List (Int × Int)} {ps : List (Str × Str)} (m0 : 0 < m) (hd : d ∈ poolD) (hg : ∀ r ∈ g, r.1.1 = d ∧ r.2 = os ∧ r.1.2 < m) (asc : (g.map (·.1)).Pairwise RLt) (gl : g.length = m) (hx : OsX m n os) (p : PW m n os ps) :
    WOk m n ⟨d, "any", ps⟩ ∧ Canon (wAcc m n ⟨d, "any", ps⟩) g := by
  have asc2 : (g.map fun r => ((r.1.2 : Nat) : Int)).Pairwise (· < ·) := by
    refine List.pairwise_map.mpr ((List.pairwise_map.mp asc).imp_of_mem fun {a b} ha hb h => ?_)
    rcases h with h | ⟨_, h⟩
    · rw [(hg a ha).1, (hg b hb).1] at h
      exact absurd rfl h.ne
    · exact Int.ofNat_lt.mpr h
  have er := asc_range (lo := 0) asc2 fun x hx => by
    obtain ⟨r, hr, rfl⟩ := List.mem_map.mp hx
    have := (hg r hr).2.2
    rw [List.length_map, gl]
    omega
  rw [List.length_map, gl] at er
  have nd : ((osW m n ps).map (·.1)).Nodup := (p.pm.map fun o => o.1).nodup_iff.mpr (asc_nd hx.2.1)
  refine ⟨⟨(pool_wd _ hd).1, (pool_wd _ hd).2, any_wd, ?_, p.ne, p.ok, nd⟩, ?_, fun q hq => ?_⟩
  · show wOf "any" m ≠ []
    rw [wOf_any]
    intro e
    have e := congrArg List.length e
    simp at e
    omega
  · have e1 : (wAcc m n ⟨d, "any", ps⟩).map (·.1) = (g.map fun r => ((r.1.2 : Nat) : Int)).map fun x => (d, x) := by
      rw [wAcc_keys, er]
      show (wOf "any" m).map (fun x => (d, x)) = _
      rw [wOf_any, List.map_map, List.map_map]
      refine List.map_congr_left fun i _ => ?_
      show (d, Int.ofNat i) = (d, (0 : Int) + (i : Nat))
      rw [Int.zero_add]
      rfl
    rw [e1, List.map_map]
    refine List.Perm.of_eq (List.map_congr_left fun r hr => ?_)
    show (d, ((r.1.2 : Nat) : Int)) = (r.1.1, ((r.1.2 : Nat) : Int))
    rw [(hg r hr).1]
  · obtain ⟨x, hx2, rfl⟩ := List.mem_map.mp hq
    have hx2 : x ∈ wOf "any" m := hx2
    rw [wOf_any] at hx2
    obtain ⟨i, hi, rfl⟩ := List.mem_map.mp hx2
    have hi := List.mem_range.mp hi
    have : ((i : Nat) : Int) ∈ g.map fun r => ((r.1.2 : Nat) : Int) := by
      rw [er]
      exact List.mem_map.mpr ⟨i, List.mem_range.mpr hi, by omega⟩
    obtain ⟨r, hr, e⟩ := List.mem_map.mp this
    refine ⟨r, hr, ?_, ?_⟩
    · show (d, ((i : Nat) : Int)) = (r.1.1, ((r.1.2 : Nat) : Int))
      rw [(hg r hr).1, e]
    · rw [(hg r hr).2.1]
      exact p.pm
theorem fm_congr {α β : Type} {f g : α → List β} : ∀ {l : List α}, (∀ x ∈ l, f x = g x) → l.flatMap f = l.flatMap g
  | [], _ => rfl
  | x :: l, h => by
    rw [List.flatMap_cons, List.flatMap_cons, h x (List.mem_cons_self ..), fm_congr fun y hy => h y (List.mem_cons_of_mem _ hy)]
/-- the rows, door by door -/
theorem by_doors : ∀ (D : List Str) (rs : List RwD), D.Nodup → (∀ r ∈ rs, r.1.1 ∈ D) → (D.flatMap fun d => rs.filter fun r => decide (r.1.1 = d)).Perm rs
  | [], rs, _, h => by
    cases rs with
    | nil => exact .refl _
    | cons r _ => exact absurd (h r (List.mem_cons_self ..)) (by simp)
  | d :: D, rs, nd, h => by
    rw [List.nodup_cons] at nd
    rw [List.flatMap_cons]
    have ih := by_doors D (rs.filter fun r => !decide (r.1.1 = d)) nd.2 fun r hr => by
      have hr := List.mem_filter.mp hr
      rcases List.mem_cons.mp (h r hr.1) with e | e
      · have := hr.2
        rw [decide_eq_true e] at this
        cases this
      · exact e
    have eq : (D.flatMap fun x => rs.filter fun r => decide (r.1.1 = x)) = D.flatMap fun x => (rs.filter fun r => !decide (r.1.1 = d)).filter fun r => decide (r.1.1 = x) := by
      refine fm_congr fun x hx => ?_
      rw [List.filter_filter]
      refine List.filter_congr fun r _ => ?_
      by_cases e : r.1.1 = x
      · have : r.1.1 ≠ d := fun c => nd.1 (by rw [← c, e]; exact hx)
        rw [decide_eq_true e, decide_eq_false this]
        rfl
      · rw [decide_eq_false e]
        rfl
    rw [eq]
    exact ((List.Perm.refl _).append ih).trans (List.filter_append_perm _ _)
end K5
namespace K5
open PySem PySem.Spec PyProof.Rows L2
/-! ### rows that ascend -/
def rLtD : R2 := fun x y H Q => ∃ d e : PyData, Dq H x d ∧ Dq H y e ∧ PySem.W.alike d e = true ∧ d ≠ .none ∧ d.depth ≤ 10 ∧ Q (.bl (PySem.W.dataLt d e)) H
theorem op_ltD {X : Cx} (hu : X.A.units + 64 < cLine) : OpR X (compareOp .Lt) rLtD := by
  intro pins s σ H x y v u Q I rx ry h
  obtain ⟨d, e, hd, he, al, nn, dp, q⟩ := h
  obtain ⟨as, ra, _⟩ := Dq.reads I d x v hd rx
  obtain ⟨bs, rb, _⟩ := Dq.reads I e y u he ry
  exact PySem.W.lt_data ra rb al nn (by omega) ⟨.bl _, H, I, rfl, q⟩
theorem dqA_at {H : Hp} : ∀ {xs : List V} {ds : List PyData} {i : Nat} {x : V}, DqA H xs ds → xs[i]? = some x → ∃ d, ds[i]? = some d ∧ Dq H x d
  | _, _, _, _, .nil, h => by cases h
  | _, _, 0, _, .cons a r, h => by
    injection h with h
    exact ⟨_, rfl, h ▸ a⟩
  | _, _, i + 1, _, .cons a r, h => dqA_at (i := i) r h
def AscD (ds : List PyData) : Prop := ds.Pairwise fun a b => PySem.W.alike a b = true ∧ a ≠ .none ∧ a.depth ≤ 10 ∧ PySem.W.dataLt a b = true
def spAsc : Sp := fun vs H Q _ => ∃ (l : Addr) (xs : List V) (ds : List PyData), vs = [.ref l] ∧ H l = some (.lst xs) ∧ DqA H xs ds ∧ AscD ds ∧ xs.length ≤ 100 ∧ ∀ H', Same H H' → Q (.bl true) H'
abbrev s_ascends : Stmt := topS 13
theorem sc_ascends : FnScope ["rows", "at"] ["rows"] (defScope s_ascends) := ⟨rfl, rfl, rfl, by decide +kernel, rfl, by decide +kernel, by decide +kernel⟩
section
variable {P : Program} {w : World} {K : PySem.W.Frag} {mg : Str → Option Value} {base : Heap}
theorem ok_ascends {f : Addr} {fd : FuncData} (B : Bt mg) (m_all : mg "all" = none) (D : Df K mg "ascends" s_ascends f fd ["rows"]) : FnOk P w K mg base CX0 1 f fd ["rows"] spAsc := by
  refine D.F.ok sc_ascends (fun vs H Q E h => ?_) (fun cdv A outer s H vs Q E hr h => ?_)
  · obtain ⟨l, xs, ds, rfl, _⟩ := h
    rfl
  · obtain ⟨l, xs, ds, rfl, hl, hd, pw, few, k⟩ := h
    have S := sc_ascends
    have hu := hr.units
    refine ⟨_, (pss_one (ps_ret (pe_callB (cr_all rfl) (by rfl) m_all (by decide +kernel) (pa_cons (pe_lc (own := [("at", 1)]) (g := gName 1) (tt := tYes) rfl S.nd (pi_range1 (by rfl) B.m_range (pa_cons (pe_op op_sub (pe_callB call_len_seq (by rfl) B.m_len PySem.boot_len (pa_cons (pv 0) pa_nil)) pe_int) pa_nil)) (blkOk_by (own := [("at", 1)]) (N := ["rows", "at"]) (sc := defScope s_ascends) (by decide +kernel)) (fun _ _ _ _ _ => pg_name (i := 1) S.nd rfl (Or.inl rfl)) (fun _ _ _ _ _ => pts_nil)
      (fun _ _ _ _ _ => pe_cmpR (op_ltD (by exact hu)) (pe_ix (r := rIxL K) ix_list (pv 0) (pv 1) (fun _ _ => rfl)) (pe_ix (r := rIxL K) ix_list (pv 0) (pe_op op_add (pv 1) pe_int) (fun _ _ => rfl)) (nomark _))) pa_nil)))), ?_⟩
    dsimp only [tRet, tCB, tCons, tNil, tLc, iRng1]
    refine (val_i0 (val_lenL (val_var rfl) (SqL.of hl)) val_c) _ ?_
    refine ⟨_, rfl, by omega, by omega, fun M nM => ?_⟩
    refine lc_range (lo := 0) (n := ((xs.length : Int) - 1).toNat) (fun t H2 => Same H H2 ∧ H2 M = some (.lst ((List.replicate t true).map V.bl))) ⟨same_upd nM, upd_same⟩ (fun t H2 ht hI => ?_) fun H2 hI => ?_
    · obtain ⟨s2, hM⟩ := hI
      refine ⟨rfl, ?_⟩
      dsimp only [tYes]
      rw [if_pos rfl]
      have t1 : t + 1 < xs.length := by omega
      obtain ⟨x, hx⟩ : ∃ x, xs[t]? = some x := ⟨_, List.getElem?_eq_getElem (by omega)⟩
      obtain ⟨y, hy⟩ : ∃ y, xs[t + 1]? = some y := ⟨_, List.getElem?_eq_getElem t1⟩
      obtain ⟨d, hdx, qx⟩ := dqA_at hd hx
      obtain ⟨e, hey, qy⟩ := dqA_at hd hy
      obtain ⟨i1, e1⟩ := List.getElem?_eq_some_iff.mp hdx
      obtain ⟨i2, e2⟩ := List.getElem?_eq_some_iff.mp hey
      have p := List.pairwise_iff_getElem.mp pw t (t + 1) i1 i2 (Nat.lt_succ_self _)
      rw [e1, e2] at p
      rw [show (0 : Int) + ((t : Nat) : Int) = ((t : Nat) : Int) by omega]
      have hy' : atI xs ((t : Nat) + 1 : Int) = some y := by
        have := atI_nat hy
        rw [show ((t + 1 : Nat) : Int) = ((t : Nat) : Int) + 1 by omega] at this
        exact this
      refine val_op (x := x) (y := y) (z := .bl true) (val_ixL (val_var rfl) (val_var rfl) (SqL.of (s2 _ _ hl)) (atI_nat hx)) (val_ixL (val_var rfl) (val_i0 (val_var rfl) val_c) (SqL.of (s2 _ _ hl)) hy') (fun Q q => ⟨d, e, Dq.mono s2 _ qx, Dq.mono s2 _ qy, p.1, p.2.1, p.2.2.1, by rw [p.2.2.2]; exact q⟩) _ ?_
      refine ⟨_, hM, by rw [List.length_map, List.length_replicate]; exact Nat.lt_of_lt_of_le (show t < 100 by omega) (by decide), fun b o e => ?_, ?_⟩
      · rw [upd_ne (ne_of_none e nM)]
        exact s2 _ _ e
      · rw [upd_same, List.replicate_succ', List.map_append]
        rfl
    · obtain ⟨s2, hM⟩ := hI
      refine ⟨M, _, rfl, SqL.of hM, ?_⟩
      have : ∀ n : Nat, (List.replicate n true).all id = true := fun n => by
        rw [List.all_eq_true]
        intro b hb
        rw [(List.mem_replicate.mp hb).2]
        rfl
      rw [this]
      exact k H2 s2
end
end K5
namespace K5
open PySem PySem.Spec PyProof.Rows L2
/-! ### forms of values -/
def belowV (m : Int) : V → Bool
  | .int i => decide (0 ≤ i) && decide (i < m)
  | _ => false
def answerV (m : Int) : V → Bool
  | .int i => decide (-2 ≤ i) && decide (i < m)
  | _ => false
def isT : PyData → Bool
  | .tuple _ => true
  | _ => false
def tupN (n : Nat) : PyData → Bool
  | .tuple ds => decide (ds.length = n)
  | _ => false
theorem kit_tuple : kitB "NoneType" "tuple" = some false ∧ kitB "bool" "tuple" = some false ∧ kitB "int" "tuple" = some false ∧ kitB "str" "tuple" = some false ∧ kitB "list" "tuple" = some false ∧ kitB "tuple" "tuple" = some true ∧ kitB "dict" "tuple" = some false := by decide +kernel
theorem Dq.kit {H : Hp} {x : V} {d : PyData} (h : Dq H x d) : ∃ T, Kd H x T ∧ kitB T "tuple" = some (isT d) := by
  obtain ⟨k1, k2, k3, k4, k5, k6, k7⟩ := kit_tuple
  cases h with
  | non => exact ⟨_, .non, k1⟩
  | bl b => exact ⟨_, .bl b, k2⟩
  | int i => exact ⟨_, .int i, k3⟩
  | str x => exact ⟨_, .str x, k4⟩
  | lst h a => exact ⟨_, .lst h, k5⟩
  | tup h a => exact ⟨_, .tup h, k6⟩
  | dic h => exact ⟨_, .dK h, k7⟩
def spBelow : Sp := fun vs H Q _ => ∃ (x : V) (T : String) (m : Int), vs = [x, .int m] ∧ Kd H x T ∧ Q (.bl (belowV m x)) H
def spAnswer : Sp := fun vs H Q _ => ∃ (x : V) (T : String) (m : Int), vs = [x, .int m] ∧ Kd H x T ∧ Q (.bl (answerV m x)) H
def spIsTuple : Sp := fun vs H Q _ => ∃ (x : V) (d : PyData) (n : Nat), vs = [x, .int (n : Nat)] ∧ Dq H x d ∧ Q (.bl (tupN n d)) H
abbrev s_is_below : Stmt := topS 7
theorem sc_is_below : FnScope ["value", "many"] ["value", "many"] (defScope s_is_below) := ⟨rfl, rfl, rfl, by decide +kernel, rfl, by decide +kernel, by decide +kernel⟩
abbrev s_is_answer : Stmt := topS 9
theorem sc_is_answer : FnScope ["value", "worths"] ["value", "worths"] (defScope s_is_answer) := ⟨rfl, rfl, rfl, by decide +kernel, rfl, by decide +kernel, by decide +kernel⟩
abbrev s_is_tuple : Stmt := topS 12
theorem sc_is_tuple : FnScope ["value", "size"] ["value", "size"] (defScope s_is_tuple) := ⟨rfl, rfl, rfl, by decide +kernel, rfl, by decide +kernel, by decide +kernel⟩
section
variable {P : Program} {w : World} {K : PySem.W.Frag} {mg : Str → Option Value} {base : Heap}
theorem ok_is_below {f fI : Addr} {fd fdI : FuncData} (B : Bt mg) (D : Df K mg "is_below" s_is_below f fd ["value", "many"]) (D_is_integer : Df K mg "is_integer" s_is_integer fI fdI ["value"]) : FnOk P w K mg base CX0 2 f fd ["value", "many"] spBelow := by
  have G_is_integer : FnOk P w K mg base CX0 1 fI fdI ["value"] spIsInt := ok_is_integer B D_is_integer
  refine D.F.ok sc_is_below (fun vs H Q E h => ?_) (fun cdv A outer s H vs Q E hr h => ?_)
  · obtain ⟨x, T, m, rfl, _⟩ := h
    rfl
  · obtain ⟨x, T, m, rfl, hx, k⟩ := h
    have S := sc_is_below
    refine ⟨_, (pss_one (ps_ret (pe_and (pe_call G_is_integer (hr.mono (by decide)) (by rfl) D_is_integer.g D_is_integer.F.kp D_is_integer.b .nil pass0 (pa_cons (pv 0) pa_nil)) (pe_one (pe_chain op_le op_lt pe_int (pv 0) (pv 1)))))), ?_⟩
    refine (val_call (va_cons (val_var rfl) va_nil) fun Q q => ⟨x, T, rfl, hx, q⟩) _ ⟨_, rfl, ?_⟩
    cases hx with
    | int i => exact iteT ((val_chain val_c (val_var rfl) (val_var rfl)) _ k)
    | _ => exact iteF k
theorem ok_is_answer {f fI : Addr} {fd fdI : FuncData} (B : Bt mg) (D : Df K mg "is_answer" s_is_answer f fd ["value", "worths"]) (D_is_integer : Df K mg "is_integer" s_is_integer fI fdI ["value"]) : FnOk P w K mg base CX0 2 f fd ["value", "worths"] spAnswer := by
  have G_is_integer : FnOk P w K mg base CX0 1 fI fdI ["value"] spIsInt := ok_is_integer B D_is_integer
  refine D.F.ok sc_is_answer (fun vs H Q E h => ?_) (fun cdv A outer s H vs Q E hr h => ?_)
  · obtain ⟨x, T, m, rfl, _⟩ := h
    rfl
  · obtain ⟨x, T, m, rfl, hx, k⟩ := h
    have S := sc_is_answer
    refine ⟨_, (pss_one (ps_ret (pe_and (pe_call G_is_integer (hr.mono (by decide)) (by rfl) D_is_integer.g D_is_integer.F.kp D_is_integer.b .nil pass0 (pa_cons (pv 0) pa_nil)) (pe_one (pe_chain op_le op_lt (pe_un un_neg pe_int) (pv 0) (pv 1)))))), ?_⟩
    refine (val_call (va_cons (val_var rfl) va_nil) fun Q q => ⟨x, T, rfl, hx, q⟩) _ ⟨_, rfl, ?_⟩
    cases hx with
    | int i => exact iteT ((val_chain (val_neg val_c) (val_var rfl) (val_var rfl)) _ k)
    | _ => exact iteF k
theorem ok_is_tuple {f : Addr} {fd : FuncData} (B : Bt mg) (D : Df K mg "is_tuple" s_is_tuple f fd ["value", "size"]) : FnOk P w K mg base CX0 1 f fd ["value", "size"] spIsTuple := by
  refine D.F.ok sc_is_tuple (fun vs H Q E h => ?_) (fun cdv A outer s H vs Q E hr h => ?_)
  · obtain ⟨x, d, n, rfl, _⟩ := h
    rfl
  · obtain ⟨x, d, n, rfl, hx, k⟩ := h
    have S := sc_is_tuple
    refine ⟨_, (pss_one (ps_ret (pe_and (pe_callB call_isi (by rfl) B.m_isinstance PyProof.Rows.boot_isinstance (pa_cons (pv 0) (pa_cons (pe_tyN bt_tuple (by rfl) B.m_tuple) pa_nil))) (pe_one (pe_cmpR op_eq (pe_callB call_len_seq (by rfl) B.m_len PySem.boot_len (pa_cons (pv 0) pa_nil)) (pv 1) (nomark _)))))), ?_⟩
    obtain ⟨T, kd, kt⟩ := hx.kit
    refine (val_isi (val_var rfl) kd kt) _ ⟨_, rfl, ?_⟩
    cases hx with
    | tup h a =>
      rename_i p xs ds
      refine iteT ((val_op (z := .bl (tupN n (.tuple ds))) (val_lenT (val_var rfl) (SqT.of h)) (val_var rfl) fun Q q => ⟨rfl, ?_⟩) _ k)
      have e : ∀ m : Nat, decide (V.int (m : Nat) = V.int (n : Nat)) = decide (m = n) := fun m => decide_eq_decide.mpr ⟨fun e => by injection e with e; omega, fun e => by rw [e]⟩
      rw [e, a.len]
      exact q
    | _ => exact iteF k
end
end K5
namespace K5
open PySem PySem.Spec PyProof.Rows L2
/-! ### is_outcome of an outcome -/
def spOutcome : Sp := fun vs H Q _ => ∃ (m n a b : Int) (t : Addr), vs = [.int m, .int n, .ref t] ∧ H t = some (.tup [.int a, .int b]) ∧ -2 ≤ a ∧ a < m ∧ 0 ≤ b ∧ b < n ∧ Q (.bl true) H
abbrev s_is_outcome : Stmt := topS 23
theorem sc_is_outcome : FnScope ["worths", "many", "value"] ["worths", "many", "value"] (defScope s_is_outcome) := ⟨rfl, rfl, rfl, by decide +kernel, rfl, by decide +kernel, by decide +kernel⟩
section
variable {P : Program} {w : World} {K : PySem.W.Frag} {mg : Str → Option Value} {base : Heap}
theorem ok_is_outcome {f fT fA fB fI : Addr} {fd dT dA dB dI : FuncData} (B : Bt mg) (D : Df K mg "is_outcome" s_is_outcome f fd ["worths", "many", "value"]) (DT : Df K mg "is_tuple" s_is_tuple fT dT ["value", "size"]) (DA : Df K mg "is_answer" s_is_answer fA dA ["value", "worths"]) (DB : Df K mg "is_below" s_is_below fB dB ["value", "many"]) (DI : Df K mg "is_integer" s_is_integer fI dI ["value"]) :
    FnOk P w K mg base CX0 3 f fd ["worths", "many", "value"] spOutcome := by
  have GT : FnOk P w K mg base CX0 1 fT dT ["value", "size"] spIsTuple := ok_is_tuple B DT
  have GA : FnOk P w K mg base CX0 2 fA dA ["value", "worths"] spAnswer := ok_is_answer B DA DI
  have GB : FnOk P w K mg base CX0 2 fB dB ["value", "many"] spBelow := ok_is_below B DB DI
  refine D.F.ok sc_is_outcome (fun vs H Q E h => ?_) (fun cdv A outer s H vs Q E hr h => ?_)
  · obtain ⟨m, n, a, b, t, rfl, _⟩ := h
    rfl
  · obtain ⟨m, n, a, b, t, rfl, ht, a0, a1, b0, b1, k⟩ := h
    have S := sc_is_outcome
    refine ⟨_, (pss_one (ps_ret (pe_and (pe_call GT (hr.mono (by decide)) (by rfl) DT.g DT.F.kp DT.b .nil pass0 (pa_cons (pv 2) (pa_cons pe_int pa_nil))) (pe_and (pe_call GA (hr.mono (by decide)) (by rfl) DA.g DA.F.kp DA.b .nil pass0 (pa_cons (pe_ix (r := rIxT K) ix_tup (pv 2) pe_int (fun _ _ => rfl)) (pa_cons (pv 0) pa_nil))) (pe_one (pe_call GB (hr.mono (by decide)) (by rfl) DB.g DB.F.kp DB.b .nil pass0 (pa_cons (pe_ix (r := rIxT K) ix_tup (pv 2) pe_int (fun _ _ => rfl)) (pa_cons (pv 1) pa_nil)))))))), ?_⟩
    have vx : ∀ {σ : L2.St} {j : Nat} {v : V}, σ[2]? = some (some (.ref t)) → ([V.int a, V.int b] : List V)[j]? = some v → Val (tOp (rIxT K) (tVar 2) (tC (.int (j : Nat)))) σ H v := fun hs hj => val_op (val_var hs) val_c fun Q q => ⟨t, _, _, _, rfl, rfl, SqT.of ht, atI_nat hj, q⟩
    refine (val_call (va_cons (val_var rfl) (va_cons val_c va_nil)) fun Q q => ⟨.ref t, .tuple [.int a, .int b], 2, rfl, .tup ht (.cons (.int _) (.cons (.int _) .nil)), q⟩) _ ⟨_, rfl, ?_⟩
    refine iteT ?_
    refine (val_call (va_cons (vx (j := 0) rfl rfl) (va_cons (val_var rfl) va_nil)) fun Q q => ⟨.int a, _, m, rfl, .int a, q⟩) _ ⟨_, rfl, ?_⟩
    have e1 : answerV m (.int a) = true := by
      show (decide (-2 ≤ a) && decide (a < m)) = true
      rw [decide_eq_true a0, decide_eq_true a1]
      rfl
    have e2 : belowV n (.int b) = true := by
      show (decide (0 ≤ b) && decide (b < n)) = true
      rw [decide_eq_true b0, decide_eq_true b1]
      rfl
    rw [e1]
    refine iteT ?_
    refine (val_call (va_cons (vx (j := 1) rfl rfl) (va_cons (val_var rfl) va_nil)) fun Q q => ⟨.int b, _, n, rfl, .int b, q⟩) _ ?_
    rw [e2]
    exact k
end
end K5
namespace K5
open PySem PySem.Spec PyProof.Rows L2
/-! ### is_row of a row -/
theorem truT {K : PySem.W.Frag} {H : Hp} {p : Addr} {xs : List V} (h : SqT K H p xs) : TruV K (.ref p) H (!xs.isEmpty) := .inr (.inl ⟨_, h, rfl⟩)
def spIsRow : Sp := fun vs H Q _ => ∃ (m n : Nat) (t o : Addr) (ts : List Addr) (d : Str) (w : Nat) (os : List (Int × Int)), vs = [.int m, .int n, .ref t] ∧ H t = some (.tup [.str d, .int w, .ref o]) ∧ isDoor d = true ∧ d.length ≤ 10000000 ∧ w < m ∧ H o = some (.tup (ts.map V.ref)) ∧ OsAt H ts os ∧ os.length ≤ 6 ∧ OsX m n os ∧
  ∀ H', Same H H' → Q (.bl true) H'
abbrev s_is_row : Stmt := topS 22
abbrev nmRow : List Str := ["worths", "many", "value", "door", "worth", "outcomes", "outcome", "answer", "_"]
theorem sc_is_row : FnScope nmRow ["worths", "many", "value"] (defScope s_is_row) := ⟨rfl, rfl, rfl, by decide +kernel, rfl, by decide +kernel, by decide +kernel⟩
section
variable {P : Program} {w : World} {K : PySem.W.Frag} {mg : Str → Option Value} {base : Heap}
theorem ok_is_row {f fT fA fB fI fD fN fO fS : Addr} {fd dT dA dB dI dD dN dO dS : FuncData} (B : Bt mg) (m_all : mg "all" = none) (D : Df K mg "is_row" s_is_row f fd ["worths", "many", "value"]) (DT : Df K mg "is_tuple" s_is_tuple fT dT ["value", "size"]) (DA : Df K mg "is_answer" s_is_answer fA dA ["value", "worths"]) (DB : Df K mg "is_below" s_is_below fB dB ["value", "many"]) (DI : Df K mg "is_integer" s_is_integer fI dI ["value"])
    (DD : Df K mg "is_door" s_is_door fD dD ["value"]) (DN : Df K mg "is_name" s_is_name fN dN ["value"]) (DO : Df K mg "is_outcome" s_is_outcome fO dO ["worths", "many", "value"]) (DS : Df K mg "ascends" s_ascends fS dS ["rows"]) :
    FnOk P w K mg base CX0 4 f fd ["worths", "many", "value"] spIsRow := by
  have GT : FnOk P w K mg base CX0 1 fT dT ["value", "size"] spIsTuple := ok_is_tuple B DT
  have GB : FnOk P w K mg base CX0 2 fB dB ["value", "many"] spBelow := ok_is_below B DB DI
  have GD : FnOk P w K mg base CX0 2 fD dD ["value"] spIsDoor := ok_is_door B DD DN
  have GO : FnOk P w K mg base CX0 3 fO dO ["worths", "many", "value"] spOutcome := ok_is_outcome B DO DT DA DB DI
  have GS : FnOk P w K mg base CX0 1 fS dS ["rows"] spAsc := ok_ascends B m_all DS
  refine D.F.ok sc_is_row (fun vs H Q E h => ?_) (fun cdv A outer s H vs Q E hr h => ?_)
  · obtain ⟨m, n, t, o, ts, d, w, os, rfl, _⟩ := h
    rfl
  · obtain ⟨m, n, t, o, ts, d, wd, os, rfl, ht, dd, dl, wm, ho, a, ol, ox, k⟩ := h
    have S := sc_is_row
    refine ⟨_, (pss_cons (ps_if (pt_not (pt_val (pe_call GT (hr.mono (by decide)) (by rfl) DT.g DT.F.kp DT.b .nil pass0 (pa_cons (pv 2) (pa_cons pe_int pa_nil))))) (pss_one (ps_ret pe_bl)) pss_nil)
      (pss_cons (ps_asg (pv 2) (pg_tup (by rfl) (pgs_cons (pg_name (i := 3) S.nd rfl (.inl rfl)) (pgs_cons (pg_name (i := 4) S.nd rfl (.inl rfl)) (pgs_cons (pg_name (i := 5) S.nd rfl (.inl rfl)) pgs_nil)))))
      (pss_cons (ps_if (pt_not (PW.pt (pw_and (pt_val (pe_call GD (hr.mono (by decide)) (by rfl) DD.g DD.F.kp DD.b .nil pass0 (pa_cons (pv 3) pa_nil))) (pw_and (pt_val (pe_call GB (hr.mono (by decide)) (by rfl) DB.g DB.F.kp DB.b .nil pass0 (pa_cons (pv 4) (pa_cons (pv 0) pa_nil)))) (pw_and (pt_val (pe_callB call_isi (by rfl) B.m_isinstance PyProof.Rows.boot_isinstance (pa_cons (pv 5) (pa_cons (pe_tyN bt_tuple (by rfl) B.m_tuple) pa_nil)))) (pw_and1 (pt_truth (pv 5) (by intro _; rfl)))))))) (pss_one (ps_ret pe_bl)) pss_nil)
      (pss_cons (ps_if (pt_not (pt_val (pe_callB (cr_all rfl) (by rfl) m_all (by decide +kernel) (pa_cons (pe_lc (own := [("outcome", 6)]) (g := gName 6) (tt := tYes) rfl S.nd (pi_tup (pv 5)) (blkOk_by (own := [("outcome", 6)]) (N := nmRow) (sc := defScope s_is_row) (by decide +kernel)) (fun _ _ _ _ _ => pg_name (i := 6) S.nd rfl (Or.inl rfl)) (fun _ _ _ _ _ => pts_nil)
          (fun _ _ _ _ _ => pe_call GO (hr.mono (by decide)) (by rfl) DO.g DO.F.kp DO.b .nil pass0 (pa_cons (pv 0) (pa_cons (pv 1) (pa_cons (pv 6) pa_nil))))) pa_nil)))) (pss_one (ps_ret pe_bl)) pss_nil)
      (pss_one (ps_ret (pe_call GS (hr.mono (by decide)) (by rfl) DS.g DS.F.kp DS.b .nil pass0 (pa_cons (pe_lc (own := [("answer", 7), ("_", 8)]) (g := gTup K 2 (gCons (gName 7) (gCons (gName 8) gNil))) (tt := tYes) rfl S.nd (pi_tup (pv 5)) (blkOk_by (own := [("answer", 7), ("_", 8)]) (N := nmRow) (sc := defScope s_is_row) (by decide +kernel))
          (fun _ _ _ _ _ => pg_tup (by rfl) (pgs_cons (pg_name (i := 7) S.nd rfl (Or.inl rfl)) (pgs_cons (pg_name (i := 8) S.nd rfl (Or.inl rfl)) pgs_nil))) (fun _ _ _ _ _ => pts_nil) (fun _ _ _ _ _ => pv 7)) pa_nil)))))))), ?_⟩
    have dqO : Dq H (.ref o) (.tuple (os.map fun q => .tuple [.int q.1, .int q.2])) := .tup ho (dq_pairs a)
    dsimp only [tSeq, tIfS, tNot, tB]
    refine (val_call (va_cons (val_var rfl) (va_cons val_c va_nil)) fun Q q => ⟨.ref t, .tuple [.str d, .int wd, .tuple (os.map fun q => .tuple [.int q.1, .int q.2])], 3, rfl, .tup ht (.cons (.str _) (.cons (.int _) (.cons dqO .nil))), q⟩) _ ⟨_, rfl, ?_⟩
    refine iteF ?_
    dsimp only [tNext, tSeq, tAsg]
    refine (val_var rfl) _ ?_
    refine ⟨t, _, rfl, SqT.of ht, rfl, _, _, rfl, _, _, rfl, _, _, rfl, rfl, ?_⟩
    try dsimp only [gName, List.set]
    dsimp only [tSeq, tIfS, tNot, tAnd, tB]
    have e2 : belowV m (.int wd) = true := by
      show (decide ((0 : Int) ≤ (wd : Int)) && decide ((wd : Int) < (m : Int))) = true
      rw [decide_eq_true (by omega), decide_eq_true (by omega)]
      rfl
    refine (val_call (va_cons (val_var rfl) va_nil) fun Q q => ⟨d, rfl, dl, q⟩) _ ⟨_, rfl, ?_⟩
    rw [dd]
    refine iteT ?_
    refine (val_call (va_cons (val_var rfl) (va_cons (val_var rfl) va_nil)) fun Q q => ⟨.int wd, _, m, rfl, .int _, q⟩) _ ⟨_, rfl, ?_⟩
    rw [e2]
    refine iteT ?_
    refine (val_isi (val_var rfl) (Kd.tup ho) kit_tuple.2.2.2.2.2.1) _ ⟨_, rfl, ?_⟩
    refine iteT ?_
    have ne : (!(ts.map V.ref).isEmpty) = true := by
      cases ts with
      | nil =>
        have h1 := a.len
        have h2 := ox.1
        rw [← h1] at h2
        exact absurd h2 (by decide)
      | cons => rfl
    refine (val_var (v := .ref o) rfl) _ ⟨_, truT (SqT.of ho), ?_⟩
    rw [ne]
    refine iteF ?_
    dsimp only [tNext, tSeq, tIfS, tNot, tB, tCB, tCons, tNil, tLc, iTup]
    refine (val_var rfl) _ ⟨o, rfl, ⟨_, SqT.of ho⟩, fun M nM => ?_⟩
    have tl := a.len
    refine lc_tup (xs := ts.map V.ref) (fun j H2 => Same H H2 ∧ H2 M = some (.lst ((List.replicate j true).map V.bl))) ⟨same_upd nM, upd_same⟩ (fun j H2 _ ⟨s2, _⟩ => SqT.of (s2 _ _ ho)) (fun j x H2 hj hI => ?_) fun H2 hI => ?_
    · obtain ⟨s2, hM⟩ := hI
      obtain ⟨t', et, rfl⟩ : ∃ t, ts[j]? = some t ∧ x = .ref t := by
        rw [List.getElem?_map] at hj
        cases e : ts[j]? with
        | none => rw [e] at hj; cases hj
        | some i => rw [e] at hj; exact ⟨i, rfl, (Option.some.inj hj).symm⟩
      obtain ⟨q0, eq, hq⟩ := paired_at j a et
      have jlt := (List.getElem?_eq_some_iff.mp eq).1
      have qb := ox.2.2 q0 (List.mem_of_getElem? eq)
      refine ⟨rfl, ?_⟩
      dsimp only [tYes]
      rw [if_pos rfl]
      refine (val_call (va_cons (val_var rfl) (va_cons (val_var rfl) (va_cons (val_var rfl) va_nil))) fun Q q => ⟨m, n, q0.1, q0.2, t', rfl, s2 _ _ hq, qb.1, qb.2.1, qb.2.2.1, qb.2.2.2, q⟩) _ ?_
      refine ⟨_, hM, by rw [List.length_map, List.length_replicate]; exact Nat.lt_of_lt_of_le (show j < 100 by omega) (by decide), fun b o e => ?_, ?_⟩
      · rw [upd_ne (ne_of_none e nM)]
        exact s2 _ _ e
      · rw [upd_same, List.replicate_succ', List.map_append]
        rfl
    · obtain ⟨s2, hM⟩ := hI
      have al : ∀ n : Nat, (List.replicate n true).all id = true := fun n => by
        rw [List.all_eq_true]
        intro b hb
        rw [(List.mem_replicate.mp hb).2]
        rfl
      refine ⟨M, _, rfl, SqL.of hM, ?_⟩
      rw [al]
      refine ⟨true, rfl, iteF ?_⟩
      dsimp only [tNext, tRet, tCall, tCons, tNil, tLc, iTup]
      refine (val_var rfl) _ ⟨o, rfl, ⟨_, SqT.of (s2 _ _ ho)⟩, fun N nN => ?_⟩
      refine lc_tup (xs := ts.map V.ref) (fun j H3 => Same H2 H3 ∧ H3 N = some (.lst ((os.take j).map fun q => V.int q.1))) ⟨same_upd nN, upd_same⟩ (fun j H3 _ ⟨s3, _⟩ => SqT.of (s3 _ _ (s2 _ _ ho))) (fun j x H3 hj hI => ?_) fun H3 hI => ?_
      · obtain ⟨s3, hN⟩ := hI
        obtain ⟨t', et, rfl⟩ : ∃ t, ts[j]? = some t ∧ x = .ref t := by
          rw [List.getElem?_map] at hj
          cases e : ts[j]? with
          | none => rw [e] at hj; cases hj
          | some i => rw [e] at hj; exact ⟨i, rfl, (Option.some.inj hj).symm⟩
        obtain ⟨q0, eq, hq⟩ := paired_at j a et
        have jlt := (List.getElem?_eq_some_iff.mp eq).1
        refine ⟨t', _, rfl, SqT.of (s3 _ _ (s2 _ _ hq)), rfl, _, _, rfl, _, _, rfl, rfl, ?_⟩
        refine ⟨rfl, ?_⟩
        dsimp only [tYes]
        rw [if_pos rfl]
        refine (val_var rfl) _ ⟨_, hN, by rw [List.length_map, List.length_take]; exact Nat.lt_of_lt_of_le (show min j os.length < 100 by omega) (by decide), fun b o e => ?_, ?_⟩
        · rw [upd_ne (ne_of_none e nN)]
          exact s3 _ _ e
        · rw [upd_same, List.take_add_one, eq, List.map_append]
          rfl
      · obtain ⟨s3, hN⟩ := hI
        rw [List.length_map, tl, List.take_length] at hN
        have dqa : ∀ l : List (Int × Int), DqA H3 (l.map fun q => V.int q.1) (l.map fun q => PyData.int q.1) := fun l => by
          induction l with
          | nil => exact .nil
          | cons q r ih => exact .cons (.int _) ih
        refine ⟨N, _, os.map fun q => PyData.int q.1, rfl, hN, dqa os, ?_, by rw [List.length_map]; omega, fun H' s' => k H' ((s2.trans s3).trans s')⟩
        refine List.pairwise_map.mpr ((List.pairwise_map.mp ox.2.1).imp fun {a b} h => ⟨by simp [PySem.W.alike], (fun e => by cases e), by simp [PyData.depth], by rw [PySem.W.dataLt_int]; exact decide_eq_true h⟩)
end
end K5
namespace K5
open PySem PySem.Spec PyProof.Rows L2
/-! ### is_state of a state -/
def spIsState : Sp := fun vs H Q _ => ∃ (m n : Nat) (p : Addr) (rs : List RwD), vs = [.int m, .int n, .ref p] ∧ StD H p rs ∧ StX m n rs ∧ (∀ r ∈ rs, RowOk r) ∧ rs.length ≤ 12 ∧ ∀ H', Same H H' → Q (.bl true) H'
abbrev s_is_state : Stmt := topS 21
abbrev nmState : List Str := ["worths", "many", "value", "row"]
theorem sc_is_state : FnScope nmState ["worths", "many", "value"] (defScope s_is_state) := ⟨rfl, rfl, rfl, by decide +kernel, rfl, by decide +kernel, by decide +kernel⟩
theorem pool_len : ∀ z ∈ poolD, z.length ≤ 10000000 := fun z hz => Nat.le_trans (tz_pool z hz).l (by decide)
theorem all_true : ∀ n : Nat, (List.replicate n true).all id = true := fun n => by
  rw [List.all_eq_true]
  intro b hb
  rw [(List.mem_replicate.mp hb).2]
  rfl
theorem OuAt.same {H H' : Hp} (s : Same H H') {o : Addr} {os : List (Int × Int)} (h : OuAt H o os) : OuAt H' o os := h.mono (TKeep.same s)
section
variable {P : Program} {w : World} {K : PySem.W.Frag} {mg : Str → Option Value} {base : Heap}
theorem ok_is_state {f fR fS : Addr} {fd dR dS : FuncData} (B : Bt mg) (m_all : mg "all" = none) (D : Df K mg "is_state" s_is_state f fd ["worths", "many", "value"]) (DR : Df K mg "is_row" s_is_row fR dR ["worths", "many", "value"]) (GR : FnOk P w K mg base CX0 4 fR dR ["worths", "many", "value"] spIsRow) (DS : Df K mg "ascends" s_ascends fS dS ["rows"]) :
    FnOk P w K mg base CX0 5 f fd ["worths", "many", "value"] spIsState := by
  have GS : FnOk P w K mg base CX0 1 fS dS ["rows"] spAsc := ok_ascends B m_all DS
  refine D.F.ok sc_is_state (fun vs H Q E h => ?_) (fun cdv A outer s H vs Q E hr h => ?_)
  · obtain ⟨m, n, p, rs, rfl, _⟩ := h
    rfl
  · obtain ⟨m, n, p, rs, rfl, hp, hx, ok, few, k⟩ := h
    obtain ⟨ts, h1, h2⟩ := hp
    have S := sc_is_state
    refine ⟨_, (pss_cons (ps_if (PW.pt (pw_or (pt_not (pt_val (pe_callB call_isi (by rfl) B.m_isinstance PyProof.Rows.boot_isinstance (pa_cons (pv 2) (pa_cons (pe_tyN bt_tuple (by rfl) B.m_tuple) pa_nil))))) (pw_or1 (pt_not (pt_val (pe_callB (cr_all rfl) (by rfl) m_all (by decide +kernel) (pa_cons (pe_lc (own := [("row", 3)]) (g := gName 3) (tt := tYes) rfl S.nd (pi_tup (pv 2)) (blkOk_by (own := [("row", 3)]) (N := nmState) (sc := defScope s_is_state) (by decide +kernel)) (fun _ _ _ _ _ => pg_name (i := 3) S.nd rfl (Or.inl rfl)) (fun _ _ _ _ _ => pts_nil)
        (fun _ _ _ _ _ => pe_call GR (hr.mono (by decide)) (by rfl) DR.g DR.F.kp DR.b .nil pass0 (pa_cons (pv 0) (pa_cons (pv 1) (pa_cons (pv 3) pa_nil))))) pa_nil))))))) (pss_one (ps_ret pe_bl)) pss_nil)
      (pss_one (ps_ret (pe_call GS (hr.mono (by decide)) (by rfl) DS.g DS.F.kp DS.b .nil pass0 (pa_cons (pe_lc (own := [("row", 3)]) (g := gName 3) (tt := tYes) rfl S.nd (pi_tup (pv 2)) (blkOk_by (own := [("row", 3)]) (N := nmState) (sc := defScope s_is_state) (by decide +kernel))
        (fun _ _ _ _ _ => pg_name (i := 3) S.nd rfl (Or.inl rfl)) (fun _ _ _ _ _ => pts_nil) (fun _ _ _ _ _ => pe_slice (r := rSlT K) sl_tup (pv 3) po_none (po_some pe_int))) pa_nil))))), ?_⟩
    have tl : ts.length = rs.length := Paired.length h2
    dsimp only [tSeq, tIfS, tOr, tNot, tB]
    refine (val_isi (val_var rfl) (Kd.tup h1) kit_tuple.2.2.2.2.2.1) _ ⟨_, rfl, ?_⟩
    refine iteF ?_
    dsimp only [tCB, tCons, tNil, tLc, iTup]
    refine (val_var rfl) _ ⟨p, rfl, ⟨_, SqT.of h1⟩, fun M nM => ?_⟩
    refine lc_tup (xs := ts.map V.ref) (fun j H2 => Same H H2 ∧ H2 M = some (.lst ((List.replicate j true).map V.bl))) ⟨same_upd nM, upd_same⟩ (fun j H2 _ ⟨s2, _⟩ => SqT.of (s2 _ _ h1)) (fun j x H2 hj hI => ?_) fun H2 hI => ?_
    · obtain ⟨s2, hM⟩ := hI
      obtain ⟨t', et, rfl⟩ : ∃ t, ts[j]? = some t ∧ x = .ref t := by
        rw [List.getElem?_map] at hj
        cases e : ts[j]? with
        | none => rw [e] at hj; cases hj
        | some i => rw [e] at hj; exact ⟨i, rfl, (Option.some.inj hj).symm⟩
      obtain ⟨r0, eq, hq⟩ := paired_at j h2 et
      have jlt := (List.getElem?_eq_some_iff.mp eq).1
      have mem := List.mem_of_getElem? eq
      obtain ⟨xw, xo⟩ := hx.2 r0 mem
      obtain ⟨od, ow, oo⟩ := ok r0 mem
      obtain ⟨o, q1, us, q2, q3⟩ := hq
      refine ⟨rfl, ?_⟩
      dsimp only [tYes]
      rw [if_pos rfl]
      refine (va_cons (val_var rfl) (va_cons (val_var rfl) (va_cons (val_var rfl) va_nil))) _ ⟨m, n, t', o, us, r0.1.1, r0.1.2, r0.2, rfl, s2 _ _ q1, (pool_wd _ od).2, pool_len _ od, xw, s2 _ _ q2, Paired.mapP q3 fun _ _ e => s2 _ _ e, oo.1, xo, fun H3 s3 => ?_⟩
      have hM3 := s3 _ _ hM
      refine ⟨_, hM3, by rw [List.length_map, List.length_replicate]; exact Nat.lt_of_lt_of_le (show j < 100 by omega) (by decide), fun b o e => ?_, ?_⟩
      · rw [upd_ne (ne_of_none e nM)]
        exact s3 _ _ (s2 _ _ e)
      · rw [upd_same, List.replicate_succ', List.map_append]
        rfl
    · obtain ⟨s2, hM⟩ := hI
      refine ⟨M, _, rfl, SqL.of hM, ?_⟩
      rw [all_true]
      refine ⟨true, rfl, ?_⟩
      refine iteF ?_
      dsimp only [tNext, tRet, tCall, tCons, tNil, tLc, iTup]
      refine (val_var rfl) _ ⟨p, rfl, ⟨_, SqT.of (s2 _ _ h1)⟩, fun N nN => ?_⟩
      refine lc_tup (xs := ts.map V.ref) (fun j H3 => ∃ us : List Addr, Same H2 H3 ∧ H3 N = some (.lst (us.map V.ref)) ∧ Paired (fun (u : Addr) (r : RwD) => H3 u = some (.tup [.str r.1.1, .int r.1.2])) us (rs.take j)) ⟨[], same_upd nN, upd_same, .nil⟩ (fun j H3 _ ⟨us, s3, _⟩ => SqT.of (s3 _ _ (s2 _ _ h1))) (fun j x H3 hj hI => ?_) fun H3 hI => ?_
      · obtain ⟨us, s3, hN, pu⟩ := hI
        obtain ⟨t', et, rfl⟩ : ∃ t, ts[j]? = some t ∧ x = .ref t := by
          rw [List.getElem?_map] at hj
          cases e : ts[j]? with
          | none => rw [e] at hj; cases hj
          | some i => rw [e] at hj; exact ⟨i, rfl, (Option.some.inj hj).symm⟩
        obtain ⟨r0, eq, hq⟩ := paired_at j h2 et
        have jlt := (List.getElem?_eq_some_iff.mp eq).1
        obtain ⟨o, q1, _⟩ := hq
        refine ⟨rfl, ?_⟩
        dsimp only [tYes]
        rw [if_pos rfl]
        dsimp only [tSl, tNoPart, tPart]
        refine (val_var rfl) _ ?_
        refine val_c _ ⟨2, rfl, ?_⟩
        refine ⟨t', _, rfl, SqT.of (s3 _ _ (s2 _ _ q1)), (fun e => absurd e.2 (show ¬ (HT.sIx 3 3 (some 2) = 3) by decide)), fun u nu => ?_⟩
        have s4 := same_upd (o := .tup (cutV [V.str r0.1.1, V.int r0.1.2, V.ref o] none (some 2))) nu
        have hN4 := s4 _ _ hN
        have ul := Paired.length pu
        have uN : u ≠ N := fun e => by rw [e, hN] at nu; cases nu
        refine ⟨us.map V.ref, hN4, by rw [List.length_map, ul, List.length_take]; exact Nat.lt_of_lt_of_le (show min j rs.length < 100 by omega) (by decide), us ++ [u], fun b o e => ?_, ?_, ?_⟩
        · rw [upd_ne (ne_of_none e nN)]
          exact s4 _ _ (s3 _ _ e)
        · rw [upd_same, List.map_append]
          rfl
        · rw [List.take_add_one, eq]
          have nb : ∀ v xs, H3 v = some (.tup xs) → v ≠ N := fun v xs e c => by rw [c, hN] at e; cases e
          refine paired_app (Paired.mapP pu fun v r e => ?_) ?_
          · rw [upd_ne (nb _ _ e)]
            exact s4 _ _ e
          · rw [upd_ne uN, upd_same]
            rfl
      · obtain ⟨us, s3, hN, pu⟩ := hI
        rw [List.length_map, tl, List.take_length] at pu
        have dqa : ∀ {us : List Addr} {l : List RwD}, Paired (fun (u : Addr) (r : RwD) => H3 u = some (.tup [.str r.1.1, .int r.1.2])) us l → DqA H3 (us.map V.ref) (l.map fun r => encK (keyR r)) := fun h => by
          induction h with
          | nil => exact .nil
          | cons e _ ih => exact .cons (.tup e (.cons (.str _) (.cons (.int _) .nil))) ih
        have ul := Paired.length pu
        refine ⟨N, _, rs.map fun r => encK (keyR r), rfl, hN, dqa pu, ?_, by rw [List.length_map, ul]; omega, fun H' s' => k H' ((s2.trans s3).trans s')⟩
        have ka := keys_asc hx
        refine List.pairwise_map.mpr ((List.pairwise_map.mp ka).imp fun {a b} h => ⟨by simp [encK, PySem.W.alike, PySem.W.alikeAll], (fun e => by cases e), by simp [encK, PyData.depth, PyData.depthAll], klt_data h⟩)
end
end K5
namespace K5
open PySem PySem.Spec PyProof.Rows L2
/-! ### is_pact of a pact -/
def spIsPact : Sp := fun vs H Q _ => ∃ (m : Nat) (p : Addr) (ps : List Addr) (sts : List (List RwD)), vs = [.int m, .ref p] ∧ 2 ≤ m ∧ m ≤ 4 ∧ H p = some (.tup (ps.map V.ref)) ∧ Paired (StD H) ps sts ∧ (∀ s ∈ sts, StX m sts.length s ∧ s.length ≤ 12 ∧ ∀ r ∈ s, RowOk r) ∧ 0 < sts.length ∧ sts.length ≤ 4 ∧ ∀ H', Same H H' → Q (.bl true) H'
abbrev s_is_pact : Stmt := topS 20
abbrev nmIsPact : List Str := ["worths", "value", "state"]
theorem sc_is_pact : FnScope nmIsPact ["worths", "value"] (defScope s_is_pact) := ⟨rfl, rfl, rfl, by decide +kernel, rfl, by decide +kernel, by decide +kernel⟩
section
variable {P : Program} {w : World} {K : PySem.W.Frag} {mg : Str → Option Value} {base : Heap} {CW fE fW fS : Addr} {dE dW dS : FuncData}
theorem ok_is_pact {f : Addr} {fd : FuncData} (B : Bt mg) (m_all : mg "all" = none) (G : Mg mg) (TW : Er K mg "BadWorths" CW fE) (GE : FnOk P w K mg base CX0 1 fE dE ["self", "value"] (spErr K)) (bE : Binds K dE ["self", "value"] [])
    (Dw : Df K mg "is_worths" s_is_worths fW dW ["value"]) (Gw : FnOk P w K mg base CX0 2 fW dW ["value"] spIsWorths) (DS : Df K mg "is_state" s_is_state fS dS ["worths", "many", "value"]) (GS : FnOk P w K mg base CX0 5 fS dS ["worths", "many", "value"] spIsState)
    (D : Df K mg "is_pact" s_is_pact f fd ["worths", "value"]) : FnOk P w K mg base (L2.CX P w) 7 f fd ["worths", "value"] spIsPact := by
  refine D.F.okX sc_is_pact (fun vs H Q E h => ?_) (fun cdv A0 outer s H vs Q E hr h => ?_)
  · obtain ⟨m, p, ps, sts, rfl, _⟩ := h
    rfl
  · obtain ⟨m, p, ps, sts, rfl, m2, m4, hp, pp, ok, l0, l4, k⟩ := h
    have S := sc_is_pact
    obtain ⟨tm, gM⟩ := G.m
    refine ⟨_, (pss_cons (ps_if (pt_not (pt_val (pe_call Gw (hr.mono (by decide)) (by rfl) Dw.g Dw.F.kp Dw.b .nil pass0 (pa_cons (pv 0) pa_nil))))
        (pss_one (ps_raise rfl (takes_of rfl rfl rfl rfl) (pmk_oex TW.O TW.iC TW.tI GE (hr.mono (by decide)) bE .nil pass0 (by rfl) TW.g (pa_cons (pv 0) pa_nil))))
        pss_nil)
      (pss_cons (ps_if (PW.pt (pw_or (pt_not (pt_val (pe_callB call_isi (by rfl) B.m_isinstance PyProof.Rows.boot_isinstance (pa_cons (pv 1) (pa_cons (pe_tyN bt_tuple (by rfl) B.m_tuple) pa_nil))))) (pw_or1 (pt_not (pt_chain op_le op_le pe_int (pe_callB (r := rLenSq K) call_len_seq (by rfl) B.m_len PySem.boot_len (pa_cons (pv 1) pa_nil)) (pe_glob (v := .int 400) (by rfl) gM ⟨_, rfl⟩)))))) (pss_one (ps_ret pe_bl)) pss_nil)
      (pss_one (ps_ret (pe_callB (cr_all rfl) (by rfl) m_all (by decide +kernel) (pa_cons (pe_lc (own := [("state", 2)]) (g := gName 2) (tt := tYes) rfl S.nd (pi_tup (pv 1)) (blkOk_by (own := [("state", 2)]) (N := nmIsPact) (sc := defScope s_is_pact) (by decide +kernel)) (fun _ _ _ _ _ => pg_name (i := 2) S.nd rfl (Or.inl rfl)) (fun _ _ _ _ _ => pts_nil)
        (fun _ _ _ _ _ => pe_call GS (hr.mono (by decide)) (by rfl) DS.g DS.F.kp DS.b .nil pass0 (pa_cons (pv 0) (pa_cons (pe_callB (r := rLenSq K) call_len_seq (by rfl) B.m_len PySem.boot_len (pa_cons (pv 1) pa_nil)) (pa_cons (pv 2) pa_nil))))) pa_nil)))))), ?_⟩
    have pl : ps.length = sts.length := Paired.length pp
    have hw : worthsOk (.int (m : Nat)) = true := by
      show (decide ((2 : Int) ≤ (m : Int)) && decide ((m : Int) ≤ 4)) = true
      rw [decide_eq_true (by omega), decide_eq_true (by omega)]
      rfl
    dsimp only [tSeq, tIfS, tNot, tB]
    refine (val_call (va_cons (val_var rfl) va_nil) fun Q q => ⟨.int m, _, rfl, .int _, q⟩) _ ⟨_, rfl, ?_⟩
    rw [hw]
    refine iteF ?_
    dsimp only [tNext, tSeq, tIfS, tOr, tNot, tB]
    refine (val_isi (val_var rfl) (Kd.tup hp) kit_tuple.2.2.2.2.2.1) _ ⟨_, rfl, ?_⟩
    refine iteF ?_
    refine (val_chain val_c (val_lenT (val_var rfl) (SqT.of hp)) val_c) _ ⟨_, rfl, ?_⟩
    rw [List.length_map, pl, decide_eq_true (show (1 : Int) ≤ (sts.length : Nat) by omega), decide_eq_true (show ((sts.length : Nat) : Int) ≤ 400 by omega)]
    refine iteF ?_
    dsimp only [tNext, tRet, tCB, tCons, tNil, tLc, iTup]
    refine (val_var rfl) _ ⟨p, rfl, ⟨_, SqT.of hp⟩, fun M nM => ?_⟩
    refine lc_tup (xs := ps.map V.ref) (fun j H2 => Same H H2 ∧ H2 M = some (.lst ((List.replicate j true).map V.bl))) ⟨same_upd nM, upd_same⟩ (fun j H2 _ ⟨s2, _⟩ => SqT.of (s2 _ _ hp)) (fun j x H2 hj hI => ?_) fun H2 hI => ?_
    · obtain ⟨s2, hM⟩ := hI
      obtain ⟨t', et, rfl⟩ : ∃ t, ps[j]? = some t ∧ x = .ref t := by
        rw [List.getElem?_map] at hj
        cases e : ps[j]? with
        | none => rw [e] at hj; cases hj
        | some i => rw [e] at hj; exact ⟨i, rfl, (Option.some.inj hj).symm⟩
      obtain ⟨rs, eq, hq⟩ := paired_at j pp et
      have jlt := (List.getElem?_eq_some_iff.mp eq).1
      obtain ⟨o1, o2, o3⟩ := ok rs (List.mem_of_getElem? eq)
      refine ⟨rfl, ?_⟩
      dsimp only [tYes]
      rw [if_pos rfl]
      refine (va_cons (val_var rfl) (va_cons (val_lenT (val_var rfl) (SqT.of (s2 _ _ hp))) (va_cons (val_var rfl) va_nil))) _ ⟨m, sts.length, t', rs, by rw [List.length_map, pl]; all_goals rfl, hq.mono (TKeep.same s2), o1, o3, o2, fun H3 s3 => ?_⟩
      have hM3 := s3 _ _ hM
      refine ⟨_, hM3, by rw [List.length_map, List.length_replicate]; exact Nat.lt_of_lt_of_le (show j < 100 by omega) (by decide), fun b o e => ?_, ?_⟩
      · rw [upd_ne (ne_of_none e nM)]
        exact s3 _ _ (s2 _ _ e)
      · rw [upd_same, List.replicate_succ', List.map_append]
        rfl
    · obtain ⟨s2, hM⟩ := hI
      refine ⟨M, _, rfl, SqL.of hM, ?_⟩
      rw [all_true]
      exact k H2 s2
end
end K5
namespace K5
open PySem PySem.Spec PyProof.Rows L2
/-! ### _law_wild_text -/
theorem wlines_snoc (s : List WRow) : ∀ (l : List (List WRow)) (k : Nat), wlines k (l ++ [s]) = wlines k l ++ (stateRow (k + l.length) :: s.map wrowT)
  | [], k => by
    show stateRow k :: (s.map wrowT ++ []) = [] ++ (stateRow (k + 0) :: s.map wrowT)
    rw [List.append_nil]
    rfl
  | x :: l, k => by
    show stateRow k :: (x.map wrowT ++ wlines (k + 1) (l ++ [s])) = stateRow k :: (x.map wrowT ++ wlines (k + 1) l) ++ (stateRow (k + (l.length + 1)) :: s.map wrowT)
    rw [wlines_snoc s l (k + 1), show k + 1 + l.length = k + (l.length + 1) by omega, List.cons_append, List.append_assoc]
/-- a wild state: its rows as texts, in a new list -/
structure WSt (m w : Nat) (rs : List RwD) (W : List WRow) : Prop where
  ok : ∀ r ∈ W, WOk m w r
  c : Canon (W.flatMap (wAcc m w)) rs
  l : W.length ≤ 12
  t : ∀ r ∈ W, Tz 66 (wrowT r)
def spWildS : Sp := fun vs H Q _ => ∃ (b t : Addr) (m w : Nat) (rs : List RwD) (p q n : Int), vs = [.ref b, .int m, .ref t] ∧ H b = some (.lst (bx p q n)) ∧ Box p q n ∧ n + 200 < 1000000 ∧ 2 ≤ m ∧ m ≤ 4 ∧ 1 ≤ w ∧ w ≤ 4 ∧ StD H t rs ∧ StX m w rs ∧ (∀ r ∈ rs, RowOk r) ∧ rs.length ≤ 12 ∧
  ∀ (H' : Hp) (l : Addr) (W : List WRow) (p' n' : Int), SameBut b H H' → l ≠ b → H' l = some (.lst ((W.map wrowT).map V.str)) → WSt m w rs W → H' b = some (.lst (bx p' q n')) → Box p' q n' → n' ≤ n + 200 → Q (.ref l) H'
def spWildT : Sp := fun vs H Q _ => ∃ (b r : Addr) (m : Nat) (ps : List Addr) (sts : List (List RwD)) (p q n : Int), vs = [.ref b, .int m, .ref r] ∧ H b = some (.lst (bx p q n)) ∧ Box p q n ∧ n + 1000 < 1000000 ∧ 2 ≤ m ∧ m ≤ 4 ∧ H r = some (.tup (ps.map V.ref)) ∧ Paired (StD H) ps sts ∧ (∀ s ∈ sts, StX m sts.length s ∧ s.length ≤ 12 ∧ ∀ r ∈ s, RowOk r) ∧ 0 < sts.length ∧ sts.length ≤ 4 ∧
  ∀ (H' : Hp) (z : Str) (ss : List (List WRow)) (p' n' : Int), SameBut b H H' → Pg 3500 52 z → z = Str.join "\n" (wlines 0 ss) → Paired (fun rs W => WSt m sts.length rs W) sts ss → H' b = some (.lst (bx p' q n')) → Box p' q n' → n' ≤ n + 800 → Q (.str z) H'
abbrev s__law_wild_text : Stmt := topS 48
abbrev nmWT : List Str := ["_law_box_here", "_law_worths", "_law_pact_here", "_law_lines", "_law_number", "_law_state"]
theorem sc__law_wild_text : FnScope nmWT ["_law_box_here", "_law_worths", "_law_pact_here"] (defScope s__law_wild_text) := ⟨rfl, rfl, rfl, by decide +kernel, rfl, by decide +kernel, by decide +kernel⟩
structure WK (H : Hp) (b r : Addr) (ps : List Addr) (sts : List (List RwD)) (m : Nat) (q : Int) (n0 : Int) (H' : Hp) (L : Addr) (i : Nat) (ss : List (List WRow)) (p n : Int) : Prop where
  sb : SameBut b H H'
  hL : H' L = some (.lst ((wlines 0 ss).map V.str))
  bL : L ≠ b
  pr : Paired (fun rs W => WSt m sts.length rs W) (sts.take i) ss
  sl : ss.length = i
  few : (wlines 0 ss).length ≤ 13 * i
  tz : ∀ z ∈ wlines 0 ss, Tz 66 z
  hb : H' b = some (.lst (bx p q n))
  bo : Box p q n
  le : n ≤ n0 + 200 * i
section
variable {P : Program} {w : World} {K : PySem.W.Frag} {mg : Str → Option Value} {base : Heap}
theorem ok_wild_text {f fS : Addr} {fd dS : FuncData} {kS : Nat} (B : Bt mg) (me : mg "enumerate" = none) (D : Df K mg "_law_wild_text" s__law_wild_text f fd ["_law_box_here", "_law_worths", "_law_pact_here"]) (DS : Df K mg "_law_wild_state" (topS 47) fS dS ["_law_box_here", "_law_worths", "_law_state"]) (GS : FnOk P w K mg base CX0 4 fS dS ["_law_box_here", "_law_worths", "_law_state"] spWildS) :
    FnOk P w K mg base CX0 5 f fd ["_law_box_here", "_law_worths", "_law_pact_here"] spWildT := by
  refine D.F.ok sc__law_wild_text (fun vs H Q E h => ?_) (fun cdv A outer s H vs Q E hr h => ?_)
  · obtain ⟨b, r, m, ps, sts, p, q, n, rfl, _⟩ := h
    rfl
  · obtain ⟨b, r, m, ps, sts, p, q, n, rfl, hb, Bx, hn, m2, m4, hr0, pp, ok, l0, l4, k⟩ := h
    have S := sc__law_wild_text
    refine ⟨_, (pss_cons (ps_set (i := 3) S.nd rfl (.inl rfl) (pe_lst pa_nil))
      (pss_cons (ps_for PassesOwn.never rfl (pi_enumT (by rfl) me (pa_cons (pv 2) pa_nil)) (pg_tup (by rfl) (pgs_cons (pg_name (i := 4) S.nd rfl (.inl rfl)) (pgs_cons (pg_name (i := 5) S.nd rfl (.inl rfl)) pgs_nil)))
        (pss_one (ps_set (i := 3) S.nd rfl (.inl rfl) (pe_op op_cat (pe_op op_cat (pv 3) (pe_lst (pa_cons (pe_op op_add_str pe_str (pe_callTy call_str_int (by rfl) B.m_str (by decide +kernel) (pa_cons (pv 4) pa_nil))) pa_nil))) (pe_call GS (hr.mono (by decide)) (by rfl) DS.g DS.F.kp DS.b .nil pass0 (pa_cons (pv 0) (pa_cons (pv 1) (pa_cons (pv 5) pa_nil))))))))
      (pss_one (ps_ret (pe_bm PySem.F.plainAttrs_str PySem.F.slot_str_join PySem.F.type_str_join mt_join pe_str (pa_cons (pv 3) pa_nil)))))), ?_⟩
    refine asg_seq ?_
    refine ⟨Nat.zero_le _, fun L0 nL => ?_⟩
    have wk0 : WK H b r ps sts m q n (upd H L0 (.lst [])) L0 0 [] p n := ⟨SameBut.of_same (same_upd nL), upd_same, (fun e => by rw [e, hb] at nL; cases nL), .nil, rfl, Nat.le_refl _, fun _ h => (nomatch h), same_upd nL _ _ hb, Bx, by omega⟩
    generalize (upd H L0 (.lst [])) = H1 at wk0 ⊢
    have pl : ps.length = sts.length := Paired.length pp
    have rb : r ≠ b := fun e => by rw [e, hb] at hr0; cases hr0
    refine (val_var rfl) _ ⟨r, _, rfl, SqT.of (wk0.sb _ _ rb hr0), ?_⟩
    show ∃ W : Nat → Nat → L2.St → Hp → Prop, _
    refine for_enumT (K := K) (a := r) (xs := ps.map V.ref) (fun i σ H' => ∃ (u4 u5 : Option V) (L : Addr) (ss : List (List WRow)) (p' n' : Int), σ = [some (.ref b), some (.int m), some (.ref r), some (.ref L), u4, u5] ∧ WK H b r ps sts m q n H' L i ss p' n') ?_ ?_ ?_ ?_
    · exact ⟨none, none, L0, [], p, n, rfl, wk0⟩
    · rintro i σ H9 _ ⟨_, _, L, ss, p', n', rfl, wk⟩
      exact SqT.of (wk.sb _ _ rb hr0)
    · rintro i x T σ H9 ex ⟨u4, u5, L, ss, p9, n9, rfl, wk⟩ nT
      obtain ⟨st, et, rfl⟩ : ∃ t, ps[i]? = some t ∧ x = .ref t := by
        rw [List.getElem?_map] at ex
        cases e : ps[i]? with
        | none => rw [e] at ex; cases ex
        | some i => rw [e] at ex; exact ⟨i, rfl, (Option.some.inj ex).symm⟩
      obtain ⟨rs, ers, hst⟩ := paired_at i pp et
      have ilt := (List.getElem?_eq_some_iff.mp ers).1
      obtain ⟨o1, o2, o3⟩ := ok rs (List.mem_of_getElem? ers)
      have sT := same_upd (o := .tup [.int (i : Nat), .ref st]) nT
      have hT : (upd H9 T (.tup [.int (i : Nat), .ref st])) T = some (.tup [.int (i : Nat), .ref st]) := upd_same
      have hL1 := sT _ _ wk.hL
      have hb1 := sT _ _ wk.hb
      have sb1 := wk.sb.trans (SameBut.of_same sT)
      generalize (upd H9 T (.tup [.int (i : Nat), .ref st])) = H10 at sT hT hL1 hb1 sb1 ⊢
      refine ⟨T, _, rfl, SqT.of hT, rfl, _, _, rfl, _, _, rfl, rfl, ?_⟩
      try dsimp only [gName, List.set]
      have tn : Tz 7 (("state " : Str) ++ toString ((i : Nat) : Int)) := (tz_of (n := 6) (by decide +kernel)).add (tz_num (by omega) (by omega))
      dsimp only [tAsg, tOp, tLst, tCons, tNil]
      refine (val_var rfl) _ ?_
      refine val_c _ ?_
      refine (val_strI (val_var (i := 4) (v := .int (i : Nat)) rfl) (small_log (by omega) (by omega))) _ ?_
      refine ⟨_, _, rfl, rfl, big_size (by have := tn.l; rw [app_len'] at this; omega), by show 1 ≤ sizeLine; decide, fun M nM => ?_⟩
      have s2 := same_upd (o := .lst [.str (("state " : Str) ++ toString ((i : Nat) : Int))]) nM
      refine ⟨L, M, _, _, rfl, rfl, s2 _ _ hL1, upd_same, by rw [List.length_map]; exact Nat.le_trans (show (wlines 0 ss).length + 1 ≤ 100 by have := wk.few; omega) (by decide), fun N nN => ?_⟩
      have s3 := s2.trans (same_upd (o := .lst ((wlines 0 ss).map V.str ++ [.str (("state " : Str) ++ toString ((i : Nat) : Int))])) nN)
      have hN : (upd (upd H10 M (.lst [.str (("state " : Str) ++ toString ((i : Nat) : Int))])) N (.lst ((wlines 0 ss).map V.str ++ [.str (("state " : Str) ++ toString ((i : Nat) : Int))]))) N = some (.lst ((wlines 0 ss ++ [stateRow i]).map V.str)) := by
        rw [upd_same, List.map_append]
        rfl
      have bN : b ≠ N := fun e => by
        rw [← e, (show _ = some _ from s2 _ _ hb1)] at nN
        cases nN
      generalize (upd (upd H10 M (.lst [.str (("state " : Str) ++ toString ((i : Nat) : Int))])) N (.lst ((wlines 0 ss).map V.str ++ [.str (("state " : Str) ++ toString ((i : Nat) : Int))]))) = H11 at s3 hN ⊢
      have sb11 := sb1.trans (SameBut.of_same s3)
      have tkH : TKeep H H11 := fun v xs e => sb11 _ _ (fun c => by rw [c, hb] at e; cases e) e
      refine (va_cons (val_var rfl) (va_cons (val_var rfl) (va_cons (val_var rfl) va_nil))) _ ⟨b, st, m, sts.length, rs, p9, q, n9, rfl, s3 _ _ hb1, wk.bo, by have := wk.le; omega, m2, m4, l0, l4, hst.mono tkH, o1, o3, o2, fun H12 l W p12 n12 s12 lb hl ws hb12 B12 le12 => ?_⟩
      have hN12 := s12 _ _ bN.symm hN
      refine ⟨N, l, _, _, rfl, rfl, hN12, hl, by rw [List.length_map, List.length_map, List.length_map, List.length_append]; exact Nat.le_trans (show (wlines 0 ss).length + 1 + W.length ≤ 100 by have := wk.few; have := ws.l; omega) (by decide), fun R nR => ?_⟩
      have s13 := same_upd (o := .lst ((wlines 0 ss ++ [stateRow i]).map V.str ++ (W.map wrowT).map V.str)) nR
      have el : wlines 0 (ss ++ [W]) = (wlines 0 ss ++ [stateRow i]) ++ W.map wrowT := by
        rw [wlines_snoc, wk.sl, Nat.zero_add, List.append_assoc]
        rfl
      refine ⟨_, _, R, ss ++ [W], p12, n12, rfl, (sb11.trans s12).trans (SameBut.of_same s13), ?_, (fun e => by rw [e, hb12] at nR; cases nR), ?_, by rw [List.length_append, wk.sl]; rfl, ?_, fun z hz => ?_, s13 _ _ hb12, B12, by have := wk.le; omega⟩
      · rw [upd_same, el, List.map_append (l₂ := W.map wrowT)]
      · rw [List.take_add_one, ers]
        exact paired_app wk.pr ws
      · rw [el, List.length_append, List.length_append, List.length_map]
        have := wk.few
        have := ws.l
        show (wlines 0 ss).length + 1 + W.length ≤ _
        omega
      · rw [el] at hz
        rcases List.mem_append.mp hz with hz | hz
        · rcases List.mem_append.mp hz with hz | hz
          · exact wk.tz z hz
          · rw [List.mem_singleton.mp hz]
            exact tn.mono (by decide)
        · obtain ⟨x, hx, rfl⟩ := List.mem_map.mp hz
          exact ws.t x hx
    · rintro σ H9 ⟨u4, u5, L, ss, p9, n9, rfl, wk⟩
      rw [List.length_map, pl] at wk
      have pr := wk.pr
      rw [List.take_length] at pr
      have few := wk.few
      have wz : Wt (wlines 0 ss) ≤ 3500 := by
        have h1 := sum_le (zs := wlines 0 ss) (c := 66) fun z hz => (wk.tz z hz).l
        have h2 := sum_Wt (wlines 0 ss)
        omega
      dsimp only [tRet]
      refine join_run (LV.v rfl wk.hL) nl1 (by omega) fun H5 s5 => ?_
      exact k H5 _ ss p9 n9 (wk.sb.trans (SameBut.of_same s5)) (pg_join (by decide) wz (fun z hz => (wk.tz z hz).o) (fun z hz => (wk.tz z hz).f) (by omega)) rfl pr (s5 _ _ wk.hb) wk.bo (by have := wk.le; omega)
end
end K5
namespace K5
open PySem PySem.Spec PyProof.Rows L2
/-! ### len(set(xs)), xs a list of whole numbers -/
def tLenSetI (K : PySem.W.Frag) (ta : TE) : TE := fun σ H Q => ta σ H fun x H1 => ∃ l, ∃ ns : List Int, x = .ref l ∧ SqL K H1 l (ns.map V.int) ∧ ns.length ≤ 60 ∧ Q (.int ((firstMet (fun i => ns.getD i 0) ns.length).length : Nat)) H1
theorem intsAre_vals : ∀ {ns : List Int} {us : List Value}, Vals (ns.map V.int) us → IntsAre us ns
  | [], _, .nil => .nil
  | n :: ns, _, .cons r t => by
    obtain ⟨k, rfl⟩ := r
    exact .cons n k (intsAre_vals t)
theorem pe_lenSetI {X : Cx} {a : Expr} {ta : TE} {p p2 q pos : Pos} (hc : X.calm = true) (hg : Gl X "len") (hm : X.mg "len" = none) (hg2 : Gl X "set") (hm2 : X.mg "set" = none) (ha : PE X a ta)
    (na : starEach [a] X.env = (false, eval a X.env) :: starEach [] X.env := by rfl) : PE X (.Call (.Name "len" p) [.Call (.Name "set" p2) [a] [] q] [] pos) (tLenSetI X.K ta) := by
  refine ⟨fun pins s σ H Q I h => ?_⟩
  refine Call_ (ld_blt I hg hm boot_len ?_)
  refine PyProof.Rows.callWith_builtin1 (PyProof.Rows.args_cons ?_ rfl) rfl rfl
  refine Call_ (ld_blt I hg2 hm2 boot_set ?_)
  refine PyProof.Rows.callWith_type1 (PyProof.Rows.args_cons (thn (ha.run pins s σ H _ I h) fun v s1 ⟨x, H1, I1, r1, q1⟩ => PyProof.Rows.args_nil ?_) na) na rfl
  obtain ⟨l, ns, rfl, hq, h1, q1⟩ := q1
  cases r1
  obtain ⟨its, r, pl, hz⟩ := I1.list hq
  have hi : IntsAre its.toArray.toList ns := by simpa using intsAre_vals r
  have hsz : its.toArray.size = ns.length := by rw [List.size_toArray, ← r.length, List.length_map]
  have fl : (firstMet (fun i => ns.getD i 0) its.toArray.size).length ≤ its.toArray.size := firstMet_length_le _ _
  refine PySem.call_set_list (I1.ok.hd hc) pl.isList hi (by rw [hsz]; exact Nat.lt_of_le_of_lt (show ns.length + 1 ≤ 61 by omega) (by decide)) fun h' tk hS hk => ?_
  refine PyProof.Rows.args_nil ?_
  obtain ⟨o, es, ep, t, ho, hex, hd, _, _, _, hf, hn⟩ := hS
  have I2 : Inv X pins σ H1 { s1 with heap := h', toks := tk } := I1.kept fun b o e => hk b o (Heap.lt_size e) e
  refine call_len_set ho hex hd hf (by rw [hn]; omega) ⟨.int _, H1, I2.tok _, ⟨_, rfl⟩, ?_⟩
  rw [hn, hsz]
  exact q1
theorem firstMet_one {ns : List Int} (h : (firstMet (fun i => ns.getD i 0) ns.length).length = 1) : ∃ l, ∀ x ∈ ns, x = l := by
  obtain ⟨l, e⟩ : ∃ l, firstMet (fun i => ns.getD i 0) ns.length = [l] := List.length_eq_one_iff.mp h
  refine ⟨l, fun x hx => ?_⟩
  have a := firstMet_any (fun i => ns.getD i 0) ns.length x
  have m : ((List.range ns.length).map fun i => ns.getD i 0).any (· == x) = true := by
    rw [List.any_eq_true]
    obtain ⟨i, hi⟩ := List.getElem?_of_mem hx
    obtain ⟨il, _⟩ := List.getElem?_eq_some_iff.mp hi
    refine ⟨x, List.mem_map.mpr ⟨i, List.mem_range.mpr il, ?_⟩, by simp⟩
    show ns.getD i 0 = x
    rw [List.getD_eq_getElem?_getD, hi]
    rfl
  rw [m, e] at a
  exact (by simpa using a.symm : l = x).symm
end K5
namespace K5
open PySem PySem.Spec PyProof.Rows L2
/-! ### a drawn sequence of all of a list's texts -/
theorem RowX.mono {m m' n : Nat} {r : (Str × Nat) × List (Int × Int)} (h : RowX m n r) (le : m ≤ m') : RowX m' n r := ⟨Nat.lt_of_lt_of_le h.1 le, h.2.1, h.2.2.1, fun o ho => by
  have := h.2.2.2 o ho
  omega⟩
theorem StX.mono {m m' n : Nat} {rs : List RwD} (h : StX m n rs) (le : m ≤ m') : StX m' n rs := ⟨h.1, fun r hr => RowX.mono (h.2 r hr) le⟩
/-- all of a list, in another sequence: what _law_some gives when it takes all -/
theorem some_all {xs ys rest : List V} (h : (ys ++ rest).Perm xs) (l : ys.length = xs.length) : ys.Perm xs := by
  have e : rest = [] := by
    have := h.length_eq
    rw [List.length_append] at this
    exact List.length_eq_zero_iff.mp (by omega)
  rw [e, List.append_nil] at h
  exact h
/-- a sequence of images is the images of a sequence -/
theorem perm_images {α β : Type} (f : α → β) {l : List α} {ys : List β} : ys.Perm (l.map f) → ∃ l' : List α, l'.Perm l ∧ ys = l'.map f := by
  intro h
  generalize hm : l.map f = zs at h
  induction h generalizing l with
  | nil => exact ⟨[], by rw [List.map_eq_nil_iff.mp hm], rfl⟩
  | cons x _ ih =>
    cases l with
    | nil => cases hm
    | cons a l =>
      rw [List.map_cons] at hm
      injection hm with h1 h2
      obtain ⟨l', p, e⟩ := ih h2
      exact ⟨a :: l', p.cons a, by rw [List.map_cons, h1, e]⟩
  | swap x y _ =>
    match l, hm with
    | a :: c :: l, hm =>
      rw [List.map_cons, List.map_cons] at hm
      injection hm with h1 h2
      injection h2 with h2 h3
      exact ⟨c :: a :: l, List.Perm.swap a c l, by rw [List.map_cons, List.map_cons, h1, h2, h3]⟩
  | trans _ _ ih1 ih2 =>
    obtain ⟨l1, p1, e1⟩ := ih2 hm
    obtain ⟨l2, p2, e2⟩ := ih1 e1.symm
    exact ⟨l2, p2.trans p1, e2⟩
/-- the rows of a wild state in another sequence -/
theorem WSt.perm {m w : Nat} {rs : List RwD} {W W' : List WRow} (h : WSt m w rs W) (p : W'.Perm W) : WSt m w rs W' := ⟨fun r hr => h.ok r (p.mem_iff.mp hr), h.c.perm (List.Perm.flatMap_right _ p) (.refl _), by rw [p.length_eq]; exact h.l, fun r hr => h.t r (p.mem_iff.mp hr)⟩
end K5
namespace K5
open PySem PySem.Spec PyProof.Rows L2
/-! ### how long a wild row is -/
theorem oW_tz {o : Int × Int} (h : -2 ≤ o.1 ∧ o.1 < 4 ∧ 0 ≤ o.2 ∧ o.2 < 4) : Tz 6 (wpart (oW o)) := by
  have t1 := tz_ans h.1 h.2.1
  have t2 := tz_num h.2.2.1 h.2.2.2
  exact (t1.add (tz_of (n := 1) (by decide +kernel))).add t2
theorem anyW_tz {l : Int} (h : 0 ≤ l ∧ l < 4) : Tz 6 (wpart (anyW l)) := by
  have t2 := tz_num h.1 h.2
  exact (((tz_of (n := 3) (z := "any") (by decide +kernel)).add (tz_of (n := 1) (by decide +kernel))).add t2).mono (by decide)
theorem wrow_tz {r : WRow} (hd : r.d ∈ poolD) (hw : Tz 3 r.w) (hp : ∀ p ∈ r.ps, Tz 6 (wpart p)) (few : r.ps.length ≤ 6) : Tz 66 (wrowT r) := by
  have ts1 : Tz 2 ("  " : Str) := tz_of (by decide +kernel)
  have ts2 : Tz 1 (" " : Str) := tz_of (by decide +kernel)
  have ts3 : Tz 4 (" -> " : Str) := tz_of (by decide +kernel)
  have TT := Tz.join (n := 6) (m := 2) (c := ", ") (tz_of (by decide +kernel)) (ps := r.ps.map wpart) fun z hz => by
    obtain ⟨p, h, rfl⟩ := List.mem_map.mp hz
    exact hp p h
  rw [List.length_map] at TT
  exact (((((ts1.add (tz_pool _ hd)).add ts2).add hw).add ts3).add TT).mono (by omega)
theorem low_len (os : List (Int × Int)) : (lowI os).length ≤ os.length := List.length_filter_le _ _
theorem each_len (os : List (Int × Int)) : ((lowI os ++ highI os).map oW).length = os.length := by
  rw [List.length_map, (low_high os).length_eq]
theorem any_len {os : List (Int × Int)} (h : 0 < (highI os).length) {l : Int} : ((lowI os).map oW ++ [anyW l]).length ≤ os.length := by
  have := (low_high os).length_eq
  rw [List.length_append] at this
  rw [List.length_append, List.length_map]
  show (lowI os).length + 1 ≤ _
  omega
end K5
namespace K5
open PySem PySem.Spec PyProof.Rows L2
/-! ### the comprehensions of _law_wild_outcomes -/
section
variable {K : PySem.W.Frag}
/-- [x for x in t if test(x[0])] -/
theorem filt_lc5 {te : TE} {tt : TT} {p : Int → Bool} {ts : List Addr} {os : List (Int × Int)} {o : Addr} {u0 u1 u2 u3 u4 u5 u6 u7 : Option V} {H : Hp} {Q : VK} (hv : Val te [u0, u1, u2, u3, u4, u5, u6, u7] H (.ref o)) (ho : H o = some (.tup (ts.map V.ref))) (a : OsAt H ts os) (few : os.length ≤ 6)
    (ht : ∀ (t : Addr) (q : Int × Int) (H' : Hp) (R : Bool → Hp → Prop), H' t = some (.tup [.int q.1, .int q.2]) → R (p q.1) H' → tt [u0, u1, u2, u3, u4, some (.ref t), u6, u7] H' R)
    (k : ∀ (H' : Hp) (D : Addr) (us : List Addr), Same H H' → H' D = some (.lst (us.map V.ref)) → OsAt H' us (os.filter fun q => p q.1) → Q (.ref D) H') :
    tLc (iTup K te) (gName 5) tt (tVar 5) [5] [u0, u1, u2, u3, u4, u5, u6, u7] H Q := by
  dsimp only [tLc, iTup]
  refine hv _ ⟨o, rfl, ⟨_, SqT.of ho⟩, fun D nD => ?_⟩
  refine lc_tup (xs := ts.map V.ref) (fun j H2 => ∃ us : List Addr, Same H H2 ∧ H2 D = some (.lst (us.map V.ref)) ∧ OsAt H2 us ((os.take j).filter fun q => p q.1)) ⟨[], same_upd nD, upd_same, .nil⟩ (fun j H2 _ ⟨us, s2, _⟩ => SqT.of (s2 _ _ ho)) (fun j x H2 hj hI => ?_) fun H2 hI => ?_
  · obtain ⟨us, s2, hD, au⟩ := hI
    obtain ⟨t, et, rfl⟩ : ∃ t, ts[j]? = some t ∧ x = .ref t := by
      rw [List.getElem?_map] at hj
      cases e : ts[j]? with
      | none => rw [e] at hj; cases hj
      | some i => rw [e] at hj; exact ⟨i, rfl, (Option.some.inj hj).symm⟩
    obtain ⟨q, eq, hq⟩ := paired_at j a et
    have ul : us.length ≤ j := by
      rw [au.len]
      refine Nat.le_trans (List.length_filter_le _ _) ?_
      rw [List.length_take]
      omega
    have jlt := (List.getElem?_eq_some_iff.mp eq).1
    refine ⟨rfl, ?_⟩
    refine ht t q H2 _ (s2 _ _ hq) ?_
    have tk : os.take (j + 1) = os.take j ++ [q] := by
      rw [List.take_add_one, eq]
      rfl
    cases c : p q.1 with
    | false =>
      rw [if_neg (by decide)]
      refine ⟨us, s2, hD, ?_⟩
      rw [tk, List.filter_append]
      have : ([q].filter fun q => p q.1) = [] := by simp [c]
      rw [this, List.append_nil]
      exact au
    | true =>
      rw [if_pos rfl]
      refine (val_var rfl) _ ⟨us.map V.ref, hD, by rw [List.length_map]; exact Nat.lt_of_le_of_lt ul (Nat.lt_trans (show j < 7 by omega) (by decide)), us ++ [t], fun b o' e => ?_, ?_, ?_⟩
      · rw [upd_ne (ne_of_none e nD)]
        exact s2 _ _ e
      · rw [List.map_append]
        exact upd_same
      · rw [tk, List.filter_append]
        have : ([q].filter fun q => p q.1) = [q] := by simp [c]
        rw [this]
        have sB := SameBut.upd D H2 (.lst (us.map V.ref ++ [V.ref t]))
        refine OsAt.app (au.but sB hD) (sB _ _ (fun e => ?_) (s2 _ _ hq))
        rw [e] at hq
        rw [hq] at nD
        cases nD
  · obtain ⟨us, s2, hD, au⟩ := hI
    rw [List.length_map, a.len, List.take_length] at au
    exact k H2 D us s2 hD au

/-- [ansW(a) + " " + str(n) for a, n in xs] -/
theorem told_lc7 {te : TE} {us : List Addr} {os : List (Int × Int)} {o : Addr} {i : Nat} {u0 u1 u2 u3 u4 u5 u6 u7 : Option V} {H : Hp} {Q : VK} (hv : Val (tVar i) [u0, u1, u2, u3, u4, u5, u6, u7] H (.ref o)) (ho : H o = some (.lst (us.map V.ref))) (a : OsAt H us os) (ok : OsOk os)
    (ht : ∀ (q w : Int) (H' : Hp) (R : VK), (q, w) ∈ os → -2 ≤ q → q < 4 → 0 ≤ w → w < 4 → (∀ H'', Same H' H'' → R (.str (ansW q ++ " " ++ toString w)) H'') → te [u0, u1, u2, u3, u4, u5, some (.int q), some (.int w)] H' R)
    (k : ∀ (H' : Hp) (D : Addr) (zs : List Str), Same H H' → H' D = some (.lst (zs.map V.str)) → zs.length ≤ 6 → (∀ z ∈ zs, Tz 6 z) → zs = os.map partI → Q (.ref D) H') :
    tLc (iList K (tVar i)) (gTup K 2 (gCons (gName 6) (gCons (gName 7) gNil))) tYes te [6, 7] [u0, u1, u2, u3, u4, u5, u6, u7] H Q := by
  dsimp only [tLc, iList]
  refine hv _ ⟨o, rfl, ⟨_, SqL.of ho⟩, fun D nD => ?_⟩
  refine lc_list (xs := us.map V.ref) (fun j H2 => ∃ zs : List Str, Same H H2 ∧ H2 D = some (.lst (zs.map V.str)) ∧ zs.length = j ∧ (∀ z ∈ zs, Tz 6 z) ∧ zs = (os.take j).map partI) ⟨[], same_upd nD, upd_same, rfl, (fun _ h => (nomatch h)), rfl⟩ (fun j H2 _ ⟨zs, s2, _⟩ => SqL.of (s2 _ _ ho)) (fun j x H2 hj hI => ?_) fun H2 hI => ?_
  · obtain ⟨zs, s2, hD, zl, zt, ze⟩ := hI
    obtain ⟨t, et, rfl⟩ : ∃ t, us[j]? = some t ∧ x = .ref t := by
      rw [List.getElem?_map] at hj
      cases e : us[j]? with
      | none => rw [e] at hj; cases hj
      | some i => rw [e] at hj; exact ⟨i, rfl, (Option.some.inj hj).symm⟩
    obtain ⟨q, eq, hq⟩ := paired_at j a et
    have jlt := (List.getElem?_eq_some_iff.mp eq).1
    have j6 := ok.1
    have qo := ok.2 q (List.mem_of_getElem? eq)
    refine ⟨t, _, rfl, SqT.of (s2 _ _ hq), rfl, _, _, rfl, _, _, rfl, rfl, ?_⟩
    refine ⟨rfl, ?_⟩
    dsimp only [tYes]
    rw [if_pos rfl]
    refine ht q.1 q.2 H2 _ (List.mem_of_getElem? eq) qo.1 qo.2.1 qo.2.2.1 qo.2.2.2 fun H3 s3 => ?_
    have hD3 := s3 _ _ hD
    refine ⟨zs.map V.str, hD3, by rw [List.length_map, zl]; exact Nat.lt_trans (show j < 7 by omega) (by decide), zs ++ [ansW q.1 ++ " " ++ toString q.2], fun b o' e => ?_, ?_, by rw [List.length_append, zl]; rfl, fun z hz => ?_, ?_⟩
    · rw [upd_ne (ne_of_none e nD)]
      exact s3 _ _ (s2 _ _ e)
    · rw [List.map_append]
      exact upd_same
    · rcases List.mem_append.mp hz with hz | hz
      · exact zt z hz
      · rw [List.mem_singleton.mp hz]
        exact ((tz_ans qo.1 qo.2.1).add (tz_of (n := 1) (by decide +kernel))).add (tz_num qo.2.2.1 qo.2.2.2)
    · rw [ze, List.take_add_one, eq, List.map_append]
      rfl
  · obtain ⟨zs, s2, hD, zl, zt, ze⟩ := hI
    rw [List.length_map, a.len] at zl
    rw [List.length_map, a.len, List.take_length] at ze
    exact k H2 D zs s2 hD (by rw [zl]; exact ok.1) zt ze
/-- [ansW(a) + " " + str(n) for a, n in t if a < 0] -/
theorem neg_lc {te : TE} {tt : TT} {ts : List Addr} {os : List (Int × Int)} {o : Addr} {u0 u1 u2 u3 u4 u5 u6 u7 : Option V} {H : Hp} {Q : VK} (hv : Val (tVar 2) [u0, u1, u2, u3, u4, u5, u6, u7] H (.ref o)) (ho : H o = some (.tup (ts.map V.ref))) (a : OsAt H ts os) (ok : OsOk os)
    (htt : ∀ (q w : Int) (H' : Hp) (R : Bool → Hp → Prop), R (decide (q < 0)) H' → tt [u0, u1, u2, u3, u4, u5, some (.int q), some (.int w)] H' R)
    (ht : ∀ (q w : Int) (H' : Hp) (R : VK), -2 ≤ q → q < 4 → 0 ≤ w → w < 4 → (∀ H'', Same H' H'' → R (.str (ansW q ++ " " ++ toString w)) H'') → te [u0, u1, u2, u3, u4, u5, some (.int q), some (.int w)] H' R)
    (k : ∀ (H' : Hp) (D : Addr), Same H H' → H' D = some (.lst (((lowI os).map partI).map V.str)) → D ≠ o → H D = none → Q (.ref D) H') :
    tLc (iTup K (tVar 2)) (gTup K 2 (gCons (gName 6) (gCons (gName 7) gNil))) tt te [6, 7] [u0, u1, u2, u3, u4, u5, u6, u7] H Q := by
  dsimp only [tLc, iTup]
  refine hv _ ⟨o, rfl, ⟨_, SqT.of ho⟩, fun D nD => ?_⟩
  refine lc_tup (xs := ts.map V.ref) (fun j H2 => Same H H2 ∧ H2 D = some (.lst ((((lowI (os.take j)).map partI)).map V.str))) ⟨same_upd nD, upd_same⟩ (fun j H2 _ ⟨s2, _⟩ => SqT.of (s2 _ _ ho)) (fun j x H2 hj hI => ?_) fun H2 hI => ?_
  · obtain ⟨s2, hD⟩ := hI
    obtain ⟨t, et, rfl⟩ : ∃ t, ts[j]? = some t ∧ x = .ref t := by
      rw [List.getElem?_map] at hj
      cases e : ts[j]? with
      | none => rw [e] at hj; cases hj
      | some i => rw [e] at hj; exact ⟨i, rfl, (Option.some.inj hj).symm⟩
    obtain ⟨q, eq, hq⟩ := paired_at j a et
    have jlt := (List.getElem?_eq_some_iff.mp eq).1
    have j6 := ok.1
    have qo := ok.2 q (List.mem_of_getElem? eq)
    have tk : os.take (j + 1) = os.take j ++ [q] := by
      rw [List.take_add_one, eq]
      rfl
    have fl : (lowI (os.take j)).length ≤ j := Nat.le_trans (List.length_filter_le _ _) (by rw [List.length_take]; omega)
    refine ⟨t, _, rfl, SqT.of (s2 _ _ hq), rfl, _, _, rfl, _, _, rfl, rfl, ?_⟩
    refine ⟨rfl, ?_⟩
    refine htt q.1 q.2 H2 _ ?_
    cases c : decide (q.1 < 0) with
    | false =>
      rw [if_neg (by decide)]
      refine ⟨s2, ?_⟩
      have e : lowI (os.take (j + 1)) = lowI (os.take j) := by
        rw [tk]
        unfold lowI
        rw [List.filter_append]
        have : ([q].filter fun o => decide (o.1 < 0)) = [] := by simp [c]
        rw [this, List.append_nil]
      rw [e]
      exact hD
    | true =>
      rw [if_pos rfl]
      refine ht q.1 q.2 H2 _ qo.1 qo.2.1 qo.2.2.1 qo.2.2.2 fun H3 s3 => ?_
      have hD3 := s3 _ _ hD
      have e : lowI (os.take (j + 1)) = lowI (os.take j) ++ [q] := by
        rw [tk]
        unfold lowI
        rw [List.filter_append]
        have : ([q].filter fun o => decide (o.1 < 0)) = [q] := by simp [c]
        rw [this]
      refine ⟨_, hD3, by rw [List.length_map, List.length_map]; exact Nat.lt_of_le_of_lt fl (Nat.lt_trans (show j < 7 by omega) (by decide)), fun b o' e => ?_, ?_⟩
      · rw [upd_ne (ne_of_none e nD)]
        exact s3 _ _ (s2 _ _ e)
      · rw [e, upd_same, List.map_append, List.map_append]
        rfl
  · obtain ⟨s2, hD⟩ := hI
    rw [List.length_map, a.len, List.take_length] at hD
    exact k H2 D s2 hD (fun e => by rw [e, ho] at nD; cases nD) nD
end
end K5
namespace K5
open PySem PySem.Spec PyProof.Rows L2
/-! ### _law_wild_outcomes -/
section
variable {K : PySem.W.Frag}
/-- [n for a, n in xs] -/
theorem lat_lc {us : List Addr} {os : List (Int × Int)} {o : Addr} {u0 u1 u2 u3 u4 u5 u6 u7 : Option V} {H : Hp} {Q : VK} (hv : Val (tVar 3) [u0, u1, u2, u3, u4, u5, u6, u7] H (.ref o)) (ho : H o = some (.lst (us.map V.ref))) (a : OsAt H us os) (few : os.length ≤ 6)
    (k : ∀ (H' : Hp) (D : Addr), Same H H' → H' D = some (.lst ((os.map fun q => q.2).map V.int)) → Q (.ref D) H') :
    tLc (iList K (tVar 3)) (gTup K 2 (gCons (gName 6) (gCons (gName 7) gNil))) tYes (tVar 7) [6, 7] [u0, u1, u2, u3, u4, u5, u6, u7] H Q := by
  dsimp only [tLc, iList]
  refine hv _ ⟨o, rfl, ⟨_, SqL.of ho⟩, fun D nD => ?_⟩
  refine lc_list (xs := us.map V.ref) (fun j H2 => Same H H2 ∧ H2 D = some (.lst (((os.take j).map fun q => q.2).map V.int))) ⟨same_upd nD, upd_same⟩ (fun j H2 _ ⟨s2, _⟩ => SqL.of (s2 _ _ ho)) (fun j x H2 hj hI => ?_) fun H2 hI => ?_
  · obtain ⟨s2, hD⟩ := hI
    obtain ⟨t, et, rfl⟩ : ∃ t, us[j]? = some t ∧ x = .ref t := by
      rw [List.getElem?_map] at hj
      cases e : us[j]? with
      | none => rw [e] at hj; cases hj
      | some i => rw [e] at hj; exact ⟨i, rfl, (Option.some.inj hj).symm⟩
    obtain ⟨q, eq, hq⟩ := paired_at j a et
    have jlt := (List.getElem?_eq_some_iff.mp eq).1
    refine ⟨t, _, rfl, SqT.of (s2 _ _ hq), rfl, _, _, rfl, _, _, rfl, rfl, ?_⟩
    refine ⟨rfl, ?_⟩
    dsimp only [tYes]
    rw [if_pos rfl]
    refine (val_var rfl) _ ⟨_, hD, by rw [List.length_map, List.length_map, List.length_take]; exact Nat.lt_of_lt_of_le (show min j os.length < 7 by omega) (by decide), fun b o' e => ?_, ?_⟩
    · rw [upd_ne (ne_of_none e nD)]
      exact s2 _ _ e
    · rw [upd_same, List.take_add_one, eq, List.map_append, List.map_append]
      rfl
  · obtain ⟨s2, hD⟩ := hI
    rw [List.length_map, a.len, List.take_length] at hD
    exact k H2 D s2 hD
end
def spWildO : Sp := fun vs H Q _ => ∃ (b o : Addr) (m w : Nat) (os : List (Int × Int)) (p q n : Int), vs = [.ref b, .int m, .ref o] ∧ H b = some (.lst (bx p q n)) ∧ Box p q n ∧ n + 20 < 1000000 ∧ 2 ≤ m ∧ m ≤ 4 ∧ 1 ≤ w ∧ w ≤ 4 ∧ OuAt H o os ∧ OsX m w os ∧ os.length ≤ 6 ∧
  ∀ (H' : Hp) (ps : List (Str × Str)) (p' n' : Int), SameBut b H H' → PW m w os ps → (∀ x ∈ ps, Tz 6 (wpart x)) → ps.length ≤ 6 → H' b = some (.lst (bx p' q n')) → Box p' q n' → n' ≤ n + 8 → Q (.str (Str.join ", " (ps.map wpart))) H'
abbrev s__law_wild_outcomes : Stmt := topS 46
abbrev nmWO : List Str := ["_law_box_here", "_law_worths", "_law_outcomes", "_law_high", "_law_words", "_law_one", "_law_answer", "_law_later"]
theorem sc__law_wild_outcomes : FnScope nmWO ["_law_box_here", "_law_worths", "_law_outcomes"] (defScope s__law_wild_outcomes) := ⟨rfl, rfl, rfl, by decide +kernel, rfl, by decide +kernel, by decide +kernel⟩
end K5
namespace K5
open PySem PySem.Spec PyProof.Rows L2
/-! ### _law_wild_outcomes, step by step -/
theorem but_free {H H' : Hp} {b : Addr} {o : HO} (s : SameBut b H H') (hb : H' b = some o) {u : Addr} (nu : H' u = none) : H u = none := by
  cases e : H u with
  | none => rfl
  | some o =>
    by_cases c : u = b
    · rw [c, hb] at nu; cases nu
    · rw [s _ _ c e] at nu; cases nu
theorem ans_high {a : Int} (h : 0 ≤ a) : ansW a = toString a := by
  unfold ansW
  rw [if_neg (by omega), if_neg (by omega)]
theorem part_low (os : List (Int × Int)) : os.map partI = (os.map oW).map wpart := by
  rw [List.map_map]
  rfl
section
variable {K : PySem.W.Frag}
/-- ", ".join(_law_some(box, words, len(words))) -/
theorem wo_ret {H3 : Hp} {b L : Addr} {σ : L2.St} {Q : VK} {m w : Nat} {os : List (Int × Int)} {ps : List (Str × Str)} {p q n : Int} (h0 : σ[0]? = some (some (.ref b))) (h4 : σ[4]? = some (some (.ref L))) (hL : H3 L = some (.lst ((ps.map wpart).map V.str))) (pw : PW m w os ps) (tz : ∀ x ∈ ps, Tz 6 (wpart x)) (pl : ps.length ≤ 6) (hb : H3 b = some (.lst (bx p q n))) (B : Box p q n) (hn : n + 10 < 1000000)
    (k : ∀ (H' : Hp) (qs : List (Str × Str)) (p' n' : Int), SameBut b H3 H' → PW m w os qs → (∀ x ∈ qs, Tz 6 (wpart x)) → qs.length ≤ 6 → H' b = some (.lst (bx p' q n')) → Box p' q n' → n' ≤ n + 6 → Q (.str (Str.join ", " (qs.map wpart))) H') :
    tBM K "str" (rJoinS K) (tC (.str ", ")) (tCons (tCall (spSome K) [] E0 (tCons (tVar 0) (tCons (tVar 4) (tCons (tCB (rLenSq K) (tCons (tVar 4) tNil)) tNil)))) tNil) σ H3 Q := by
  refine bm_run (x := .str ", ") val_c rfl ?_
  dsimp only [tCons, tNil, tCall]
  refine (val_var h0) _ ((val_var h4) _ ?_)
  refine (val_lenL (val_var h4) (SqL.of hL)) _ ?_
  refine ⟨b, L, (ps.map wpart).map V.str, ((ps.map wpart).map V.str).length, p, q, n, rfl, hb, B, SqL.of hL, Nat.le_refl _, ?_, ?_, fun H' r ys rest p' n' s' nr hr hb' B' le' yl yp => ?_⟩
  · rw [List.length_map, List.length_map]
    omega
  · rw [List.length_map, List.length_map]
    omega
  · have pm := some_all yp yl
    rw [List.map_map] at pm
    obtain ⟨qs, pq, rfl⟩ := perm_images _ pm
    have ql : qs.length ≤ 6 := by rw [pq.length_eq]; exact pl
    have tq : ∀ x ∈ qs, Tz 6 (wpart x) := fun x hx => tz x (pq.mem_iff.mp hx)
    have e2 : (", " : Str).length = 2 := by decide +kernel
    have er : qs.map (V.str ∘ wpart) = (qs.map wpart).map V.str := by rw [List.map_map]
    rw [er] at hr
    refine ⟨", ", r, qs.map wpart, rfl, rfl, .inl (SqL.of hr), ?_, ?_⟩
    · have := sum_le (zs := qs.map wpart) (c := 6) fun z hz => by
        obtain ⟨x, hx, rfl⟩ := List.mem_map.mp hz
        exact (tq x hx).l
      rw [e2, List.length_map] at *
      omega
    · rw [jn_txt]
      rw [List.length_map, List.length_map] at le'
      exact k H' qs p' n' s' (pw.perm pq) tq ql hb' B' (by omega)
/-- words.extend([str(a) + " " + str(n) for a, n in high]) -/
theorem wo_each {H3 : Hp} {D L : Addr} {D0 : Ends} {u0 u1 u2 u5 u6 u7 : Option V} {us : List Addr} {os : List (Int × Int)} {zs : List Str} (hD : H3 D = some (.lst (us.map V.ref))) (au : OsAt H3 us os) (ok : OsOk os) (hi : ∀ o ∈ os, 0 ≤ o.1) (hL : H3 L = some (.lst (zs.map V.str))) (zl : zs.length ≤ 6)
    (k : ∀ H' : Hp, Same H3 H' → D0.nx [u0, u1, u2, some (.ref D), some (.ref L), u5, u6, u7] (upd H' L (.lst ((zs ++ os.map partI).map V.str)))) :
    tDrop (tBM K "list" rExtend (tVar 4) (tCons (tLc (iList K (tVar 3)) (gTup K 2 (gCons (gName 6) (gCons (gName 7) gNil))) tYes (tOp rAddS (tOp rAddS (tCB rStrI (tCons (tVar 6) tNil)) (tC (.str " "))) (tCB rStrI (tCons (tVar 7) tNil))) [6, 7]) tNil)) D0 [u0, u1, u2, some (.ref D), some (.ref L), u5, u6, u7] H3 := by
  dsimp only [tDrop]
  refine bm_run (x := .ref L) (val_var rfl) (.inl ⟨rfl, _, SqL.of hL⟩) ?_
  dsimp only [tCons, tNil]
  refine told_lc7 (val_var rfl) hD au ok (fun q' w' H' R hm h0 h1 h2 h3 hR => ?_) fun H4 M ys s4 hM yl yt ye => ?_
  · have ha := hi _ hm
    have ha : 0 ≤ q' := ha
    dsimp only [tOp, tCB, tCons, tNil]
    refine (val_var rfl) _ ⟨q', rfl, small_log (by omega) (by omega), ?_⟩
    have t1 := tz_ans h0 h1
    have t2 := tz_num h2 h3
    have hR := hR H' (Same.refl _)
    rw [ans_high ha] at t1 hR
    refine val_c _ ⟨_, " ", rfl, rfl, big_size ?_, ?_⟩
    · have := t1.l
      have : (" " : Str).length = 1 := by decide +kernel
      omega
    · have tt := t1.add (tz_of (n := 1) (z := " ") (by decide +kernel))
      refine (val_var rfl) _ ⟨w', rfl, small_log (by omega) (by omega), _, _, rfl, rfl, big_size ?_, hR⟩
      have := tt.l
      have := t2.l
      omega
  · refine ⟨L, M, zs.map V.str, ys.map V.str, rfl, rfl, s4 _ _ hL, hM, ?_, ?_⟩
    · rw [List.length_map, List.length_map]
      exact Nat.le_trans (show zs.length + ys.length ≤ 12 by omega) (by decide)
    · have := k H4 s4
      rw [← ye, List.map_append] at this
      exact this
/-- words.append("any " + str(high[0][1])) -/
theorem wo_any {H3 : Hp} {D L u : Addr} {D0 : Ends} {u0 u1 u2 u5 u6 u7 : Option V} {us : List Addr} {a l : Int} {zs : List Str} (hD : H3 D = some (.lst ((u :: us).map V.ref))) (hu : H3 u = some (.tup [.int a, .int l])) (l0 : 0 ≤ l) (l4 : l < 4) (hL : H3 L = some (.lst (zs.map V.str))) (zl : zs.length ≤ 6)
    (k : D0.nx [u0, u1, u2, some (.ref D), some (.ref L), u5, u6, u7] (upd H3 L (.lst ((zs ++ [wpart (anyW l)]).map V.str)))) :
    tDrop (tBM K "list" rAppend (tVar 4) (tCons (tOp rAddS (tC (.str "any ")) (tCB rStrI (tCons (tOp (rIxT K) (tOp (rIxL K) (tVar 3) (tC (.int (0 : Nat)))) (tC (.int (1 : Nat)))) tNil))) tNil)) D0 [u0, u1, u2, some (.ref D), some (.ref L), u5, u6, u7] H3 := by
  dsimp only [tDrop]
  refine bm_run (x := .ref L) (val_var rfl) (.inl ⟨rfl, _, SqL.of hL⟩) ?_
  dsimp only [tCons, tNil]
  have t2 := tz_num l0 l4
  have e4 : ("any " : Str).length = 4 := by decide +kernel
  have vi : Val (tOp (rIxL K) (tVar 3) (tC (.int (0 : Nat)))) [u0, u1, u2, some (.ref D), some (.ref L), u5, u6, u7] H3 (.ref u) := val_ixL (val_var rfl) val_c (SqL.of hD) (atI_nat rfl)
  have vl : Val (tOp (rIxT K) (tOp (rIxL K) (tVar 3) (tC (.int (0 : Nat)))) (tC (.int (1 : Nat)))) [u0, u1, u2, some (.ref D), some (.ref L), u5, u6, u7] H3 (.int l) := val_op vi val_c fun Q q => ⟨u, _, _, _, rfl, rfl, SqT.of hu, atI_nat (j := 1) rfl, q⟩
  refine val_addS (val_c (v := .str "any ")) (val_strI vl (small_log (by omega) (by omega))) (by have := t2.l; omega) _ ?_
  refine ⟨L, zs.map V.str, _, rfl, rfl, hL, ?_, ?_⟩
  · rw [List.length_map]
    exact Nat.lt_of_le_of_lt zl (by decide)
  · have e : ("any " : Str) ++ toString l = wpart (anyW l) := by
      have : ("any " : Str) = "any" ++ " " := by decide +kernel
      rw [this]
      rfl
    rw [e]
    rw [List.map_append] at k
    exact k
end
section
variable {P : Program} {w : World} {K : PySem.W.Frag} {mg : Str → Option Value} {base : Heap}
theorem ok_wild_outcomes {f fA fT fS : Addr} {fd dA dT dS : FuncData} (B : Bt mg) (mset : mg "set" = none) (D : Df K mg "_law_wild_outcomes" s__law_wild_outcomes f fd ["_law_box_here", "_law_worths", "_law_outcomes"]) (DA : Df K mg "_law_answer_word" s__law_answer_word fA dA ["_law_answer"]) (DT : Df K mg "_law_take" sTake fT dT ["_law_box_here", "_law_many"]) (DS : Df K mg "_law_some" s__law_some fS dS ["_law_box_here", "_law_items", "_law_many"]) :
    FnOk P w K mg base CX0 3 f fd ["_law_box_here", "_law_worths", "_law_outcomes"] spWildO := by
  have GA : FnOk P w K mg base CX0 1 fA dA ["_law_answer"] spAw := ok_ansW B DA
  have GT : FnOk P w K mg base CX0 1 fT dT ["_law_box_here", "_law_many"] spTake := ok_take (CX := CX0) DT.F B.m_int
  have GS : FnOk P w K mg base CX0 2 fS dS ["_law_box_here", "_law_items", "_law_many"] (spSome K) := ok_some B DS DT
  refine D.F.ok sc__law_wild_outcomes (fun vs H Q E h => ?_) (fun cdv A outer s H vs Q E hr h => ?_)
  · obtain ⟨b, o, m, wn, os, p, q, n, rfl, _⟩ := h
    rfl
  · obtain ⟨b, o, m, wn, os, p, q, n, rfl, hb, Bx, hn, m2, m4, w1, w4, ho, ox, ol, k⟩ := h
    have S := sc__law_wild_outcomes
    refine ⟨_, (pss_cons (ps_setLc (i := 3) (own := [("_law_one", 5)]) (g := gName 5) (by rfl) S.nd rfl rfl (sw_true rfl rfl rfl (by decide +kernel)) (pi_tup (pv 2)) (blkOk_by (own := [("_law_one", 5)]) (N := nmWO) (sc := defScope s__law_wild_outcomes) (by decide +kernel)) (fun _ _ _ _ _ => pg_name (i := 5) S.nd rfl (Or.inl rfl)) (fun _ _ _ _ _ => pts_one (pt_cmpR op_gt (pe_ix (r := rIxT K) ix_tup (pv 5) pe_int (fun _ _ => rfl)) (pe_un un_neg pe_int) (nomark _))) (fun _ _ _ _ _ => pv 5))
      (pss_cons (ps_setLc (i := 4) (own := [("_law_answer", 6), ("_law_later", 7)]) (g := gTup K 2 (gCons (gName 6) (gCons (gName 7) gNil))) (by rfl) S.nd rfl rfl (sw_true rfl rfl rfl (by decide +kernel)) (pi_tup (pv 2)) (blkOk_by (own := [("_law_answer", 6), ("_law_later", 7)]) (N := nmWO) (sc := defScope s__law_wild_outcomes) (by decide +kernel)) (fun _ _ _ _ _ => pg_tup (by rfl) (pgs_cons (pg_name (i := 6) S.nd rfl (Or.inl rfl)) (pgs_cons (pg_name (i := 7) S.nd rfl (Or.inl rfl)) pgs_nil))) (fun _ _ _ _ _ => pts_one (pt_cmpR op_lt (pv 6) pe_int (nomark _)))
          (fun _ _ _ _ _ => pe_op op_add_str (pe_op op_add_str (pe_call GA (hr.mono (by decide)) (by rfl) DA.g DA.F.kp DA.b .nil pass0 (pa_cons (pv 6) pa_nil)) pe_str) (pe_callTy call_str_int (by rfl) B.m_str (by decide +kernel) (pa_cons (pv 7) pa_nil))))
      (pss_cons (ps_if (PW.pt (pw_and (pt_cmpR op_eq (pe_callB (r := rLenSq K) call_len_seq (by rfl) B.m_len PySem.boot_len (pa_cons (pv 3) pa_nil)) (pv 1) (nomark _)) (pw_and (pt_cmpR op_eq (pe_lenSetI rfl (by rfl) B.m_len (by rfl) mset (pe_lc (own := [("_law_answer", 6), ("_law_later", 7)]) (g := gTup K 2 (gCons (gName 6) (gCons (gName 7) gNil))) (tt := tYes) rfl S.nd (pi_list (pv 3)) (blkOk_by (own := [("_law_answer", 6), ("_law_later", 7)]) (N := nmWO) (sc := defScope s__law_wild_outcomes) (by decide +kernel)) (fun _ _ _ _ _ => pg_tup (by rfl) (pgs_cons (pg_name (i := 6) S.nd rfl (Or.inl rfl)) (pgs_cons (pg_name (i := 7) S.nd rfl (Or.inl rfl)) pgs_nil))) (fun _ _ _ _ _ => pts_nil) (fun _ _ _ _ _ => pv 7))) pe_int (nomark _))
            (pw_and1 (pt_cmpR op_gt (pe_call GT (hr.mono (by decide)) (by rfl) DT.g DT.F.kp DT.b .nil pass0 (pa_cons (pv 0) (pa_cons pe_int pa_nil))) pe_int (nomark _))))))
          (pss_one (ps_expr (pe_bm PySem.F.plainAttrs_list PySem.F.slot_list_append PySem.F.type_list_append mt_append (pv 4) (pa_cons (pe_op op_add_str pe_str (pe_callTy call_str_int (by rfl) B.m_str (by decide +kernel) (pa_cons (pe_ix (r := rIxT K) ix_tup (pe_ix (r := rIxL K) ix_list (pv 3) pe_int (fun _ _ => rfl)) pe_int (fun _ _ => rfl)) pa_nil))) pa_nil))))
          (pss_one (ps_expr (pe_bm PySem.F.plainAttrs_list PySem.F.slot_list_extend PySem.F.type_list_extend mt_extend (pv 4) (pa_cons (pe_lc (own := [("_law_answer", 6), ("_law_later", 7)]) (g := gTup K 2 (gCons (gName 6) (gCons (gName 7) gNil))) (tt := tYes) rfl S.nd (pi_list (pv 3)) (blkOk_by (own := [("_law_answer", 6), ("_law_later", 7)]) (N := nmWO) (sc := defScope s__law_wild_outcomes) (by decide +kernel)) (fun _ _ _ _ _ => pg_tup (by rfl) (pgs_cons (pg_name (i := 6) S.nd rfl (Or.inl rfl)) (pgs_cons (pg_name (i := 7) S.nd rfl (Or.inl rfl)) pgs_nil))) (fun _ _ _ _ _ => pts_nil)
            (fun _ _ _ _ _ => pe_op op_add_str (pe_op op_add_str (pe_callTy call_str_int (by rfl) B.m_str (by decide +kernel) (pa_cons (pv 6) pa_nil)) pe_str) (pe_callTy call_str_int (by rfl) B.m_str (by decide +kernel) (pa_cons (pv 7) pa_nil)))) pa_nil)))))
      (pss_one (ps_ret (pe_bm PySem.F.plainAttrs_str PySem.F.slot_str_join PySem.F.type_str_join mt_join pe_str (pa_cons (pe_call GS (hr.mono (by decide)) (by rfl) DS.g DS.F.kp DS.b .nil pass0 (pa_cons (pv 0) (pa_cons (pv 4) (pa_cons (pe_callB (r := rLenSq K) call_len_seq (by rfl) B.m_len PySem.boot_len (pa_cons (pv 4) pa_nil)) pa_nil)))) pa_nil))))))), ?_⟩
    obtain ⟨ts, ho, at0⟩ := ho
    have at0 : OsAt H ts os := at0
    have ok : OsOk os := ⟨ol, fun o h => by have := ox.2.2 o h; omega⟩
    have hlen : (highI os).length ≤ 6 := Nat.le_trans (List.length_filter_le _ _) ol
    have hmem : ∀ o ∈ highI os, o ∈ os ∧ 0 ≤ o.1 := fun o h => by
      have := List.mem_filter.mp h
      have h2 := of_decide_eq_true this.2
      exact ⟨this.1, by omega⟩
    have okh : OsOk (highI os) := ⟨hlen, fun o h => ok.2 o (hmem o h).1⟩
    have llen : (lowI os).length ≤ 6 := Nat.le_trans (List.length_filter_le _ _) ol
    have lohi := (low_high os).length_eq
    rw [List.length_append] at lohi
    refine asg_seq ?_
    refine filt_lc5 (p := fun i => decide (-1 < i)) (val_var rfl) ho at0 ol (fun t' q' H' R hq' hR => ?_) fun H1 D us s1 hD au => ?_
    · dsimp only [tTest, tOp, tUn]
      refine (val_var rfl) _ ?_
      refine val_c _ ?_
      refine ⟨t', _, _, _, rfl, rfl, SqT.of hq', rfl, ?_⟩
      refine val_c _ ?_
      refine ⟨1, rfl, ?_⟩
      exact ⟨q'.1, -1, rfl, rfl, _, rfl, hR⟩
    have au : OsAt H1 us (highI os) := au
    refine asg_seq ?_
    refine neg_lc (val_var rfl) (s1 _ _ ho) (Paired.mapP at0 fun _ _ e => s1 _ _ e) ok (fun q' w' H' R hR => ?_) (fun q' w' H' R h0 h1 h2 h3 hR => ?_) fun H2 L s2 hL nLo nL => ?_
    · dsimp only [tTest, tOp]
      exact (val_var rfl) _ (val_c _ ⟨q', 0, rfl, rfl, _, rfl, hR⟩)
    · dsimp only [tOp, tCall, tCons, tNil, tCB]
      refine (val_var rfl) _ ⟨q', rfl, small_log (by omega) (by omega), fun H'' s'' => ?_⟩
      have t1 := tz_ans h0 h1
      have t2 := tz_num h2 h3
      refine val_c _ ⟨_, " ", rfl, rfl, big_size ?_, ?_⟩
      · have := t1.l
        have : (" " : Str).length = 1 := by decide +kernel
        omega
      · have tt := t1.add (tz_of (n := 1) (z := " ") (by decide +kernel))
        refine (val_var rfl) _ ⟨w', rfl, small_log (by omega) (by omega), _, _, rfl, rfl, big_size ?_, hR _ s''⟩
        have := tt.l
        have := t2.l
        omega
    have LD : L ≠ D := fun e => by rw [e, hD] at nL; cases nL
    have nL0 : H L = none := s1.free nL
    have bL : b ≠ L := fun e => by rw [← e, hb] at nL0; cases nL0
    have hD2 := s2 _ _ hD
    have a2 : OsAt H2 us (highI os) := Paired.mapP au fun _ _ e => s2 _ _ e
    have s02 := s1.trans s2
    have hb2 := s02 _ _ hb
    have ul := a2.len
    -- the end, after words have been put behind those of lost and busy
    have fin : ∀ (σ : L2.St) (H3 H4 : Hp) (ps : List (Str × Str)) (p4 n4 : Int), σ[0]? = some (some (.ref b)) → σ[4]? = some (some (.ref L)) → SameBut b H2 H3 → H3 b = some (.lst (bx p4 q n4)) → Box p4 q n4 → n4 ≤ n + 1 → Same H3 H4 → PW m wn os ps → (∀ x ∈ ps, Tz 6 (wpart x)) → ps.length ≤ 6 →
        tBM K "str" (rJoinS K) (tC (.str ", ")) (tCons (tCall (spSome K) [] E0 (tCons (tVar 0) (tCons (tVar 4) (tCons (tCB (rLenSq K) (tCons (tVar 4) tNil)) tNil)))) tNil) σ (upd H4 L (.lst ((ps.map wpart).map V.str))) Q := by
      intro σ H3 H4 ps p4 n4 h0 h4 s3 hb3 B3 le3 s4 pw tz pl
      have hb4 : (upd H4 L (.lst ((ps.map wpart).map V.str))) b = some (.lst (bx p4 q n4)) := by
        rw [upd_ne bL]
        exact s4 _ _ hb3
      refine wo_ret h0 h4 upd_same pw tz pl hb4 B3 (by omega) fun H' qs p' n' s' pw' tz' ql hb' B' le' => ?_
      refine k H' qs p' n' (SameBut.trans ?_ s') pw' tz' ql hb' B' (by omega)
      intro u x nu hu
      rw [upd_ne (ne_of_none hu nL0)]
      exact s4 _ _ (s3 _ _ nu (s02 _ _ hu))
    have each : PW m wn os ((lowI os ++ highI os).map oW) := pw_each m4 w4 ox
    have each2 : ((lowI os).map partI ++ (highI os).map partI) = ((lowI os ++ highI os).map oW).map wpart := by
      rw [← List.map_append, part_low]
    have eachT : ∀ x ∈ (lowI os ++ highI os).map oW, Tz 6 (wpart x) := fun x hx => by
      obtain ⟨o, ho, rfl⟩ := List.mem_map.mp hx
      exact oW_tz (ok.2 o ((low_high os).mem_iff.mp ho))
    have eachL : ((lowI os ++ highI os).map oW).length ≤ 6 := by rw [each_len]; exact ol
    have lowl : ((lowI os).map partI).length ≤ 6 := by rw [List.length_map]; exact llen
    dsimp only [gName, List.set]
    dsimp only [tSeq, tIfS, tAnd, tTest, tOp]
    refine (val_lenL (val_var rfl) (SqL.of hD2)) _ ?_
    refine (val_var rfl) _ ⟨rfl, _, rfl, ?_⟩
    cases c1 : decide (V.int (us.map V.ref).length = V.int (m : Nat)) with
    | false =>
      refine iteF ?_
      refine iteF ?_
      refine wo_each hD2 a2 okh (fun o h => (hmem o h).2) hL lowl fun H' s' => ?_
      rw [each2]
      dsimp only [tRet]
      exact fin _ H2 H' _ p n rfl rfl (SameBut.of_same (Same.refl _)) hb2 Bx (by omega) s' each eachT eachL
    | true =>
      refine iteT ?_
      have c1 := of_decide_eq_true c1
      injection c1 with c1
      rw [List.length_map] at c1
      have hm : (highI os).length = m := by rw [← ul]; omega
      dsimp only [tLenSetI]
      refine lat_lc (val_var rfl) hD2 a2 hlen fun H3 M s3 hM => ?_
      refine ⟨M, (highI os).map fun q => q.2, rfl, SqL.of hM, by rw [List.length_map]; omega, ?_⟩
      refine val_c _ ⟨rfl, _, rfl, ?_⟩
      have hb3 := s3 _ _ hb2
      have a3 : OsAt H3 us (highI os) := Paired.mapP a2 fun _ _ e => s3 _ _ e
      have hD3 := s3 _ _ hD2
      have hL3 := s3 _ _ hL
      cases c2 : decide (V.int (((firstMet (fun i => ((highI os).map fun q => q.2).getD i 0) ((highI os).map fun q => q.2).length).length : Nat) : Int) = V.int 1) with
      | false =>
        refine iteF ?_
        refine iteF ?_
        refine wo_each hD3 a3 okh (fun o h => (hmem o h).2) hL3 lowl fun H' s' => ?_
        rw [each2]
        dsimp only [tRet]
        exact fin _ H3 H' _ p n rfl rfl (SameBut.of_same s3) hb3 Bx (by omega) s' each eachT eachL
      | true =>
        refine iteT ?_
        have c2 := of_decide_eq_true c2
        injection c2 with c2
        obtain ⟨l, same⟩ := firstMet_one (Int.ofNat.inj c2)
        have same : ∀ o ∈ highI os, o.2 = l := fun o h => same _ (List.mem_map_of_mem (f := fun q : Int × Int => q.2) h)
        refine take_box rfl val_c hb3 Bx (by decide) (by decide) (by omega) fun d p4 n4 d0 d1 B4 le4 => ?_
        refine val_c _ ⟨d, 0, rfl, rfl, _, rfl, ?_⟩
        have s4 := SameBut.upd b H3 (.lst (bx p4 q n4))
        have hb4 : (upd H3 b (.lst (bx p4 q n4))) b = some (.lst (bx p4 q n4)) := upd_same
        have a4 : OsAt (upd H3 b (.lst (bx p4 q n4))) us (highI os) := a3.but s4 hb3
        have bD : D ≠ b := fun e => by
          have h1 := s1 _ _ hb
          rw [← e, hD] at h1
          injection h1 with h1
          injection h1 with h1
          cases us with
          | nil => cases h1
          | cons z r => cases h1
        have hD4 := s4 _ _ bD hD3
        have hL4 := s4 _ _ bL.symm hL3
        generalize (upd H3 b (.lst (bx p4 q n4))) = H4 at s4 hb4 a4 hD4 hL4 ⊢
        have s24 : SameBut b H2 H4 := (SameBut.of_same s3).trans s4
        cases decide ((0 : Int) < d) with
        | false =>
          refine iteF ?_
          refine wo_each hD4 a4 okh (fun o h => (hmem o h).2) hL4 lowl fun H' s' => ?_
          rw [each2]
          dsimp only [tRet]
          exact fin _ H4 H' _ p4 n4 rfl rfl s24 hb4 B4 (by omega) s' each eachT eachL
        | true =>
          refine iteT ?_
          have pwa := pw_any (l := l) (by omega : 0 < m) m4 w4 ox hm same
          cases eh : highI os with
          | nil =>
            rw [eh] at hm
            have : (0 : Nat) = m := hm
            omega
          | cons o0 hs =>
            have ho0 : o0 ∈ highI os := by rw [eh]; exact List.mem_cons_self ..
            rw [eh] at a4
            obtain ⟨u, us', rfl⟩ : ∃ u us', us = u :: us' := by
              cases a4 with
              | cons _ _ => exact ⟨_, _, rfl⟩
            have hu : H4 u = some (.tup [.int o0.1, .int o0.2]) := by
              cases a4 with
              | cons h _ => exact h
            rw [same o0 ho0] at hu
            have lb := (ok.2 o0 (hmem o0 ho0).1).2.2
            rw [same o0 ho0] at lb
            refine wo_any hD4 hu lb.1 lb.2 hL4 lowl ?_
            have e2 : (lowI os).map partI ++ [wpart (anyW l)] = ((lowI os).map oW ++ [anyW l]).map wpart := by
              rw [part_low, List.map_append]
              rfl
            rw [e2]
            dsimp only [tRet]
            refine fin _ H4 H4 _ p4 n4 rfl rfl s24 hb4 B4 (by omega) (Same.refl _) pwa (fun x hx => ?_) ?_
            · rcases List.mem_append.mp hx with hx | hx
              · obtain ⟨o, ho, rfl⟩ := List.mem_map.mp hx
                exact oW_tz (ok.2 o (List.mem_filter.mp ho).1)
              · rw [List.mem_singleton.mp hx]
                exact anyW_tz lb
            · have := any_len (os := os) (l := l) (by omega)
              omega
end
end K5
namespace K5
open PySem PySem.Spec PyProof.Rows L2
/-! ### set(xs) of a list, whatever its items are -/
section
variable {P : Program} {w : World} {A : Around} {E : Value → Shared → Prop} {s s0 : Shared}
abbrev setNew (w : World) : Obj := { cls := .type "set", dict := none, data := .set #[] 0 (.fresh 0 0 (!w.params.followText "set-order")) }
theorem fill_loop {I S : Addr} {fp wr : List Addr} {G : Array GenState → Array GenState → Prop} {n : Nat} {Pv : Nat → Value → Prop} {St : Nat → Shared → Prop} {R : Result → Shared → Prop} {J : Nat → Heap → Prop} (W : WalksS P w A.in1 I fp wr G n Pv St) (nf : S ∉ fp)
    (jk : ∀ (i : Nat) (h h' : Heap), J i h → (∀ b o, b ∉ wr → h.get? b = some o → h'.get? b = some o) → J i h')
    (step : ∀ (i : Nat) (v : Value) (s1 : Shared) (E : Value → Shared → Prop) (Q : Bool → Shared → Prop), i < n → Pv i v → J i s1.heap → (∀ b h' t', Heap.SameBut S s1.heap h' → J (i + 1) h' → s1.toks ≤ t' → Q b { s1 with heap := h', toks := t' }) → wpAny (model P w) A.in1 (setAdd S v) Q E s1)
    (fin : ∀ s', Moved (S :: wr) G s0 s' → J n s'.heap → R (.ok (.ret .none)) s') :
    ∀ (k i : Nat) (s : Shared), n - i = k → i ≤ n → St i s → J i s.heap → Moved (S :: wr) G s0 s → codeAny (model P w) A (.builtin "set.update.loop" ⟨[.ref S, .ref I], []⟩) R s := by
  have sub : ∀ b ∈ wr, b ∈ S :: wr := fun b hb => List.mem_cons_of_mem _ hb
  intro k
  induction k with
  | zero =>
    intro i s e le st j m
    obtain rfl : i = n := by omega
    refine codeAny_builtin PyProof.Rows.F.entry_set_update_loop ?_; rw [Around.under_plainId PyProof.Rows.F.plain_set_update_loop _]; show wpAny _ A.in1 (pyNext (.ref I) >>= _) _ _ s; refine wpAny_bind (W.done s _ _ st fun s' m' => ?_)
    show wpAny _ A.in1 (ret .none) _ _ s'
    exact wpAny_pure (fin s' (m.trans W.gtrans (m'.mono sub)) (jk _ _ _ j m'.heap))
  | succ k ih =>
    intro i s e le st j m
    have lt : i < n := by omega
    refine codeAny_builtin PyProof.Rows.F.entry_set_update_loop ?_; rw [Around.under_plainId PyProof.Rows.F.plain_set_update_loop _]; show wpAny _ A.in1 (pyNext (.ref I) >>= _) _ _ s; refine wpAny_bind (W.item i s _ _ lt st fun v s' pv st' m' => ?_)
    show wpAny _ A.in1 (holding [v] (setAdd S v) >>= _) _ _ s'
    refine wpAny_bind (wpAny_holding (step i v s' _ _ lt pv (jk _ _ _ j m'.heap) fun b h' t' sb j' tt => ?_))
    refine wpAny_pure ⟨plainId_quiet PyProof.Rows.F.plain_set_update_loop _, ih (i + 1) _ (by omega) lt (W.frame _ s' _ _ st' tt fun c hc o ec => ?_) j' ?_⟩
    · exact (sb.2 c fun z => nf (z ▸ hc)).trans ec
    · exact (m.trans W.gtrans (m'.mono sub)).then_heap tt fun c o hc ec => (sb.2 c fun z => hc (by rw [z]; exact List.mem_cons_self)).trans ec
theorem set_from {l : Addr} {items : Array Value} {J : Nat → Heap → Prop} {Q : Value → Shared → Prop} (hh : A.handled = none) (hl : s.heap.IsList l items)
    (j0 : ∀ h, h.get? s.heap.objs.size = some (setNew w) → (∀ b o, s.heap.get? b = some o → h.get? b = some o) → J 0 h)
    (jk : ∀ (i : Nat) (h h' : Heap), J i h → (∀ b o, b ≤ s.heap.objs.size → h.get? b = some o → h'.get? b = some o) → J i h')
    (step : ∀ (B : Around) (i : Nat) (v : Value) (s1 : Shared) (E : Value → Shared → Prop) (Q : Bool → Shared → Prop), B.units ≤ A.units + 5 → items[i]? = some v → J i s1.heap → (∀ b h' t', Heap.SameBut s.heap.objs.size s1.heap h' → J (i + 1) h' → s1.toks ≤ t' → Q b { s1 with heap := h', toks := t' }) → wpAny (model P w) B (setAdd s.heap.objs.size v) Q E s1)
    (fin : ∀ (h' : Heap) (t' : Nat), J items.size h' → (∀ b o, s.heap.get? b = some o → h'.get? b = some o) → Q (.ref s.heap.objs.size) { s with heap := h', toks := t' }) : wpAny (model P w) A (call (.type "set") [.ref l]) Q E s := by
  have old : ∀ {b o}, s.heap.get? b = some o → b < s.heap.objs.size := fun e => Heap.lt_size e
  obtain ⟨c, tl, mro⟩ := PySem.F.called_set.mro
  have made := PySem.F.called_set.made; have cs := PySem.F.called_set.sub
  refine wpAny_call (codeAny_of_tree ?_); show wpAny _ _ (callAny (.type "set") _) _ _ _; refine wpAny_pure ⟨Code.quiet_builtin _ (by decide +kernel), codeAny_builtin PySem.F.entry_type_call ?_⟩; rw [Around.under_plain (weight_type_call_type "set" [.ref l] []) rfl]
  have g1 := PySem.F.called_set.notType; have g2 := PySem.F.called_set.canCreate
  have g3 := PySem.F.typeCall_set_1 (.ref l); repeat (any_goals (first | assumption | wp_step))
  refine codeAny_mono (code_set_led1 (.ref l) (E := E) (Q₁ := fun x s1 => x = .ref s.heap.objs.size ∧ s1 = { s with heap := s.heap.push (setNew w) }) ⟨rfl, rfl⟩) fun r s1 hr => ?_
  cases r with
  | error e => exact hr
  | ok fl =>
    cases fl with
    | ret x =>
      obtain ⟨rfl, rfl⟩ := hr
      have hS : (s.heap.push (setNew w)).get? s.heap.objs.size = some (setNew w) := Heap.get?_push_size _ rfl
      have hT : Shared.TypeIs { s with heap := s.heap.push (setNew w) } (.ref s.heap.objs.size) "set" := ⟨_, hS, rfl⟩
      have li := PySem.F.called_set.init.lookup; have bi := PySem.F.called_set.init.bind (.ref s.heap.objs.size)
      iterate 1 (repeat (any_goals (first | assumption | wp_step)))
      refine codeAny_mono (codeAny_call_builtin (R := wants (fun r s2 => r = .none ∧ ∃ h' tk, s2 = { s with heap := h', toks := tk } ∧ J items.size h' ∧ ∀ b o, s.heap.get? b = some o → h'.get? b = some o) E) PySem.F.called_set.init.plain PySem.F.entry_set_init (check_set_init_1 hT ?_)) fun r2 s2 hr2 => ?_
      · obtain ⟨⟨ocls, odict, odata, oslots⟩, hol, hcl, nl, hdl⟩ := hl
        simp only at hcl hdl; subst hcl; subst hdl
        have hol2 : (s.heap.push (setNew w)).get? l = some { cls := .type "list", dict := odict, data := .seq items nl, slots := oslots } := Heap.get?_push_of_some _ hol
        have q1 := PySem.F.sub_list_set; have q2 := PySem.F.sub_list_frozenset
        have q3 : (Value.type "list" == Value.type "dict") = false := by decide
        have hl1 : (s.heap.push (setNew w)).IsList l items := ⟨_, hol2, rfl, nl, rfl⟩
        unfold Builtin.«set.__init__» noKeywords Builtin.Frozenset.updateFrom; generalize ei : pyIter = it; wp_walk; subst ei
        refine wpAny_pyIter_list hl1 (wpAny_bind (wpAny_runValue ?_))
        have lS : l < s.heap.objs.size := old hol
        have z1 : (s.heap.push (setNew w)).objs.size = s.heap.objs.size + 1 := Heap.size_push ..
        have lI : l ≠ (s.heap.push (setNew w)).objs.size := by rw [z1]; exact Nat.ne_of_lt (Nat.lt_succ_of_lt lS)
        have Sf : s.heap.objs.size ∉ [(s.heap.push (setNew w)).objs.size, l] := by
          rw [z1]; intro h
          rcases List.mem_cons.mp h with h | h
          · exact absurd h (Nat.ne_of_lt (Nat.lt_succ_self _))
          · exact absurd (List.mem_singleton.mp h).symm (Nat.ne_of_lt lS)
        have h3 : A.in1.in1.in1.handled = none := by simp [hh]
        refine fill_loop (s0 := { s with heap := s.heap.push (setNew w) }) (J := J) (Walks.list h3 _ l lI items).toS Sf (fun i h h' j kk => jk i h h' j fun b o hb e => kk b o (fun m => ?_) e) (fun i v s1 E' Q' lt pv j k => step _ i v s1 E' Q' (by simp only [Around.in1_units]; omega) pv j k) (fun s' m j => ?_) (items.size - 0) 0 _ (by omega) (Nat.zero_le _) ⟨⟨_, Heap.get?_push_size _ rfl, rfl, rfl⟩, hl1.push _⟩ (j0 _ (Heap.get?_push_of_some _ hS) fun b o e => Heap.get?_push_of_some _ (Heap.get?_push_of_some _ e)) ?_
        · have m := List.mem_singleton.mp m
          rw [m, z1] at hb
          exact absurd hb (Nat.not_le_of_lt (Nat.lt_succ_self _))
        · obtain ⟨h', g', d', tk', os1⟩ := s'
          have e1 : g' = s.gens := m.gens; have e2 : d' = s.drawn := m.drawn; have e3 : os1 = s.os := m.os
          subst e1; subst e2; subst e3
          show wpAny _ _ _ _ _ _
          refine wpAny_pure ?_; show wpAny _ _ (ret Value.none) _ _ _; refine wpAny_pure ⟨rfl, h', tk', rfl, j, fun b o e => ?_⟩
          have lb := old e
          refine m.heap b o (fun h => ?_) (Heap.get?_push_of_some _ e)
          rcases List.mem_cons.mp h with h | h
          · exact absurd h (Nat.ne_of_lt lb)
          · have h := List.mem_singleton.mp h
            rw [z1] at h
            exact absurd h (Nat.ne_of_lt (Nat.lt_succ_of_lt lb))
        · refine (Moved.refl (G := fun a b => b = a) fun _ => rfl).then_heap (Nat.le_refl _) fun b o _ e => Heap.get?_push_of_some _ e
      · cases r2 with
        | error e => exact hr2
        | ok fl2 =>
          cases fl2 with
          | ret r =>
            obtain ⟨rfl, h', tk, rfl, j, kk⟩ := hr2
            iterate 1 (repeat (any_goals (first | assumption | wp_step)))
            exact fin _ _ j kk
          | _ => exact hr2.elim
    | _ => exact hr.elim
end
end K5
namespace K5
open PySem PySem.Spec PyProof.Rows L2 PySem.Froz
/-! ### sorted(set(xs)), xs a list of texts -/
theorem tail_ris {ep : Nat} {es : Array (Int × Value)} {t : SetTable} {wd : Bool} (r : Ris t.place.toList) : Ris (tailTx ep es t wd).2.2.place.toList := by
  unfold tailTx
  split
  · exact relayAll_ris _ _ _
  · exact r
theorem tail_led {ep : Nat} {es : Array (Int × Value)} {t : SetTable} {wd : Bool} : (tailTx ep es t wd).2.2.led = t.led := by
  unfold tailTx
  split
  · exact relayAll_led _ _ _
  · rfl
theorem addTx_ris {D : SD} {h : Int} {v : Value} (r : Ris D.2.2.place.toList) : Ris (addTx h v D).2.2.place.toList := by
  refine tail_ris ?_
  have r1 := layNew_ris D.2.2 D.1 h v r
  split
  · exact r1
  · exact r1
theorem addTx_led {D : SD} {h : Int} {v : Value} : (addTx h v D).2.2.led = D.2.2.led := by
  refine tail_led.trans ?_
  have r1 := layNew_led D.2.2 D.1 h v
  split
  · exact r1
  · exact r1
section
variable {P : Program} {w : World} {A : Around} {E : Value → Shared → Prop} {s : Shared}
/-- a text that is there already -/
theorem add_in {a : Addr} {T : String} {D : SD} {l : List Str} {k : Str} {u : Tok} {Q : Bool → Shared → Prop} (ho : s.heap.get? a = some (sObj T D)) (F : TxOk P w D l) (hk : k ∈ l) (hb : l.length < scanBound) (h : Q false s) : wpAny (model P w) A (setAddHashed a (.str k u) (hashStr w k)) Q E s := by
  obtain ⟨es, ep, t⟩ := D
  have dat : (sObj T (es, ep, t)).data = .set es ep t := rfl
  have key : (strKind P w).is k (.str k u) = true := is_str k u
  have fit : t.fits es.size = true := F.fit
  have el : ElemsOf (strKind P w) es.toList := F.el
  have sz : es.size = l.length := F.sz
  unfold setAddHashed setAddHashedIn
  refine wpAny_holding (wpAny_bind (wpAny_setState_of ho dat fit ?_)); dsimp only; rw [byScan_of rfl (by rw [sz]; exact hb) el]; simp only [↓reduceIte]
  unfold setAddByScan
  refine wpAny_bind (wpAny_bind (wpAny_rule (wpAny_bind (wpAny_setScan_of (knd := strKind P w) (k := k) key ho dat fit el ?_))))
  cases fd : List.findIdx? (fun e => (strKind P w).is k e.2) es.toList with
  | some j =>
    dsimp only
    exact wpAny_pure (wpAny_pure h)
  | none =>
    exfalso
    obtain ⟨e, he, ek⟩ := (F.mem k).mp hk
    have c := List.findIdx?_eq_none_iff.mp fd e he
    rw [ek] at c
    cases c
/-- the set at a holds the texts l, and it can be walked -/
structure TxR (P : Program) (w : World) (h : Heap) (a : Addr) (l : List Str) : Prop where
  ex : ∃ D : SD, h.get? a = some (sObj "set" D) ∧ TxOk P w D l ∧ Ris D.2.2.place.toList ∧ (w.params.followText "set-order" = true ∨ D.2.2.led = true)
  nd : l.Nodup
theorem tx_add {a : Addr} {l : List Str} {k : Str} {u : Tok} {Q : Bool → Shared → Prop} (R : TxR P w s.heap a l) (hb : l.length + 1 < scanBound)
    (q : ∀ b h' l', Heap.SameBut a s.heap h' → TxR P w h' a l' → (∀ x, x ∈ l' ↔ x ∈ l ∨ x = k) → l'.length ≤ l.length + 1 → Q b { s with heap := h', toks := s.toks + 1 }) : wpAny (model P w) A (setAdd a (.str k u)) Q E s := by
  obtain ⟨⟨D, ho, F, r, ld⟩, nd⟩ := R
  unfold setAdd
  refine wpAny_holding (wpAny_bind ((PySem.strKind P w).pyHash (k := k) (is_str k u) ?_))
  by_cases hk : k ∈ l
  · refine add_in (s := { s with toks := s.toks + 1 }) ho F hk (by omega) ?_
    exact q false s.heap l (Heap.SameBut.refl a s.heap) ⟨⟨D, ho, F, r, ld⟩, nd⟩ (fun x => ⟨.inl, fun h => h.elim id fun e => e ▸ hk⟩) (Nat.le_succ _)
  · refine add_x (s := { s with toks := s.toks + 1 }) ho F hk hb ?_
    refine q true (s.heap.update a _) (k :: l) (Heap.SameBut.update _ _ _) ⟨⟨_, get_upd _ ho rfl, add_ok u F, addTx_ris r, ld.imp id fun e => addTx_led.trans e⟩, List.nodup_cons.mpr ⟨hk, nd⟩⟩ (fun x => ?_) (Nat.le_refl _)
    rw [List.mem_cons]
    exact Or.comm
theorem strs_item : ∀ {us : List Value} {zs : List Str}, StrsAre us zs → ∀ (i : Nat) (v : Value), us[i]? = some v → ∃ z t, v = .str z t ∧ zs[i]? = some z
  | _, _, .nil, i, v, h => by simp at h
  | _, _, .cons y t hr, 0, v, h => ⟨y, t, (Option.some.inj h).symm, rfl⟩
  | _, _, .cons y t hr, i + 1, v, h => strs_item hr i v h
theorem set_texts {l : Addr} {items : Array Value} {zs : List Str} {Q : Value → Shared → Prop} (hh : A.handled = none) (hl : s.heap.IsList l items) (hz : StrsAre items.toList zs) (few : zs.length < 60)
    (fin : ∀ (h' : Heap) (t' : Nat) (ks : List Str), TxR P w h' s.heap.objs.size ks → (∀ x, x ∈ ks ↔ x ∈ zs) → ks.length ≤ zs.length → (∀ b o, s.heap.get? b = some o → h'.get? b = some o) → Q (.ref s.heap.objs.size) { s with heap := h', toks := t' }) : wpAny (model P w) A (call (.type "set") [.ref l]) Q E s := by
  have sz : items.size = zs.length := by rw [← Array.length_toList]; exact PyProof.Rows.StrsAre.length hz
  refine set_from (J := fun i h => ∃ ks, TxR P w h s.heap.objs.size ks ∧ (∀ x, x ∈ ks ↔ x ∈ zs.take i) ∧ ks.length ≤ i) hh hl (fun h hs _ => ?_) (fun i h h' ⟨ks, R, m, le⟩ kk => ?_) (fun B i v s1 E' Q' _ hv ⟨ks, R, m, le⟩ q => ?_) (fun h' t' ⟨ks, R, m, le⟩ kk => ?_)
  · refine ⟨[], ⟨⟨(#[], 0, .fresh 0 0 (!w.params.followText "set-order")), hs, TxOk.nil rfl, List.Pairwise.nil, ?_⟩, List.nodup_nil⟩, fun x => by simp, Nat.le_refl _⟩
    show _ ∨ (!w.params.followText "set-order") = true
    cases w.params.followText "set-order"
    · exact .inr rfl
    · exact .inl rfl
  · obtain ⟨⟨D, ho, r⟩, nd⟩ := R
    exact ⟨ks, ⟨⟨D, kk _ _ (Nat.le_refl _) ho, r⟩, nd⟩, m, le⟩
  · obtain ⟨z, t, rfl, ez⟩ := strs_item hz i v (by rw [Array.getElem?_toList]; exact hv)
    have il := (List.getElem?_eq_some_iff.mp ez).1
    refine tx_add R (by unfold scanBound; omega) fun b h' l' sb R' m' le' => q b h' _ sb ⟨l', R', fun x => ?_, by omega⟩ (Nat.le_succ _)
    rw [m' x, m x, List.take_add_one, ez, List.mem_append]
    show _ ↔ _ ∨ x ∈ [z]
    rw [List.mem_singleton]
  · rw [sz, List.take_length] at m
    exact fin h' t' ks R m (by omega) kk
theorem strs_of_mem : ∀ (l : List Value), (∀ v ∈ l, ∃ k tk, v = Value.str k tk) → ∃ zs, StrsAre l zs
  | [], _ => ⟨[], .nil⟩
  | v :: l, h => by
    obtain ⟨k, tk, rfl⟩ := h v List.mem_cons_self
    obtain ⟨zs, hz⟩ := strs_of_mem l fun u hu => h u (List.mem_cons_of_mem _ hu)
    exact ⟨k :: zs, .cons k tk hz⟩
theorem strs_mem : ∀ {us : List Value} {zs : List Str}, StrsAre us zs → ∀ z, z ∈ zs ↔ ∃ t, Value.str z t ∈ us
  | _, _, .nil, z => by simp
  | _, _, .cons y t hr, z => by
    rw [List.mem_cons, strs_mem hr z]
    constructor
    · rintro (rfl | ⟨u, h⟩)
      · exact ⟨t, List.mem_cons_self⟩
      · exact ⟨u, List.mem_cons_of_mem _ h⟩
    · rintro ⟨u, h⟩
      rcases List.mem_cons.mp h with h | h
      · injection h with h
        exact .inl h
      · exact .inr ⟨u, h⟩
theorem cover_perm : ∀ {l m : List Str}, l.Nodup → (∀ x ∈ l, x ∈ m) → m.length ≤ l.length → m.Perm l
  | [], m, _, _, h => by
    rw [List.length_eq_zero_iff.mp (Nat.le_zero.mp h)]
  | x :: l, m, nd, sub, h => by
    obtain ⟨h1, h2⟩ := List.nodup_cons.mp nd
    have hx := sub x List.mem_cons_self
    have e := List.length_erase_of_mem hx
    have pos : 0 < m.length := List.length_pos_of_mem hx
    rw [List.length_cons] at h
    exact (List.perm_cons_erase hx).trans ((cover_perm h2 (fun y hy => (List.mem_erase_of_ne (fun c : y = x => h1 (by rw [← c]; exact hy))).2 (sub y (List.mem_cons_of_mem _ hy))) (by omega)).cons x)
theorem sorted_texts {a : Addr} {ks : List Str} {Q : Value → Shared → Prop} (R : TxR P w s.heap a ks) (hh : A.handled = none) (few : ks.length < 60)
    (q : ∀ s' p (out : Array Value) (c : Nat) (ds : List Str), (∀ b o, s.heap.get? b = some o → s'.heap.get? b = some o) → s'.gens = s.gens → s'.os = s.os → s.heap.objs.size ≤ p → s'.heap.get? p = some (seqObj "list" out c) → StrsAre out.toList ds → ds.Nodup → (∀ x, x ∈ ds ↔ x ∈ ks) → ds.length = ks.length → Q (.ref p) s') : wpAny (model P w) A (call (.builtin "sorted") [.ref a]) Q E s := by
  obtain ⟨⟨⟨es, ep, t⟩, ho, F, r, ld⟩, nd⟩ := R
  have sz : es.size = ks.length := F.sz
  have fit : t.fits es.size = true := F.fit
  have el : ElemsOf (strKind P w) es.toList := F.el
  have mem : ∀ k : Str, k ∈ ks ↔ ∃ e ∈ es.toList, (strKind P w).is k e.2 = true := F.mem
  refine Calls.call_function_entry kind_sorted plain_sorted entry_sorted (args_sorted1 _) ?_; unfold Builtin.«sorted»; refine wpAny_bind (m := checkCount "sorted" 1 1 _) (wpAny_pure ?_)
  refine wpAny_bind (collect_set (A := A.in1) hh ⟨_, ho, rfl, rfl⟩ fit (by rw [sz]; unfold scanBound; omega) r ld fun s1 vs k1 hz g1 o1 pm => ?_)
  have vl : vs.length = ks.length := by rw [pm.length_eq, List.length_map, Array.length_toList, sz]
  obtain ⟨zs, hS⟩ : ∃ zs, StrsAre vs zs := strs_of_mem vs fun v hv => by
    obtain ⟨e, he, rfl⟩ := List.mem_map.mp (pm.mem_iff.mp hv)
    obtain ⟨⟨k, ek, _⟩, _⟩ := el e he
    exact ⟨k, Value.isStrOf_shape ek⟩
  have zm : ∀ x, x ∈ zs ↔ x ∈ ks := fun x => by
    rw [strs_mem hS, mem]
    constructor
    · rintro ⟨u, h⟩
      obtain ⟨e, he, ee⟩ := List.mem_map.mp (pm.mem_iff.mp h)
      exact ⟨e, he, by rw [ee]; exact is_str x u⟩
    · rintro ⟨e, he, ee⟩
      obtain ⟨u, eu⟩ := Value.isStrOf_shape ee
      exact ⟨u, pm.mem_iff.mpr (List.mem_map.mpr ⟨e, he, eu⟩)⟩
  have zl : zs.length = ks.length := by rw [← PyProof.Rows.StrsAre.length hS, vl]
  have znd : zs.Nodup := (cover_perm nd (fun x hx => (zm x).mpr hx) (by omega)).nodup_iff.mpr nd
  refine wpAny_bind (wpAny_newList ?_ (by rw [vl, sizeLine_eq]; omega))
  have new : (s1.heap.push (seqObj "list" vs.toArray 0)).get? s1.heap.objs.size = some (seqObj "list" vs.toArray 0) := Heap.get?_push_size _ rfl
  refine wpAny_bind (wpAny_holding (wpAny_call_entry slot_list_sort ⟨_, new, rfl⟩ entry_list_sort (list_sort_treeKAny strKind_oneLt new hS.keysOf (fun v₁ v₂ rest e => keyKind_strs (by rw [← e]; exact hS)) (by rw [vl, sizeLine_eq]; omega) fun st' hp hs => ?_) (args_list_sort _)))
  obtain ⟨ds, h1, h2, h3⟩ := sorted_out_str hS hp hs
  obtain ⟨c, hc⟩ := sortedHeap_at (vs := vs) (out := (arrOf st').map (·.2)) new
  refine ⟨_, rfl, wpAny_pure ⟨_, rfl, q _ s1.heap.objs.size _ c ds (fun b u e => ?_) g1 o1 hz hc h1 (h2.nodup_iff.mpr znd) (fun x => by rw [h2.mem_iff]; exact zm x) (by rw [h2.length_eq, zl])⟩⟩
  have e1 := k1 b u e
  have lt := Heap.lt_size e1
  show (sortedHeap (s1.heap.push (seqObj "list" vs.toArray 0)) s1.heap.objs.size vs _).get? b = some u
  rw [sortedHeap_old (Nat.ne_of_lt lt) (by rw [size_push']; exact Nat.lt_succ_of_lt lt), Heap.get?_push_of_some _ e1]
end
end K5
namespace K5
open PySem PySem.Spec PyProof.Rows L2
/-! ### keys that are tuples of pairs of whole numbers -/
def nk (os : List (Int × Int)) : NestedKey := .tup (os.map fun q => .tup [.num q.1, .num q.2])
theorem nk_inj : ∀ {a b : List (Int × Int)}, nk a = nk b → a = b
  | [], [], _ => rfl
  | [], _ :: _, h => by
    unfold nk at h
    injection h with h
    cases h
  | _ :: _, [], h => by
    unfold nk at h
    injection h with h
    cases h
  | q :: r, p :: t, h => by
    unfold nk at h
    injection h with h
    rw [List.map_cons, List.map_cons] at h
    injection h with h1 h2
    injection h1 with h1
    injection h1 with h3 h4
    injection h3 with h3
    injection h4 with h4
    injection h4 with h4
    rw [nk_inj (a := r) (b := t) (congrArg NestedKey.tup h2), Prod.ext h3 h4]
theorem nk_depth (os : List (Int × Int)) : (nk os).depth ≤ 8 := by
  have key : ∀ os : List (Int × Int), NestedKey.depthAll (os.map fun q => .tup [.num q.1, .num q.2]) ≤ 1 := by
    intro os
    induction os with
    | nil => exact Nat.zero_le _
    | cons q r ih =>
      rw [List.map_cons, NestedKey.depthAll]
      simp only [NestedKey.depth, NestedKey.depthAll]
      omega
  unfold nk
  rw [NestedKey.depth]
  have := key os
  omega
def PrAt (h : Heap) (q : Int × Int) (a : Addr) : Prop := ∃ o t u n, h.get? a = some o ∧ o.cls = .type "tuple" ∧ o.data = .seq #[.int q.1 t, .int q.2 u] n
inductive PrsAt (h : Heap) : List (Int × Int) → List Value → Prop
  | nil : PrsAt h [] []
  | cons {q a os vs} : PrAt h q a → PrsAt h os vs → PrsAt h (q :: os) (.ref a :: vs)
def NkAt (h : Heap) (os : List (Int × Int)) (a : Addr) : Prop := ∃ o vs n, h.get? a = some o ∧ o.cls = .type "tuple" ∧ o.data = .seq vs n ∧ PrsAt h os vs.toList
theorem PrsAt.all {h : Heap} : ∀ {os : List (Int × Int)} {vs : List Value}, PrsAt h os vs → NestedAll h (os.map fun q => .tup [.num q.1, .num q.2]) vs
  | _, _, .nil => .nil
  | _, _, .cons (q := q) ⟨o, t, u, n, ho, hc, hd⟩ r => .cons (.tup ho hc hd (.cons (.int q.1 t) (.cons (.int q.2 u) .nil))) r.all
theorem NkAt.is {h : Heap} {os : List (Int × Int)} {a : Addr} (x : NkAt h os a) : NestedIs h (nk os) (.ref a) := by
  obtain ⟨o, vs, n, ho, hc, hd, r⟩ := x
  exact .tup ho hc hd r.all
theorem PrsAt.at {h h' : Heap} (kk : ∀ a o vs n, h.get? a = some o → o.data = .seq vs n → h'.get? a = some o) : ∀ {os : List (Int × Int)} {vs : List Value}, PrsAt h os vs → PrsAt h' os vs
  | _, _, .nil => .nil
  | _, _, .cons ⟨o, t, u, n, ho, hc, hd⟩ r => .cons ⟨o, t, u, n, kk _ _ _ _ ho hd, hc, hd⟩ (r.at kk)
theorem NkAt.at {h h' : Heap} (kk : ∀ a o vs n, h.get? a = some o → o.data = .seq vs n → h'.get? a = some o) {os : List (Int × Int)} {a : Addr} (x : NkAt h os a) : NkAt h' os a := by
  obtain ⟨o, vs, n, ho, hc, hd, r⟩ := x
  exact ⟨o, vs, n, kk _ _ _ _ ho hd, hc, hd, r.at kk⟩
theorem NkAt.ty {s : Shared} {os : List (Int × Int)} {a : Addr} (x : NkAt s.heap os a) : s.TypeIs (.ref a) "tuple" := by
  obtain ⟨o, vs, n, ho, hc, _⟩ := x
  exact ⟨o, ho, hc⟩
section
variable {P : Program} {w : World} {A : Around} {E : Value → Shared → Prop} {s : Shared}
/-- hash(v) is told by its value alone, n levels down -/
def ByVal (P : Program) (w : World) (n : Nat) (s : Shared) (v : Value) : Prop := ∀ (A : Around) (E : Value → Shared → Prop) (Q : Bool → Shared → Prop), Q true s → wpAny (model P w) A (hashByValue n v) Q E s
/-- no class statement under v, n levels down -/
def NoCls (P : Program) (w : World) (n : Nat) (s : Shared) (v : Value) : Prop := ∀ (A : Around) (E : Value → Shared → Prop) (Q : Bool → Shared → Prop), Q false s → wpAny (model P w) A (ofAClassStatement n v) Q E s
theorem byVal_tup {n m : Nat} {a : Addr} {o : Obj} {ys : Array Value} (ho : s.heap.get? a = some o) (hc : o.cls = .type "tuple") (hd : o.data = .seq ys m) (all : ∀ y ∈ ys.toList, ByVal P w n s y) : ByVal P w (n + 1) s (.ref a) := fun A E Q q => by
  unfold hashByValue
  refine wpAny_bind (wpAny_specialOf (T := "tuple") ⟨o, ho, hc⟩ F.slot_tuple_hash.lookup ?_)
  show wpAny _ _ (seqItems? (.ref a) >>= _) _ _ s
  refine wpAny_bind (wpAny_seqItems ho hd (wpAny_bind ?_))
  show wpAny _ _ (forIn ys _ _) _ _ s
  rw [← Array.forIn_toList]
  refine wpAny_forIn_list _ (fun more r s2 => r.1 = none ∧ s2 = s ∧ ∀ y ∈ more, ByVal P w n s y) _ ?_ ?_ _ _ ⟨rfl, rfl, all⟩
  · rintro y more r s2 ⟨r1, rfl, al⟩
    refine wpAny_bind (al y List.mem_cons_self _ _ _ ?_)
    rw [if_neg (by decide)]
    exact wpAny_pure ⟨rfl, rfl, fun z hz => al z (List.mem_cons_of_mem _ hz)⟩
  · rintro ⟨r1, r2⟩ s2 ⟨e, rfl, _⟩
    cases e
    exact wpAny_pure q
theorem noCls_tup {n m : Nat} {a : Addr} {o : Obj} {ys : Array Value} (ho : s.heap.get? a = some o) (hc : o.cls = .type "tuple") (hd : o.data = .seq ys m) (all : ∀ y ∈ ys.toList, NoCls P w n s y) : NoCls P w (n + 1) s (.ref a) := fun A E Q q => by
  unfold ofAClassStatement
  refine wpAny_bind (wpAny_typeOf (T := "tuple") ⟨o, ho, hc⟩ ?_)
  dsimp only
  simp only [show (("tuple" : String) == "tuple") = true by decide, if_true, Bool.not_true, Bool.false_eq_true, if_false]
  first
    | (refine wpAny_bind (wpAny_pure ?_); simp only [Bool.not_true, Bool.false_eq_true, if_false])
    | skip
  show wpAny _ _ (seqItems? (.ref a) >>= _) _ _ s
  refine wpAny_bind (wpAny_seqItems ho hd ?_)
  dsimp only
  refine wpAny_bind ?_
  show wpAny _ _ (forIn ys _ _) _ _ s
  rw [← Array.forIn_toList]
  refine wpAny_forIn_list _ (fun more r s2 => r.1 = none ∧ s2 = s ∧ ∀ y ∈ more, NoCls P w n s y) _ ?_ ?_ _ _ ⟨rfl, rfl, all⟩
  · rintro y more r s2 ⟨r1, rfl, al⟩
    refine wpAny_bind (al y List.mem_cons_self _ _ _ ?_)
    rw [if_neg (by decide)]
    exact wpAny_pure ⟨rfl, rfl, fun z hz => al z (List.mem_cons_of_mem _ hz)⟩
  · rintro ⟨r1, r2⟩ s2 ⟨e, rfl, _⟩
    cases e
    exact wpAny_pure q
theorem byVal_int (n : Nat) (i : Int) (t : Tok) : ByVal P w n s (.int i t) := fun A E Q q => by
  rw [show hashByValue n (.int i t) = pure true by cases n <;> rfl]
  exact wpAny_pure q
theorem noCls_int (n : Nat) (i : Int) (t : Tok) : NoCls P w n s (.int i t) := fun A E Q q => by
  rw [show ofAClassStatement n (.int i t) = pure false by cases n <;> rfl]
  exact wpAny_pure q
theorem PrsAt.byVal : ∀ {os : List (Int × Int)} {vs : List Value}, PrsAt s.heap os vs → ∀ y ∈ vs, ByVal P w 7 s y
  | _, _, .nil, y, h => by cases h
  | _, _, .cons ⟨o, t, u, n, ho, hc, hd⟩ r, y, h => by
    rcases List.mem_cons.mp h with rfl | h
    · refine byVal_tup ho hc hd fun z hz => ?_
      rcases List.mem_cons.mp hz with rfl | hz
      · exact byVal_int _ _ _
      · rw [List.mem_singleton.mp hz]
        exact byVal_int _ _ _
    · exact r.byVal y h
theorem PrsAt.noCls : ∀ {os : List (Int × Int)} {vs : List Value}, PrsAt s.heap os vs → ∀ y ∈ vs, NoCls P w 7 s y
  | _, _, .nil, y, h => by cases h
  | _, _, .cons ⟨o, t, u, n, ho, hc, hd⟩ r, y, h => by
    rcases List.mem_cons.mp h with rfl | h
    · refine noCls_tup ho hc hd fun z hz => ?_
      rcases List.mem_cons.mp hz with rfl | hz
      · exact noCls_int _ _ _
      · rw [List.mem_singleton.mp hz]
        exact noCls_int _ _ _
    · exact r.noCls y h
theorem NkAt.byVal {os : List (Int × Int)} {a : Addr} (x : NkAt s.heap os a) : ByVal P w 8 s (.ref a) := by
  obtain ⟨o, vs, n, ho, hc, hd, r⟩ := x
  exact byVal_tup ho hc hd r.byVal
theorem NkAt.noCls {os : List (Int × Int)} {a : Addr} (x : NkAt s.heap os a) : NoCls P w 8 s (.ref a) := by
  obtain ⟨o, vs, n, ho, hc, hd, r⟩ := x
  exact noCls_tup ho hc hd r.noCls
theorem NkAt.quiet {os : List (Int × Int)} {a : Addr} {Q : Bool → Shared → Prop} (x : NkAt s.heap os a) (q : Q true s) : wpAny (model P w) A (eqIsQuiet 8 (.ref a)) Q E s := quiet_key (nk os) _ 8 s x.is (nk_depth os) A E Q q
/-- a search among such keys shows nothing -/
theorem unseen {os : List (Int × Int)} {a : Addr} {Q : Bool → Shared → Prop} (x : NkAt s.heap os a) {ys : List Value} (hy : ∀ y ∈ ys, ∃ os' c, y = Value.ref c ∧ NkAt s.heap os' c) (q : Q false s) : wpAny (model P w) A (searchCouldBeSeen (.ref a) ys) Q E s := by
  unfold searchCouldBeSeen
  refine wpAny_bind (wpAny_forIn_list _ (fun more r s2 => r.1 = none ∧ s2 = s ∧ ∀ y ∈ more, ∃ os' c, y = Value.ref c ∧ NkAt s.heap os' c) _ ?_ ?_ _ _ ⟨rfl, rfl, hy⟩)
  · rintro y more r s2 ⟨r1, rfl, al⟩
    obtain ⟨os', c, rfl, xc⟩ := al y List.mem_cons_self
    have al' : ∀ y ∈ more, ∃ os' c, y = Value.ref c ∧ NkAt s2.heap os' c := fun z hz => al z (List.mem_cons_of_mem _ hz)
    dsimp only
    by_cases c1 : (a == c || (carriedByValue (.ref a) && carriedByValue (.ref c))) = true
    · exact wp_if_pos c1 (wpAny_pure ⟨rfl, rfl, al'⟩)
    · refine wp_if_neg c1 (wpAny_bind (x.quiet ?_))
      rw [if_neg (by decide)]
      refine wpAny_bind (xc.quiet ?_)
      rw [if_neg (by decide)]
      refine wpAny_bind (x.noCls _ _ _ ?_)
      rw [if_neg (by decide)]
      refine wpAny_bind (xc.noCls _ _ _ ?_)
      rw [if_neg (by decide)]
      exact wpAny_pure ⟨rfl, rfl, al'⟩
  · rintro ⟨r1, r2⟩ s2 ⟨e, rfl, _⟩
    cases e
    exact wpAny_pure q
end
end K5
namespace K5
open PySem PySem.Spec PyProof.Rows L2
/-! ### a set of at most four such keys -/
abbrev kh (w : World) (os : List (Int × Int)) : Int := (nk os).hash w
abbrev prb (m : Nat) (h : Int) (c : Nat) : SetTable.Probe := nth m (runAt m (SetTable.bits h % (m + 1)) (SetTable.bits h)) c
theorem prb_dummy (m : Nat) (h : Int) : ∀ c, (prb m h c).dummy = none := by
  have key : ∀ (c : Nat) (p : SetTable.Probe), p.dummy = none → (nth m p c).dummy = none := by
    intro c
    induction c with
    | zero => exact fun _ e => e
    | succ c ih =>
      intro p e
      refine ih (adv m p) ?_
      unfold adv
      split
      · exact e
      · exact e
  exact fun c => key c _ rfl
theorem prb_add (m : Nat) (h : Int) (c q : Nat) : nth m (prb m h c) q = prb m h (c + q) := (nth_add m c _ q).symm
structure NR (P : Program) (w : World) (h : Heap) (a : Addr) (L : List (Addr × List (Int × Int))) (es : Array (Int × Value)) (ep : Nat) (t : SetTable) : Prop where
  ob : ∃ x, h.get? a = some x ∧ x.ExactSet ∧ x.data = .set es ep t
  rows : es.toList = L.map fun p => (kh w p.2, Value.ref p.1)
  tab : TabOk t (L.map fun p => kh w p.2)
  m7 : t.mask = 7
  nd : (L.map (·.2)).Nodup
  tup : ∀ p ∈ L, NkAt h p.2 p.1
  plain : t.plain = true
  led : w.params.followText "set-order" = true ∨ t.led = true
  few : L.length ≤ 4
section
variable {P : Program} {w : World} {A : Around} {E : Value → Shared → Prop} {s : Shared} {a : Addr} {L : List (Addr × List (Int × Int))} {es : Array (Int × Value)} {ep : Nat} {t : SetTable}
theorem NR.sz {h : Heap} (R : NR P w h a L es ep t) : es.size = L.length := by
  have e := congrArg List.length R.rows
  rw [Array.length_toList, List.length_map] at e
  exact e
theorem NR.fit {h : Heap} (R : NR P w h a L es ep t) : t.fits es.size = true := by
  have e1 := R.tab.sz
  have e2 := R.sz
  have e3 := R.few
  have e4 := R.m7
  rw [List.length_map] at e1
  unfold SetTable.fits SetTable.fill
  rw [R.tab.dm, Bool.and_eq_true, beq_iff_eq, decide_eq_true_eq]; refine ⟨by omega, ?_⟩
  show t.place.size + 0 ≤ t.mask
  omega
theorem NR.at {h : Heap} (R : NR P w h a L es ep t) {i : Nat} {p : Addr × List (Int × Int)} (e : L[i]? = some p) : es[i]? = some (kh w p.2, Value.ref p.1) := by
  rw [← Array.getElem?_toList, R.rows, List.getElem?_map, e]
  rfl
theorem NR.stay {h : Heap} (R : NR P w h a L es ep t) : ¬ t.gaveWay = true := by
  unfold SetTable.gaveWay
  rw [R.m7]
  decide
/-- the search from the c-th slot of its way on -/
theorem nk_seek (R : NR P w s.heap a L es ep t) {x : Addr} {key : List (Int × Int)} (hx : NkAt s.heap key x) (hu : A.units + 8 < cLine) {M : Nat} (mf : M < 10 * SetTable.turns t.mask) (mo : way t.mask (kh w key) M ∉ t.place.toList) (mi : ∀ c, c < M → way t.mask (kh w key) c ∈ t.place.toList) {Q : SetFound → Shared → Prop}
    (qin : key ∈ L.map (·.2) → Q (.there none) s) (qout : key ∉ L.map (·.2) → Q (.free (way t.mask (kh w key) M) false) s) :
    ∀ (f c : Nat) (st : Option SetTable.Probe), st.getD (t.probeStart (kh w key)) = prb t.mask (kh w key) c → c ≤ M → M - c < f →
      (∀ (i : Nat) p, L[i]? = some p → p.2 = key → ∃ d, c ≤ d ∧ d < M ∧ t.place.toList[i]? = some (way t.mask (kh w key) d)) → wpAny (model P w) A (setSearchFrom a (.ref x) (kh w key) true f st) Q E s
  | 0, _, _, _, _, hf, _ => absurd hf (Nat.not_lt_zero _)
  | f + 1, c, st, hst, hc, hf, ahead => by
    obtain ⟨o, ho, hex, hd⟩ := R.ob
    have fit := R.fit
    rw [setSearchFrom_succ]
    refine wpAny_bind (wpAny_setState_of ho hd fit ?_); dsimp only; refine wp_if_neg R.stay ?_; try refine wpAny_bind (wpAny_pure ?_)
    have jj : ∀ q, (nth t.mask (prb t.mask (kh w key) c) q).j = way t.mask (kh w key) (c + q) := fun q => congrArg SetTable.Probe.j (prb_add t.mask (kh w key) c q)
    have hat : ∀ (i : Nat) p, L[i]? = some p → (fun i => (es[i]?.map (·.1)).getD 0) i = kh w p.2 := fun i p hp => by
      show (es[i]?.map (·.1)).getD 0 = kh w p.2
      rw [R.at hp]
      rfl
    rcases go_spec t R.tab.ris R.tab.dm (fun i => (es[i]?.map (·.1)).getD 0) (kh w key) (10 * SetTable.turns t.mask) (M - c) _ (prb_dummy _ _ c) (by omega) (fun q hq => by rw [jj]; exact mi (c + q) (by omega)) (by rw [jj, show c + (M - c) = M by omega]; exact mo) with ⟨q, i, hq, hi, hh, no, pr⟩ | ⟨no, pr⟩
    · have pr2 : t.probe (fun i => (es[i]?.map (·.1)).getD 0) (kh w key) (st.getD (t.probeStart (kh w key))) = some (.candidate (way t.mask (kh w key) (c + q)) i (prb t.mask (kh w key) (c + (q + 1)))) := by
        rw [hst, ← jj, ← prb_add]
        exact pr
      rw [pr2]
      dsimp only
      rw [jj] at hi
      have il : i < L.length := by
        have h1 := (List.getElem?_eq_some_iff.mp hi).1
        have h2 := R.tab.sz
        rw [List.length_map] at h2
        rw [Array.length_toList] at h1
        omega
      obtain ⟨p, hp⟩ : ∃ p, L[i]? = some p := ⟨L[i], List.getElem?_eq_getElem il⟩
      have pm : p ∈ L := List.mem_of_getElem? hp
      have more : wpAny (model P w) A (searchRest a (.ref x) (kh w key) true f es t (way t.mask (kh w key) (c + q)) i (prb t.mask (kh w key) (c + (q + 1)))) Q E s := by
        unfold searchRest
        rw [R.at hp]
        dsimp only
        refine wpAny_bind (wpAny_holding ((nestedKind P w).eqBool hu ⟨(R.tup p pm).is, nk_depth _⟩ ⟨hx.is, nk_depth _⟩ (wpAny_bind (wpAny_setState_of ho hd fit ?_))))
        dsimp only
        by_cases ke : p.2 = key
        · refine wp_if_pos (by simp [ke]) (wpAny_pure (qin ?_))
          exact List.mem_map.mpr ⟨p, pm, ke⟩
        · have kn : nk p.2 ≠ nk key := fun e => ke (nk_inj e)
          refine wp_if_neg (by simp [kn]) ?_
          try refine wpAny_bind (wpAny_pure ?_)
          rw [sameMem]
          dsimp only
          have sl : t.slot (way t.mask (kh w key) (c + q)) = .live i := slot_live R.tab.ris hi
          simp only [if_true, sl, R.at hp]
          refine wpAny_bind (wpAny_isSame_ref_self (wpAny_bind (wpAny_pure ?_)))
          simp only [if_true]
          refine wp_if_neg (by simp [kn]) (nk_seek R hx hu mf mo mi qin qout f (c + (q + 1)) _ rfl (by omega) (by omega) fun i0 p0 h0 k0 => ?_)
          obtain ⟨d, d1, d2, d3⟩ := ahead i0 p0 h0 k0
          refine ⟨d, ?_, d2, d3⟩
          have n1 : ¬ d < c + q := fun z => by
            refine no (d - c) i0 (by omega) (by rw [jj, show c + (d - c) = d by omega]; exact d3) ?_
            exact (hat i0 p0 h0).trans (by rw [k0])
          have n2 : d ≠ c + q := fun z => by
            rw [z] at d3
            have s0 := slot_live R.tab.ris d3
            rw [sl] at s0
            injection s0 with s0
            rw [← s0, hp] at h0
            injection h0 with h0
            exact ke (by rw [h0]; exact k0)
          omega
      by_cases hl : t.led = true
      · refine wp_if_neg (by simp [hl]) ?_
        try refine wpAny_bind (wpAny_pure ?_)
        exact more
      · refine wp_if_pos (by simp [hl]) (wpAny_bind (unseen hx (fun y hy => ?_) ?_))
        · obtain ⟨e, he, rfl⟩ := List.mem_map.mp hy
          have he2 : e ∈ es.toList := by
            have := Array.mem_toList_iff.mp he
            exact Array.mem_toList_iff.mpr (Array.mem_filter.mp this).1
          rw [R.rows] at he2
          obtain ⟨p2, hp2, rfl⟩ := List.mem_map.mp he2
          exact ⟨p2.2, p2.1, rfl, R.tup p2 hp2⟩
        · refine wp_if_neg (by decide) ?_
          try refine wpAny_bind (wpAny_pure ?_)
          exact more
    · have pr2 : t.probe (fun i => (es[i]?.map (·.1)).getD 0) (kh w key) (st.getD (t.probeStart (kh w key))) = some (.empty (way t.mask (kh w key) M) none) := by
        have e : way t.mask (kh w key) M = (nth t.mask (prb t.mask (kh w key) c) (M - c)).j := by rw [jj, show c + (M - c) = M by omega]
        rw [hst, e]
        exact pr
      rw [pr2]
      dsimp only
      refine wpAny_pure (qout fun hm => ?_)
      obtain ⟨p0, m0, k0⟩ := List.mem_map.mp hm
      obtain ⟨i0, h0⟩ := List.getElem?_of_mem m0
      obtain ⟨d, d1, d2, d3⟩ := ahead i0 p0 h0 k0
      refine no (d - c) i0 (by omega) (by rw [jj, show c + (d - c) = d by omega]; exact d3) ?_
      exact (hat i0 p0 h0).trans (by rw [k0])
theorem nk_find (R : NR P w s.heap a L es ep t) {x : Addr} {key : List (Int × Int)} (hx : NkAt s.heap key x) (hu : A.units + 8 < cLine) {Q : SetFound → Shared → Prop} (qin : key ∈ L.map (·.2) → Q (.there none) s)
    (qout : ∀ M, key ∉ L.map (·.2) → way t.mask (kh w key) M ∉ t.place.toList → (∀ c, c < M → way t.mask (kh w key) c ∈ t.place.toList) → Q (.free (way t.mask (kh w key) M) false) s) : wpAny (model P w) A (setSearch a (.ref x) (kh w key) true) Q E s := by
  have few := R.few
  have m7 := R.m7
  obtain ⟨M, mf, mo, mi⟩ := R.tab.first (by rw [List.length_map]; omega) (kh w key)
  have big : M < 100000 := by
    unfold SetTable.turns at mf
    rw [m7] at mf
    omega
  unfold setSearch
  refine nk_seek R hx hu mf mo mi qin (fun hn => qout M hn mo mi) 100000 0 none rfl (Nat.zero_le _) (by omega) fun i p hp k0 => ?_
  have hi : (L.map fun p => kh w p.2)[i]? = some (kh w key) := by
    rw [List.getElem?_map, hp, ← k0]
    rfl
  have il : i < t.place.toList.length := by
    have h1 := (List.getElem?_eq_some_iff.mp hp).1
    have h2 := R.tab.sz
    rw [List.length_map] at h2
    rw [Array.length_toList]
    omega
  have hj := List.getElem?_eq_getElem il
  obtain ⟨d, hd, e⟩ := R.tab.before mo hi hj
  exact ⟨d, Nat.zero_le _, hd, by rw [hj, e]⟩
theorem put_mid {α : Type} (L : List α) (p : Nat) (x : α) : (L.take p ++ x :: L.drop p).Perm (x :: L) := (List.perm_middle (a := x) (l₁ := L.take p) (l₂ := L.drop p)).trans (by rw [List.take_append_drop])
theorem nk_add (R : NR P w s.heap a L es ep t) {x : Addr} {key : List (Int × Int)} (hx : NkAt s.heap key x) (hu : A.units + 8 < cLine) (few : L.length + 1 ≤ 4) {Q : Bool → Shared → Prop}
    (q : ∀ b h' L' es' ep' t', Heap.SameBut a s.heap h' → NR P w h' a L' es' ep' t' → (∀ p ∈ L', p ∈ L ∨ p = (x, key)) → (∀ o ∈ L.map (·.2), o ∈ L'.map (·.2)) → key ∈ L'.map (·.2) → L'.length ≤ L.length + 1 → Q b { s with heap := h', toks := s.toks + (nk key).draws }) : wpAny (model P w) A (setAdd a (.ref x)) Q E s := by
  obtain ⟨o, ho, hex, hd⟩ := R.ob
  have fit := R.fit
  have hsz := R.sz
  unfold setAdd
  refine wpAny_holding (wpAny_bind ((nestedKind P w).pyHash hu ⟨hx.is, nk_depth _⟩ ?_))
  show wpAny _ _ (setAddHashed a (.ref x) (kh w key)) _ _ { s with toks := s.toks + (nk key).draws }
  unfold setAddHashed
  rw [show (100000 : Nat) = 99999 + 1 from rfl, setAddHashedIn_succ]; refine wpAny_holding (wpAny_bind (wpAny_setState_of ho hd fit ?_)); dsimp only; refine wp_if_neg (by simp [byScan, Value.scannable]) ?_; try refine wpAny_bind (wpAny_pure ?_)
  refine wpAny_bind (nk_find (s := { s with toks := s.toks + (nk key).draws }) R hx hu (fun hm => ?_) fun M hm mo mi => ?_)
  · dsimp only
    exact wpAny_pure (q false s.heap L es ep t (Heap.SameBut.refl a s.heap) R (fun p hp => .inl hp) (fun _ h => h) hm (Nat.le_succ _))
  · dsimp only
    refine wpAny_bind (wpAny_setState_of ho hd fit ?_)
    dsimp only
    obtain ⟨p1, p2, p3, p4, p5, p6, p7, p8, p9⟩ := R.tab.put mo mi
    have pp : (t.put (way t.mask (kh w key) M)).1.plain = true := by rw [p6]; exact R.plain
    generalize t.put (way t.mask (kh w key) M) = pt at p1 p3 p4 p5 p6 p7 p8 p9 pp ⊢
    obtain ⟨t1, pl⟩ := pt
    dsimp only at p1 p3 p4 p5 p6 p7 p8 p9 pp ⊢
    subst p1
    first
      | (refine wpAny_bind ?_; refine wp_if_pos pp ?_; refine NkAt.byVal (s := { s with toks := s.toks + (nk key).draws }) hx _ _ _ ?_)
      | refine wp_if_pos pp (wpAny_bind (NkAt.byVal (s := { s with toks := s.toks + (nk key).draws }) hx _ _ _ ?_))
    simp only [if_true]
    have hin : (SetTable.insertAt es (SetTable.below t.place (way t.mask (kh w key) M)) (kh w key, Value.ref x)).toList = (L.take (SetTable.below t.place (way t.mask (kh w key) M)) ++ (x, key) :: L.drop (SetTable.below t.place (way t.mask (kh w key) M))).map fun p => (kh w p.2, Value.ref p.1) := by
      rw [SetTable.toList_insertAt, R.rows, List.map_append, List.map_cons, List.map_take, List.map_drop]
    generalize SetTable.below t.place (way t.mask (kh w key) M) = pos at p2 p3 hin ⊢
    have pm := put_mid L pos (x, key)
    have hl1 : (L.take pos ++ (x, key) :: L.drop pos).length = L.length + 1 := pm.length_eq
    have hh1 : (L.take pos ++ (x, key) :: L.drop pos).map (fun p => kh w p.2) = (L.map fun p => kh w p.2).take pos ++ kh w key :: (L.map fun p => kh w p.2).drop pos := by
      rw [List.map_append, List.map_cons, List.map_take, List.map_drop]
    rw [← hh1] at p3
    have nd1 : ((L.take pos ++ (x, key) :: L.drop pos).map (·.2)).Nodup := (pm.map (·.2)).nodup_iff.mpr (List.nodup_cons.mpr ⟨hm, R.nd⟩)
    have hes : (SetTable.insertAt es pos (kh w key, Value.ref x)).size = L.length + 1 := by
      have e := congrArg List.length hin
      rw [Array.length_toList, List.length_map, hl1] at e
      exact e
    generalize SetTable.insertAt es pos (kh w key, Value.ref x) = es1 at hin hes ⊢
    generalize L.take pos ++ (x, key) :: L.drop pos = L1 at pm hl1 p3 nd1 hin
    refine wpAny_bind (wpAny_storeSet_of ho hd ?_ (by rw [hes, sizeLine_eq]; omega))
    have sb : Heap.SameBut a s.heap (s.heap.update a (Obj.putSet es1 t1)) := Heap.SameBut.update _ _ _; have ho1 := store_at (es' := es1) (t' := t1) ho hd
    have kk : ∀ b ob vs n, s.heap.get? b = some ob → ob.data = .seq vs n → (s.heap.update a (Obj.putSet es1 t1)).get? b = some ob := fun b ob vs n hb hbd => by
      refine (sb.2 b fun e => ?_).trans hb
      rw [e, ho] at hb
      injection hb with hb
      rw [← hb, hd] at hbd
      cases hbd
    show wpAny _ _ _ _ _ { s with heap := s.heap.update a (Obj.putSet es1 t1), toks := s.toks + (nk key).draws }
    generalize s.heap.update a (Obj.putSet es1 t1) = h1 at sb ho1 kk ⊢
    have m71 : t1.mask = 7 := by rw [p4]; exact R.m7
    have full : ¬ t1.tooFull = true := by
      unfold SetTable.tooFull
      rw [decide_eq_true_eq, p9, List.length_map, m71]
      omega
    first
      | refine wp_if_neg (by simp [full]) ?_
      | (refine wpAny_bind ?_; refine wp_if_neg (by simp [full]) ?_; refine wpAny_pure ?_)
    refine wpAny_pure (q true h1 L1 es1 (ep + 1) t1 sb ⟨⟨_, ho1, ⟨hex.1, hex.2.1, hex.2.2⟩, rfl⟩, hin, p3, m71, nd1, fun p hp => ?_, pp, by rw [p5]; exact R.led, by omega⟩ (fun p hp => ?_) (fun o ho' => ?_) ?_ (by omega))
    · rcases List.mem_cons.mp (pm.mem_iff.mp hp) with e | hp
      · rw [e]
        exact hx.at kk
      · exact (R.tup p hp).at kk
    · rcases List.mem_cons.mp (pm.mem_iff.mp hp) with e | hp
      · exact .inr e
      · exact .inl hp
    · exact (pm.map (·.2)).mem_iff.mpr (List.mem_cons_of_mem _ ho')
    · exact (pm.map (·.2)).mem_iff.mpr List.mem_cons_self
end
end K5
namespace K5
open PySem PySem.Spec PyProof.Rows L2
/-! ### sorted(set(texts)), len(set(keys)) -/
section
variable {P : Program} {w : World} {A : Around} {E : Value → Shared → Prop} {s : Shared}
theorem set_keys {l : Addr} {items : Array Value} {ks : List (Addr × List (Int × Int))} {Q : Value → Shared → Prop} (hh : A.handled = none) (hl : s.heap.IsList l items) (hk : items.toList = ks.map fun p => Value.ref p.1) (ka : ∀ p ∈ ks, NkAt s.heap p.2 p.1) (few : ks.length ≤ 4) (hu : A.units + 20 < cLine)
    (fin : ∀ (h' : Heap) (t' : Nat) (L : List (Addr × List (Int × Int))) (es : Array (Int × Value)) (ep : Nat) (t : SetTable), NR P w h' s.heap.objs.size L es ep t → (∀ p ∈ ks, p.2 ∈ L.map (·.2)) → (∀ b o, s.heap.get? b = some o → h'.get? b = some o) → Q (.ref s.heap.objs.size) { s with heap := h', toks := t' }) : wpAny (model P w) A (call (.type "set") [.ref l]) Q E s := by
  have sz : items.size = ks.length := by
    have e := congrArg List.length hk
    rw [Array.length_toList, List.length_map] at e
    exact e
  have S0 : s.heap.get? s.heap.objs.size = none := by
    cases e : s.heap.get? s.heap.objs.size with
    | none => rfl
    | some o => exact absurd (Heap.lt_size e) (Nat.lt_irrefl _)
  refine set_from (J := fun i h => (∀ b o, s.heap.get? b = some o → h.get? b = some o) ∧ ∃ (L : List (Addr × List (Int × Int))) (es : Array (Int × Value)) (ep : Nat) (t : SetTable), NR P w h s.heap.objs.size L es ep t ∧ (∀ p ∈ L, p ∈ ks.take i) ∧ (∀ p ∈ ks.take i, p.2 ∈ L.map fun y : Addr × List (Int × Int) => y.2) ∧ L.length ≤ i) hh hl (fun h hs kk => ⟨kk, ?_⟩) (fun i h h' ⟨old, L, es, ep, t, R, g1, g2, g3⟩ kk => ⟨fun b o e => kk b o (Nat.le_of_lt (Heap.lt_size e)) (old b o e), L, es, ep, t, ?_, g1, g2, g3⟩) (fun B i v s1 E' Q' hB hv ⟨old, L, es, ep, t, R, g1, g2, g3⟩ q => ?_) (fun h' t' ⟨old, L, es, ep, t, R, g1, g2, g3⟩ kk => ?_)
  · refine ⟨[], #[], 0, .fresh 0 0 (!w.params.followText "set-order"), ⟨⟨_, hs, ⟨rfl, rfl, rfl⟩, rfl⟩, rfl, ⟨List.Pairwise.nil, rfl, rfl, .inl rfl, (fun x hx => by cases hx), (fun i h j hi => by simp at hi)⟩, rfl, List.nodup_nil, (fun p hp => by cases hp), rfl, ?_, Nat.zero_le _⟩, (fun p hp => by cases hp), (fun p hp => by simp at hp), Nat.le_refl _⟩
    show _ ∨ (!w.params.followText "set-order") = true
    cases w.params.followText "set-order"
    · exact .inr rfl
    · exact .inl rfl
  · obtain ⟨⟨o, ho, r⟩, R2, R3, R4, R5, R6, R7, R8, R9⟩ := R
    exact ⟨⟨o, kk _ _ (Nat.le_refl _) ho, r⟩, R2, R3, R4, R5, fun p hp => (ka p (List.mem_of_mem_take (g1 p hp))).at fun b o vs n e _ => kk b o (Nat.le_of_lt (Heap.lt_size e)) (old b o e), R7, R8, R9⟩
  · have hv2 : (ks.map fun p => Value.ref p.1)[i]? = some v := by
      rw [← hk, Array.getElem?_toList]
      exact hv
    rw [List.getElem?_map] at hv2
    obtain ⟨p, ep0, rfl⟩ : ∃ p, ks[i]? = some p ∧ v = .ref p.1 := by
      cases e : ks[i]? with
      | none =>
        rw [e] at hv2
        cases hv2
      | some p =>
        rw [e] at hv2
        exact ⟨p, rfl, (Option.some.inj hv2).symm⟩
    have il := (List.getElem?_eq_some_iff.mp ep0).1
    have hx : NkAt s1.heap p.2 p.1 := (ka p (List.mem_of_getElem? ep0)).at fun b o vs n e _ => old b o e
    refine nk_add R hx (by omega) (by omega) fun b h' L' es' ep' t' sb R' m1 m2 m3 m4 => q b h' _ sb ⟨fun c o e => (sb.2 c fun z => by rw [z, S0] at e; cases e).trans (old c o e), L', es', ep', t', R', fun p' hp' => ?_, fun p' hp' => ?_, by omega⟩ (Nat.le_add_right _ _)
    · rw [List.take_add_one, ep0]
      rcases m1 p' hp' with h | h
      · exact List.mem_append_left _ (g1 p' h)
      · rw [h]
        exact List.mem_append_right _ (List.mem_singleton.mpr rfl)
    · rw [List.take_add_one, ep0] at hp'
      rcases List.mem_append.mp hp' with h | h
      · exact m2 _ (g2 p' h)
      · rw [List.mem_singleton.mp h]
        exact m3
  · rw [sz, List.take_length] at g2
    exact fin h' t' L es ep t R g2 old
end
/-- sorted(set(xs)), xs a list of texts: each text once -/
def tSortedSetS (K : PySem.W.Frag) (ta : TE) : TE := fun σ H Q => ta σ H fun x H1 => ∃ l, ∃ zs : List Str, x = .ref l ∧ SqL K H1 l (zs.map V.str) ∧ zs.length < 60 ∧ ∀ (ds : List Str) (p : Addr), ds.Nodup → (∀ z, z ∈ ds ↔ z ∈ zs) → ds.length ≤ zs.length → H1 p = none → Q (.ref p) (upd H1 p (.lst (ds.map V.str)))
/-- len(set(xs)), xs a list of at most four keys: 1 only if all are the same -/
def tLenSetN (K : PySem.W.Frag) (ta : TE) : TE := fun σ H Q => ta σ H fun x H1 => ∃ l, ∃ ks : List (Addr × List (Int × Int)), x = .ref l ∧ SqL K H1 l (ks.map fun p => V.ref p.1) ∧ (∀ p ∈ ks, OuAt H1 p.1 p.2) ∧ ks.length ≤ 4 ∧ ∀ n : Nat, (n = 1 → ∃ os, ∀ p ∈ ks, p.2 = os) → Q (.int n) H1
theorem prs_at {X : Cx} {pins : List (Addr × Obj)} {σ : L2.St} {H : Hp} {s : Shared} (I : Inv X pins σ H s) : ∀ {ts : List Addr} {os : List (Int × Int)} {us : List Value}, OsAt H ts os → Vals (ts.map V.ref) us → PrsAt s.heap os us
  | _, _, _, .nil, r => by
    cases r
    exact .nil
  | _, _, _, .cons h a, r => by
    cases r with
    | cons r1 r2 =>
      cases r1
      refine .cons ?_ (prs_at I a r2)
      obtain ⟨its, rv, ⟨o, ho, hc, n, hd⟩, _⟩ := I.tuple (SqT.of h)
      obtain ⟨u1, u2, rfl, ⟨t1, rfl⟩, ⟨t2, rfl⟩⟩ : ∃ u1 u2, its = [u1, u2] ∧ (∃ t, u1 = .int _ t) ∧ (∃ t, u2 = .int _ t) := by
        cases rv with
        | cons a1 b1 =>
          cases b1 with
          | cons a2 b2 =>
            cases b2
            exact ⟨_, _, rfl, a1, a2⟩
      exact ⟨o, t1, t2, n, ho, hc, hd⟩
theorem nk_at {X : Cx} {pins : List (Addr × Obj)} {σ : L2.St} {H : Hp} {s : Shared} (I : Inv X pins σ H s) {a : Addr} {os : List (Int × Int)} (h : OuAt H a os) : NkAt s.heap os a := by
  obtain ⟨ts, ht, at0⟩ := h
  obtain ⟨its, rv, ⟨o, ho, hc, n, hd⟩, _⟩ := I.tuple (SqT.of ht)
  exact ⟨o, its.toArray, n, ho, hc, hd, by simpa using prs_at I at0 rv⟩
theorem boot_sorted2 : bootBuiltins (Str.ofString "sorted") = some (.builtin "sorted") := by decide +kernel
section
variable {X : Cx} {a : Expr} {ta : TE} {p p2 q pos : Pos}
theorem pe_sortedSetS (hc : X.calm = true) (hg : Gl X "sorted") (hm : X.mg "sorted" = none) (hg2 : Gl X "set") (hm2 : X.mg "set" = none) (ha : PE X a ta)
    (na : starEach [a] X.env = (false, eval a X.env) :: starEach [] X.env := by rfl) : PE X (.Call (.Name "sorted" p) [.Call (.Name "set" p2) [a] [] q] [] pos) (tSortedSetS X.K ta) := by
  refine ⟨fun pins s σ H Q I h => Call_ (ld_blt I hg hm boot_sorted2 (PyProof.Rows.callWith_builtin1 (PyProof.Rows.args_cons ?_ rfl) rfl rfl))⟩
  refine Call_ (ld_blt I hg2 hm2 boot_set (PyProof.Rows.callWith_type1 (PyProof.Rows.args_cons (thn (ha.run pins s σ H _ I h) fun v s1 ⟨x, H1, I1, r1, q1⟩ => PyProof.Rows.args_nil ?_) na) na rfl))
  obtain ⟨l, zs, rfl, hq, few, q1⟩ := q1
  cases r1
  obtain ⟨its, r, pl, hz⟩ := I1.list hq
  refine set_texts (I1.ok.hd hc) pl.isList (by simpa using strsAre_of r) few fun h' tk ks R m le kk => PyProof.Rows.args_nil ?_
  have I2 : Inv X pins σ H1 { s1 with heap := h', toks := tk } := I1.kept kk
  refine sorted_texts (s := { s1 with heap := h', toks := tk }) R (I2.ok.hd hc) (by omega) fun s' p out c ds k g o hp hout hi nd mm dl => ?_
  have hn : H1 p = none := I2.hok.fresh hp
  have J : Inv X pins σ (upd H1 p (.lst (ds.map V.str))) { s1 with heap := s'.heap, gens := s'.gens, drawn := s'.drawn, toks := s'.toks } :=
    Inv.call (s := { s1 with heap := h', toks := tk }) (ch := []) I2 (Un.laid k hp hn) (I2.hok.laid k hp ⟨by rw [List.length_map, sizeLine_eq]; omega, out.toList, c, vals_of_strs hi, hout⟩) (by rw [g]; exact I2.bare) (fun _ z => nomatch z)
  have e : s' = { s1 with heap := s'.heap, gens := s'.gens, drawn := s'.drawn, toks := s'.toks } := by
    cases s'; cases s1; cases o; rfl
  rw [e]
  exact ⟨.ref p, _, J, rfl, q1 ds p nd (fun z => (mm z).trans (m z)) (by omega) hn⟩
theorem pe_lenSetN (hc : X.calm = true) (hu : X.A.units + 20 < cLine) (hg : Gl X "len") (hm : X.mg "len" = none) (hg2 : Gl X "set") (hm2 : X.mg "set" = none) (ha : PE X a ta)
    (na : starEach [a] X.env = (false, eval a X.env) :: starEach [] X.env := by rfl) : PE X (.Call (.Name "len" p) [.Call (.Name "set" p2) [a] [] q] [] pos) (tLenSetN X.K ta) := by
  refine ⟨fun pins s σ H Q I h => Call_ (ld_blt I hg hm boot_len (PyProof.Rows.callWith_builtin1 (PyProof.Rows.args_cons ?_ rfl) rfl rfl))⟩
  refine Call_ (ld_blt I hg2 hm2 boot_set (PyProof.Rows.callWith_type1 (PyProof.Rows.args_cons (thn (ha.run pins s σ H _ I h) fun v s1 ⟨x, H1, I1, r1, q1⟩ => PyProof.Rows.args_nil ?_) na) na rfl))
  obtain ⟨l, ks, rfl, hq, ka, few, q1⟩ := q1
  cases r1
  obtain ⟨its, r, pl, hz⟩ := I1.list hq
  have refs : ∀ {ks : List (Addr × List (Int × Int))} {us : List Value}, Vals (ks.map fun p => V.ref p.1) us → us = ks.map fun p => Value.ref p.1 := by
    intro ks
    induction ks with
    | nil =>
      intro us r
      cases r
      rfl
    | cons p ks ih =>
      intro us r
      cases r with
      | cons r1 r2 =>
        cases r1
        rw [ih r2]
        rfl
  refine set_keys (ks := ks) (I1.ok.hd hc) pl.isList (by simpa using refs r) (fun p hp => nk_at I1 (ka p hp)) few hu fun h' tk L es ep t R g kk => PyProof.Rows.args_nil ?_
  have I2 : Inv X pins σ H1 { s1 with heap := h', toks := tk } := I1.kept kk
  obtain ⟨o, ho, hex, hd⟩ := R.ob
  have few2 := R.few
  refine call_len_set ho hex hd R.fit (by rw [R.sz]; omega) ⟨.int _, H1, I2.tok _, ⟨_, rfl⟩, ?_⟩
  refine q1 es.size fun e1 => ?_
  rw [R.sz] at e1
  obtain ⟨p0, rfl⟩ := List.length_eq_one_iff.mp e1
  exact ⟨p0.2, fun p hp => List.mem_singleton.mp (g p hp)⟩
end
end K5
namespace K5
open PySem PySem.Spec PyProof.Rows L2
/-! ### the comprehensions of _law_wild_state -/
section
variable {K : PySem.W.Frag} {u0 u1 u3 u4 u5 u6 u7 : Option V}
theorem at_ref {ts : List Addr} {j : Nat} {x : V} (hj : (ts.map V.ref)[j]? = some x) : ∃ t, ts[j]? = some t ∧ x = .ref t := by
  rw [List.getElem?_map] at hj
  cases e : ts[j]? with
  | none =>
    rw [e] at hj
    cases hj
  | some i =>
    rw [e] at hj
    exact ⟨i, rfl, (Option.some.inj hj).symm⟩
/-- [row[0] for row in state] -/
theorem doors_lc {t : Addr} {rs : List RwD} {H : Hp} {Q : VK} (hst : StD H t rs) (few : rs.length ≤ 12)
    (k : ∀ (H' : Hp) (D : Addr), Same H H' → H' D = some (.lst ((rs.map fun r => r.1.1).map V.str)) → Q (.ref D) H') :
    tLc (iTup K (tVar 2)) (gName 6) tYes (tOp (rIxT K) (tVar 6) (tC (.int (0 : Nat)))) [6] [u0, u1, some (.ref t), u3, u4, u5, u6, u7] H Q := by
  obtain ⟨ts, ht, hp⟩ := hst
  have tl : ts.length = rs.length := Paired.length hp
  dsimp only [tLc, iTup]
  refine (val_var rfl) _ ⟨t, rfl, ⟨_, SqT.of ht⟩, fun D nD => ?_⟩
  refine lc_tup (xs := ts.map V.ref) (fun j H2 => Same H H2 ∧ H2 D = some (.lst (((rs.take j).map fun r => r.1.1).map V.str))) ⟨same_upd nD, upd_same⟩ (fun j H2 _ ⟨s2, _⟩ => SqT.of (s2 _ _ ht)) (fun j x H2 hj hI => ?_) fun H2 hI => ?_
  · obtain ⟨s2, hD⟩ := hI
    obtain ⟨t', et, rfl⟩ := at_ref hj
    obtain ⟨r, er, o, hr, _⟩ := paired_at j hp et
    have jlt := (List.getElem?_eq_some_iff.mp er).1
    refine ⟨rfl, ?_⟩
    dsimp only [tYes]
    rw [if_pos rfl]
    dsimp only [tOp]
    refine (val_var rfl) _ (val_c _ ⟨t', _, _, _, rfl, rfl, SqT.of (s2 _ _ hr), rfl, ?_⟩)
    refine ⟨_, hD, by rw [List.length_map, List.length_map, List.length_take]; exact Nat.lt_of_lt_of_le (show min j rs.length < 13 by omega) (by decide), fun b o' e => ?_, ?_⟩
    · rw [upd_ne (ne_of_none e nD)]
      exact s2 _ _ e
    · rw [upd_same, List.take_add_one, er, List.map_append, List.map_append]
      rfl
  · obtain ⟨s2, hD⟩ := hI
    rw [List.length_map, tl, List.take_length] at hD
    exact k H2 D s2 hD
/-- [row for row in state if row[0] == door] -/
theorem rows_lc {t : Addr} {rs : List RwD} {z : Str} {tt : TT} {H : Hp} {Q : VK} (hst : StD H t rs) (few : rs.length ≤ 12)
    (htt : ∀ (t' : Addr) (r : RwD) (H' : Hp) (R : Bool → Hp → Prop), RowD H' t' r → R (decide (r.1.1 = z)) H' → tt [u0, u1, some (.ref t), u3, u4, u5, some (.ref t'), u7] H' R)
    (k : ∀ (H' : Hp) (D : Addr) (us : List Addr), Same H H' → H D = none → H' D = some (.lst (us.map V.ref)) → Paired (RowD H') us (rs.filter fun r => decide (r.1.1 = z)) → Q (.ref D) H') :
    tLc (iTup K (tVar 2)) (gName 6) tt (tVar 6) [6] [u0, u1, some (.ref t), u3, u4, u5, u6, u7] H Q := by
  obtain ⟨ts, ht, hp⟩ := hst
  have tl : ts.length = rs.length := Paired.length hp
  dsimp only [tLc, iTup]
  refine (val_var rfl) _ ⟨t, rfl, ⟨_, SqT.of ht⟩, fun D nD => ?_⟩
  refine lc_tup (xs := ts.map V.ref) (fun j H2 => ∃ us : List Addr, Same H H2 ∧ H2 D = some (.lst (us.map V.ref)) ∧ Paired (RowD H2) us ((rs.take j).filter fun r => decide (r.1.1 = z))) ⟨[], same_upd nD, upd_same, .nil⟩ (fun j H2 _ ⟨us, s2, _⟩ => SqT.of (s2 _ _ ht)) (fun j x H2 hj hI => ?_) fun H2 hI => ?_
  · obtain ⟨us, s2, hD, au⟩ := hI
    obtain ⟨t', et, rfl⟩ := at_ref hj
    obtain ⟨r, er, hr⟩ := paired_at j hp et
    have jlt := (List.getElem?_eq_some_iff.mp er).1
    have hr2 := hr.mono (TKeep.same s2)
    have ul : us.length ≤ 12 := by
      rw [Paired.length au]
      refine Nat.le_trans (List.length_filter_le _ _) ?_
      rw [List.length_take]
      omega
    have tk : rs.take (j + 1) = rs.take j ++ [r] := by
      rw [List.take_add_one, er]
      rfl
    refine ⟨rfl, ?_⟩
    refine htt t' r H2 _ hr2 ?_
    cases c : decide (r.1.1 = z) with
    | false =>
      rw [if_neg (by decide)]
      refine ⟨us, s2, hD, ?_⟩
      have : ([r].filter fun r => decide (r.1.1 = z)) = [] := by simp only [List.filter, c]
      rw [tk, List.filter_append, this, List.append_nil]
      exact au
    | true =>
      rw [if_pos rfl]
      have kk : TKeep H2 (upd H2 D (.lst (us.map V.ref ++ [V.ref t']))) := TKeep.but (SameBut.upd D _ _) hD
      refine (val_var rfl) _ ⟨us.map V.ref, hD, by rw [List.length_map]; exact Nat.lt_of_le_of_lt ul (by decide), us ++ [t'], fun b o' e => ?_, ?_, ?_⟩
      · rw [upd_ne (ne_of_none e nD)]
        exact s2 _ _ e
      · rw [List.map_append]
        exact upd_same
      · have : ([r].filter fun r => decide (r.1.1 = z)) = [r] := by simp only [List.filter, c]
        rw [tk, List.filter_append, this]
        exact paired_app (Paired.mapP au fun _ _ e => e.mono kk) (hr2.mono kk)
  · obtain ⟨us, s2, hD, au⟩ := hI
    rw [List.length_map, tl, List.take_length] at au
    exact k H2 D us s2 nD hD au
/-- [row[2] for row in rows] -/
theorem outs3_lc {D : Addr} {us : List Addr} {gs : List RwD} {u2 : Option V} {H : Hp} {Q : VK} (hD : H D = some (.lst (us.map V.ref))) (hp : Paired (RowD H) us gs) (few : gs.length ≤ 12)
    (k : ∀ (H' : Hp) (M : Addr) (ks : List (Addr × List (Int × Int))), Same H H' → H' M = some (.lst (ks.map fun p => V.ref p.1)) → (∀ p ∈ ks, OuAt H' p.1 p.2) → ks.map (fun p => p.2) = gs.map (fun g => g.2) → Q (.ref M) H') :
    tLc (iList K (tVar 5)) (gName 6) tYes (tOp (rIxT K) (tVar 6) (tC (.int (2 : Nat)))) [6] [u0, u1, u2, u3, u4, some (.ref D), u6, u7] H Q := by
  have tl : us.length = gs.length := Paired.length hp
  dsimp only [tLc, iList]
  refine (val_var rfl) _ ⟨D, rfl, ⟨_, SqL.of hD⟩, fun M nM => ?_⟩
  have DM : D ≠ M := ne_of_none hD nM
  refine lc_list (xs := us.map V.ref) (fun j H2 => ∃ ks : List (Addr × List (Int × Int)), Same H H2 ∧ H2 M = some (.lst (ks.map fun p => V.ref p.1)) ∧ (∀ p ∈ ks, OuAt H2 p.1 p.2) ∧ ks.map (fun p => p.2) = (gs.take j).map (fun g => g.2)) ⟨[], same_upd nM, upd_same, (fun _ h => (nomatch h)), rfl⟩ (fun j H2 _ ⟨ks, s2, _⟩ => SqL.of (s2 _ _ hD)) (fun j x H2 hj hI => ?_) fun H2 hI => ?_
  · obtain ⟨ks, s2, hM, ka, ke⟩ := hI
    obtain ⟨t', et, rfl⟩ := at_ref hj
    obtain ⟨r, er, o, hr, ho⟩ := paired_at j hp et
    have jlt := (List.getElem?_eq_some_iff.mp er).1
    have kl : ks.length ≤ 12 := by
      have e := congrArg List.length ke
      rw [List.length_map, List.length_map, List.length_take] at e
      omega
    refine ⟨rfl, ?_⟩
    dsimp only [tYes]
    rw [if_pos rfl]
    dsimp only [tOp]
    refine (val_var rfl) _ (val_c _ ⟨t', _, _, _, rfl, rfl, SqT.of (s2 _ _ hr), rfl, ?_⟩)
    have kk : TKeep H2 (upd H2 M (.lst ((ks.map fun p => V.ref p.1) ++ [V.ref o]))) := TKeep.but (SameBut.upd M _ _) hM
    refine ⟨_, hM, by rw [List.length_map]; exact Nat.lt_of_le_of_lt kl (by decide), ks ++ [(o, r.2)], fun b o' e => ?_, ?_, fun p hp' => ?_, ?_⟩
    · rw [upd_ne (ne_of_none e nM)]
      exact s2 _ _ e
    · rw [List.map_append]
      exact upd_same
    · rcases List.mem_append.mp hp' with h | h
      · exact (ka p h).mono kk
      · rw [List.mem_singleton.mp h]
        exact (ho.mono (TKeep.same s2)).mono kk
    · rw [List.map_append, ke, List.take_add_one, er, List.map_append]
      rfl
  · obtain ⟨ks, s2, hM, ka, ke⟩ := hI
    rw [List.length_map, tl, List.take_length] at ke
    exact k H2 M ks s2 hM ka ke
end
/-! ### what the loop over the doors keeps -/
structure SK (m w : Nat) (H : Hp) (b : Addr) (q n0 : Int) (j : Nat) (H' : Hp) (L : Addr) (gs : List RwD) (W : List WRow) (p n : Int) : Prop where
  sb : SameBut b H H'
  hL : H' L = some (.lst ((W.map wrowT).map V.str))
  bL : L ≠ b
  nL : H L = none
  ok : ∀ r ∈ W, WOk m w r
  c : Canon (W.flatMap (wAcc m w)) gs
  l : W.length ≤ gs.length
  tz : ∀ r ∈ W, Tz 66 (wrowT r)
  hb : H' b = some (.lst (bx p q n))
  bo : Box p q n
  le : n ≤ n0 + 8 * gs.length + j
section
variable {m w j : Nat} {H H' H2 : Hp} {b L : Addr} {q n0 : Int} {gs : List RwD} {W : List WRow} {p n : Int}
/-- the box goes on, objects come -/
theorem SK.step (R : SK m w H b q n0 j H' L gs W p n) (s : SameBut b H' H2) {p2 n2 : Int} {i : Nat} (hb : H2 b = some (.lst (bx p2 q n2))) (bo : Box p2 q n2) (le : n2 ≤ n0 + 8 * gs.length + i) : SK m w H b q n0 i H2 L gs W p2 n2 :=
  ⟨R.sb.trans s, s _ _ R.bL R.hL, R.bL, R.nL, R.ok, R.c, R.l, R.tz, hb, bo, le⟩
theorem SK.same (R : SK m w H b q n0 j H' L gs W p n) (s : Same H' H2) : SK m w H b q n0 j H2 L gs W p n := R.step (SameBut.of_same s) (s _ _ R.hb) R.bo R.le
/-- a row more -/
theorem SK.push (R : SK m w H b q n0 j H' L gs W p n) (s : SameBut b H' H2) {p2 n2 : Int} {i : Nat} {g : List RwD} {r : WRow} (hb : H2 b = some (.lst (bx p2 q n2))) (bo : Box p2 q n2) (le : n2 ≤ n0 + 8 * (gs.length + g.length) + i) (ok : WOk m w r) (c : Canon (wAcc m w r) g) (g0 : 0 < g.length) (tz : Tz 66 (wrowT r)) : SK m w H b q n0 i (upd H2 L (.lst ((W.map wrowT).map V.str ++ [.str (wrowT r)]))) L (gs ++ g) (W ++ [r]) p2 n2 where
  sb := fun u x nu hu => by
    rw [upd_ne (ne_of_none hu R.nL)]
    exact s _ _ nu (R.sb _ _ nu hu)
  hL := by
    rw [upd_same, List.map_append, List.map_append]
    rfl
  bL := R.bL
  nL := R.nL
  ok := fun x hx => by
    rcases List.mem_append.mp hx with h | h
    · exact R.ok x h
    · rw [List.mem_singleton.mp h]
      exact ok
  c := by
    rw [List.flatMap_append]
    refine R.c.app ?_
    show Canon (wAcc m w r ++ []) g
    rw [List.append_nil]
    exact c
  l := by
    rw [List.length_append, List.length_append]
    show W.length + 1 ≤ _
    have := R.l
    omega
  tz := fun x hx => by
    rcases List.mem_append.mp hx with h | h
    · exact R.tz x h
    · rw [List.mem_singleton.mp h]
      exact tz
  hb := by
    rw [upd_ne R.bL.symm]
    exact hb
  bo := bo
  le := by
    rw [List.length_append]
    exact le
end
theorem any_text (d z : Str) : ("  " : Str) ++ d ++ " any -> " ++ z = "  " ++ d ++ " " ++ "any" ++ " -> " ++ z := by
  have e : (" any -> " : Str) = " " ++ "any" ++ " -> " := by decide +kernel
  rw [e]
  exact str_list (by simp only [cps_append, List.append_assoc])
abbrev s__law_wild_state : Stmt := topS 47
abbrev nmWS : List Str := ["_law_box_here", "_law_worths", "_law_state", "_law_found", "_law_door", "_law_rows", "_law_row", "_law_told"]
theorem sc__law_wild_state : FnScope nmWS ["_law_box_here", "_law_worths", "_law_state"] (defScope s__law_wild_state) := ⟨rfl, rfl, rfl, by decide +kernel, rfl, by decide +kernel, by decide +kernel⟩
end K5
namespace K5
open PySem PySem.Spec PyProof.Rows L2
/-! ### _law_wild_state: the rows of a door -/
theorem dec_str (a b : Str) : decide (V.str a = V.str b) = decide (a = b) := by
  by_cases h : a = b
  · rw [decide_eq_true h, decide_eq_true (by rw [h])]
  · rw [decide_eq_false h, decide_eq_false (fun e => h (by injection e))]
theorem wtold_tz {ps : List (Str × Str)} (tz : ∀ x ∈ ps, Tz 6 (wpart x)) (pl : ps.length ≤ 6) : Tz 48 (Str.join ", " (ps.map wpart)) := by
  have TT := Tz.join (n := 6) (m := 2) (c := ", ") (tz_of (by decide +kernel)) (ps := ps.map wpart) fun z hz => by
    obtain ⟨x, hx, rfl⟩ := List.mem_map.mp hz
    exact tz x hx
  rw [List.length_map] at TT
  exact TT.mono (by omega)
abbrev tRow2 (K : PySem.W.Frag) : TS :=
  tSeq (tAsg (tCall spWildO [] E0 (tCons (tVar 0) (tCons (tVar 1) (tCons (tOp (rIxT K) (tVar 6) (tC (.int (2 : Nat)))) tNil)))) (gName 7))
    (tDrop (tBM K "list" rAppend (tVar 3) (tCons (tOp rAddS (tOp rAddS (tOp rAddS (tOp rAddS (tOp rAddS (tC (.str "  ")) (tVar 4)) (tC (.str " "))) (tCB rStrI (tCons (tOp (rIxT K) (tVar 6) (tC (.int (1 : Nat)))) tNil))) (tC (.str " -> "))) (tVar 7)) tNil)))
section
variable {K : PySem.W.Frag} {m wn j : Nat} {H H5 : Hp} {b t L G dd : Addr} {q n0 p5 n5 : Int} {gs g : List RwD} {W : List WRow} {us : List Addr} {z : Str} {xs : List V} {D0 : Ends} {u6 u7 : Option V}
/-- each row by itself -/
theorem ws_each (m2 : 2 ≤ m) (m4 : m ≤ 4) (w1 : 1 ≤ wn) (w4 : wn ≤ 4) (hz : z ∈ poolD) (R : SK m wn H b q n0 j H5 L gs W p5 n5) (hG : H5 G = some (.lst (us.map V.ref))) (bG : G ≠ b) (LG : G ≠ L) (hd : H5 dd = some (.lst xs)) (bd : dd ≠ b) (Ld : dd ≠ L) (au : Paired (RowD H5) us g) (gx : ∀ r ∈ g, r.1.1 = z ∧ RowX m wn r ∧ RowOk r) (few : gs.length + g.length ≤ 12) (jl : j ≤ 12) (hn : n0 + 200 < 1000000)
    (k : ∀ (H' : Hp) (W' : List WRow) (p' n' : Int) (u6 u7 : Option V), SK m wn H b q n0 j H' L (gs ++ g) W' p' n' → H' dd = some (.lst xs) → D0.nx [some (.ref b), some (.int m), some (.ref t), some (.ref L), some (.str z), some (.ref G), u6, u7] H') :
    tFor (iList K (tVar 5)) (gName 6) (tRow2 K) D0 [some (.ref b), some (.int m), some (.ref t), some (.ref L), some (.str z), some (.ref G), u6, u7] H5 := by
  have gl : us.length = g.length := Paired.length au
  refine ⟨.ref G, rfl, G, rfl, ⟨_, SqL.of hG⟩, ?_⟩
  show ∃ W : Nat → Nat → L2.St → Hp → Prop, _
  refine for_list (K := K) (a := G) (xs := us.map V.ref) (fun i σ H' => ∃ (u6 u7 : Option V) (W' : List WRow) (p' n' : Int), σ = [some (.ref b), some (.int m), some (.ref t), some (.ref L), some (.str z), some (.ref G), u6, u7] ∧ SK m wn H b q n0 j H' L (gs ++ g.take i) W' p' n' ∧ H' G = some (.lst (us.map V.ref)) ∧ H' dd = some (.lst xs) ∧ Paired (RowD H') us g) ?_ ?_ ?_ ?_
  · exact ⟨u6, u7, W, p5, n5, rfl, by rw [List.take_zero, List.append_nil]; exact R, hG, hd, au⟩
  · rintro i σ H9 _ ⟨_, _, _, _, _, rfl, _, h, _⟩
    exact SqL.of h
  · rintro i x σ H9 ex ⟨u6, u7, W9, p9, n9, rfl, R9, hG9, hd9, au9⟩
    obtain ⟨u, eu, rfl⟩ := at_ref ex
    obtain ⟨r, er, o, hr, ho⟩ := paired_at i au9 eu
    have ilt := (List.getElem?_eq_some_iff.mp er).1
    obtain ⟨rz, rx, rok⟩ := gx r (List.mem_of_getElem? er)
    have tl : (gs ++ g.take i).length = gs.length + i := by rw [List.length_append, List.length_take]; omega
    have le9 := R9.le
    rw [tl] at le9
    try dsimp only [gName, List.set]
    dsimp only [tRow2, tSeq, tAsg, tCall]
    have v2 : Val (tOp (rIxT K) (tVar 6) (tC (.int (2 : Nat)))) [some (.ref b), some (.int m), some (.ref t), some (.ref L), some (.str z), some (.ref G), some (.ref u), u7] H9 (.ref o) := val_op (val_var rfl) val_c fun Q q => ⟨u, _, _, _, rfl, rfl, SqT.of hr, atI_nat (j := 2) rfl, q⟩
    refine (va_cons (val_var rfl) (va_cons (val_var rfl) (va_cons v2 va_nil))) _ ⟨b, o, m, wn, r.2, p9, q, n9, rfl, R9.hb, R9.bo, by omega, m2, m4, w1, w4, ho, rx.2, rok.2.2.1, fun H2 ps p2 n2 s2 pw tz pl hb2 B2 le2 => ?_⟩
    have tk : TKeep H9 H2 := TKeep.but s2 R9.hb
    have TT := wtold_tz tz pl
    obtain ⟨zt, ezt⟩ : ∃ zt, zt = Str.join ", " (ps.map wpart) := ⟨_, rfl⟩
    rw [← ezt] at TT ⊢
    have tz8 := tz_pool z hz
    have ts1 : Tz 2 ("  " : Str) := tz_of (by decide +kernel)
    have ts2 : Tz 1 (" " : Str) := tz_of (by decide +kernel)
    have ts3 : Tz 4 (" -> " : Str) := tz_of (by decide +kernel)
    have tw : Tz 1 (toString ((r.1.2 : Nat) : Int) : Str) := tz_num (by omega) (by have := rok.2.1; omega)
    have T1 := ts1.add tz8
    have T2 := T1.add ts2
    have T3 := T2.add tw
    have T4 := T3.add ts3
    have T5 := T4.add TT
    try dsimp only [gName, List.set]
    dsimp only [tDrop]
    refine bm_run (x := .ref L) (val_var rfl) (.inl ⟨rfl, _, SqL.of (s2 _ _ R9.bL R9.hL)⟩) ?_
    dsimp only [tCons, tNil]
    have v1 : Val (tOp (rIxT K) (tVar 6) (tC (.int (1 : Nat)))) [some (.ref b), some (.int m), some (.ref t), some (.ref L), some (.str z), some (.ref G), some (.ref u), some (.str zt)] H2 (.int (r.1.2 : Nat)) := val_op (val_var rfl) val_c fun Q q => ⟨u, _, _, _, rfl, rfl, SqT.of (tk _ _ hr), atI_nat (j := 1) rfl, q⟩
    refine (val_addS (val_addS (val_addS (val_addS (val_addS (val_c (v := .str "  ")) (val_var (i := 4) rfl) (by have := T1.l; rw [app_len'] at this; omega)) (val_c (v := .str " ")) (by have := T2.l; rw [app_len'] at this; omega)) (val_strI v1 (small_log (by omega) (by have := rok.2.1; omega))) (by have := T3.l; rw [app_len'] at this; omega)) (val_c (v := .str " -> ")) (by have := T4.l; rw [app_len'] at this; omega)) (val_var (i := 7) rfl) (by have := T5.l; rw [app_len'] at this; omega)) _ ?_
    obtain ⟨wok, wc⟩ := row_one m4 w4 rok.1 rx pw
    have ew : ("  " : Str) ++ z ++ " " ++ toString ((r.1.2 : Nat) : Int) ++ " -> " ++ zt = wrowT ⟨r.1.1, toString ((r.1.2 : Nat) : Int), ps⟩ := by
      rw [ezt, ← rz]
      rfl
    rw [ew] at T5 ⊢
    refine ⟨L, _, _, rfl, rfl, s2 _ _ R9.bL R9.hL, ?_, ?_⟩
    · rw [List.length_map, List.length_map]
      have := R9.l
      rw [tl] at this
      exact Nat.lt_of_le_of_lt (show W9.length ≤ 24 by omega) (by decide)
    · have R10 := R9.push (i := j) (g := [r]) s2 hb2 B2 (by rw [tl]; show n2 ≤ n0 + 8 * ((gs.length + i : Nat) + (1 : Nat) : Int) + j; omega) wok wc (Nat.zero_lt_one) (T5.mono (by decide))
      have e1 : gs ++ g.take i ++ [r] = gs ++ g.take (i + 1) := by
        rw [List.append_assoc, List.take_add_one, er]
        rfl
      rw [e1] at R10
      have kk : TKeep H2 (upd H2 L (.lst ((W9.map wrowT).map V.str ++ [.str (wrowT ⟨r.1.1, toString ((r.1.2 : Nat) : Int), ps⟩)]))) := TKeep.but (SameBut.upd L _ _) (s2 _ _ R9.bL R9.hL)
      exact ⟨_, _, _, p2, n2, rfl, R10, by rw [upd_ne LG]; exact s2 _ _ bG hG9, by rw [upd_ne Ld]; exact s2 _ _ bd hd9, Paired.mapP au9 fun _ _ e => (e.mono tk).mono kk⟩
  · rintro σ H9 ⟨u6, u7, W9, p9, n9, rfl, R9, hG9, hd9, au9⟩
    rw [List.length_map, gl, List.take_length] at R9
    exact k H9 W9 p9 n9 u6 u7 R9 hd9
/-- all rows by one -/
theorem ws_any {os : List (Int × Int)} (m2 : 2 ≤ m) (m4 : m ≤ 4) (w1 : 1 ≤ wn) (w4 : wn ≤ 4) (hz : z ∈ poolD) (R : SK m wn H b q n0 j H5 L gs W p5 n5) (hG : H5 G = some (.lst (us.map V.ref))) (hd : H5 dd = some (.lst xs)) (bd : dd ≠ b) (Ld : dd ≠ L) (au : Paired (RowD H5) us g) (gx : ∀ r ∈ g, r.1.1 = z ∧ RowX m wn r ∧ RowOk r) (asc : (g.map (·.1)).Pairwise RLt) (gl : g.length = m) (same : ∀ r ∈ g, r.2 = os) (few : gs.length + g.length ≤ 12) (jl : j ≤ 12) (hn : n0 + 200 < 1000000)
    (k : ∀ (H' : Hp) (W' : List WRow) (p' n' : Int), SK m wn H b q n0 j H' L (gs ++ g) W' p' n' → H' dd = some (.lst xs) → D0.nx [some (.ref b), some (.int m), some (.ref t), some (.ref L), some (.str z), some (.ref G), u6, u7] H') :
    tDrop (tBM K "list" rAppend (tVar 3) (tCons (tOp rAddS (tOp rAddS (tOp rAddS (tC (.str "  ")) (tVar 4)) (tC (.str " any -> "))) (tCall spWildO [] E0 (tCons (tVar 0) (tCons (tVar 1) (tCons (tOp (rIxT K) (tOp (rIxL K) (tVar 5) (tC (.int (0 : Nat)))) (tC (.int (2 : Nat)))) tNil))))) tNil)) D0 [some (.ref b), some (.int m), some (.ref t), some (.ref L), some (.str z), some (.ref G), u6, u7] H5 := by
  have ul : us.length = g.length := Paired.length au
  obtain ⟨u, us', rfl⟩ : ∃ u us', us = u :: us' := by
    cases us with
    | nil =>
      have : (0 : Nat) = g.length := ul
      omega
    | cons u us' => exact ⟨u, us', rfl⟩
  obtain ⟨r, er, o, hr, ho⟩ := paired_at 0 au (a := u) rfl
  obtain ⟨rz, rx, rok⟩ := gx r (List.mem_of_getElem? er)
  have eos := same r (List.mem_of_getElem? er)
  have le5 := R.le
  have tz8 := tz_pool z hz
  have ts1 : Tz 2 ("  " : Str) := tz_of (by decide +kernel)
  have ts2 : Tz 8 (" any -> " : Str) := tz_of (by decide +kernel)
  have T1 := ts1.add tz8
  have T2 := T1.add ts2
  dsimp only [tDrop]
  refine bm_run (x := .ref L) (val_var rfl) (.inl ⟨rfl, _, SqL.of R.hL⟩) ?_
  dsimp only [tCons, tNil]
  refine (val_addS (val_addS (val_c (v := .str "  ")) (val_var (i := 4) rfl) (by have := T1.l; rw [app_len'] at this; omega)) (val_c (v := .str " any -> ")) (by have := T2.l; rw [app_len'] at this; omega)) _ ?_
  have v0 : Val (tOp (rIxL K) (tVar 5) (tC (.int (0 : Nat)))) [some (.ref b), some (.int m), some (.ref t), some (.ref L), some (.str z), some (.ref G), u6, u7] H5 (.ref u) := val_ixL (val_var rfl) val_c (SqL.of hG) (atI_nat rfl)
  have v2 : Val (tOp (rIxT K) (tOp (rIxL K) (tVar 5) (tC (.int (0 : Nat)))) (tC (.int (2 : Nat)))) [some (.ref b), some (.int m), some (.ref t), some (.ref L), some (.str z), some (.ref G), u6, u7] H5 (.ref o) := val_op v0 val_c fun Q q => ⟨u, _, _, _, rfl, rfl, SqT.of hr, atI_nat (j := 2) rfl, q⟩
  dsimp only [tCall]
  refine (val_var rfl) _ ((val_var rfl) _ (v2 _ ?_))
  refine ⟨b, o, m, wn, r.2, p5, q, n5, rfl, R.hb, R.bo, by omega, m2, m4, w1, w4, ho, rx.2, rok.2.2.1, fun H2 ps p2 n2 s2 pw tz pl hb2 B2 le2 => ?_⟩
  have TT := wtold_tz tz pl
  have T5 := T2.add TT
  have ew : ("  " : Str) ++ z ++ " any -> " ++ Str.join ", " (ps.map wpart) = wrowT ⟨z, "any", ps⟩ := by
    rw [any_text]
    rfl
  refine ⟨_, _, rfl, rfl, big_size (by have := T5.l; rw [app_len'] at this; omega), ?_⟩
  rw [ew] at T5 ⊢
  rw [eos] at pw
  obtain ⟨wok, wc⟩ := row_any (d := z) (g := g) (os := os) (ps := ps) (by omega) hz (fun r' hr' => ⟨(gx r' hr').1, same r' hr', (gx r' hr').2.1.1⟩) asc gl (by rw [← eos]; exact rx.2) pw
  refine ⟨L, _, _, rfl, rfl, s2 _ _ R.bL R.hL, ?_, ?_⟩
  · rw [List.length_map, List.length_map]
    have := R.l
    exact Nat.lt_of_le_of_lt (show W.length ≤ 24 by omega) (by decide)
  · exact k _ _ p2 n2 (R.push (i := j) s2 hb2 B2 (by omega) wok wc (by omega) (T5.mono (by decide))) (by rw [upd_ne Ld]; exact s2 _ _ bd hd)
end
end K5
namespace K5
open PySem PySem.Spec PyProof.Rows L2
theorem for_te {K : PySem.W.Frag} {te : TE} {g : TG} {tb : TS} {D : Ends} {σ : L2.St} {H : Hp} (h : te σ H fun x H1 => ∃ a, x = .ref a ∧ (∃ xs, SqL K H1 a xs) ∧ tFor (fun _ H R => R (Itl K a) H) g tb D σ H1) : tFor (iList K te) g tb D σ H := h
section
variable {P : Program} {w : World} {K : PySem.W.Frag} {mg : Str → Option Value} {base : Heap}
theorem ok_wild_state {f fW fT fS : Addr} {fd dW dT dS : FuncData} (B : Bt mg) (mset : mg "set" = none) (ms : mg "sorted" = none) (D : Df K mg "_law_wild_state" s__law_wild_state f fd ["_law_box_here", "_law_worths", "_law_state"]) (DW : Df K mg "_law_wild_outcomes" s__law_wild_outcomes fW dW ["_law_box_here", "_law_worths", "_law_outcomes"]) (DT : Df K mg "_law_take" sTake fT dT ["_law_box_here", "_law_many"]) (DS : Df K mg "_law_some" s__law_some fS dS ["_law_box_here", "_law_items", "_law_many"])
    (GW : FnOk P w K mg base CX0 3 fW dW ["_law_box_here", "_law_worths", "_law_outcomes"] spWildO) :
    FnOk P w K mg base CX0 4 f fd ["_law_box_here", "_law_worths", "_law_state"] spWildS := by
  have GT : FnOk P w K mg base CX0 1 fT dT ["_law_box_here", "_law_many"] spTake := ok_take (CX := CX0) DT.F B.m_int
  have GS : FnOk P w K mg base CX0 2 fS dS ["_law_box_here", "_law_items", "_law_many"] (spSome K) := ok_some B DS DT
  refine D.F.ok sc__law_wild_state (fun vs H Q E h => ?_) (fun cdv A outer s H vs Q E hr h => ?_)
  · obtain ⟨b, t, m, wn, rs, p, q, n, rfl, _⟩ := h
    rfl
  · obtain ⟨b, t, m, wn, rs, p, q, n, rfl, hb, Bx, hn, m2, m4, w1, w4, hst, sx, ro, rl, k⟩ := h
    have S := sc__law_wild_state
    have hu := hr.units
    refine ⟨_, (pss_cons (ps_set (i := 3) S.nd rfl (.inl rfl) (pe_lst pa_nil))
      (pss_cons (ps_for PassesOwn.never rfl (pi_list (pe_sortedSetS rfl (by rfl) ms (by rfl) mset (pe_lc (own := [("_law_row", 6)]) (g := gName 6) (tt := tYes) rfl S.nd (pi_tup (pv 2)) (blkOk_by (own := [("_law_row", 6)]) (N := nmWS) (sc := defScope s__law_wild_state) (by decide +kernel)) (fun _ _ _ _ _ => pg_name (i := 6) S.nd rfl (Or.inl rfl)) (fun _ _ _ _ _ => pts_nil) (fun _ _ _ _ _ => pe_ix (r := rIxT K) ix_tup (pv 6) pe_int (fun _ _ => rfl))))) (pg_name (i := 4) S.nd rfl (.inr rfl))
        (pss_cons (ps_setLc (i := 5) (own := [("_law_row", 6)]) (g := gName 6) (by rfl) S.nd rfl rfl (sw_true rfl rfl rfl (by decide +kernel)) (pi_tup (pv 2)) (blkOk_by (own := [("_law_row", 6)]) (N := nmWS) (sc := defScope s__law_wild_state) (by decide +kernel)) (fun _ _ _ _ _ => pg_name (i := 6) S.nd rfl (Or.inl rfl)) (fun _ _ _ _ _ => pts_one (pt_cmpR op_eq (pe_ix (r := rIxT K) ix_tup (pv 6) pe_int (fun _ _ => rfl)) (pv 4) (nomark _))) (fun _ _ _ _ _ => pv 6))
        (pss_one (ps_if (PW.pt (pw_and (pt_cmpR op_eq (pe_callB (r := rLenSq K) call_len_seq (by rfl) B.m_len PySem.boot_len (pa_cons (pv 5) pa_nil)) (pv 1) (nomark _)) (pw_and (pt_cmpR op_eq (pe_lenSetN rfl (by exact Nat.lt_of_le_of_lt (Nat.add_le_add_left (by decide) _) hu) (by rfl) B.m_len (by rfl) mset (pe_lc (own := [("_law_row", 6)]) (g := gName 6) (tt := tYes) rfl S.nd (pi_list (pv 5)) (blkOk_by (own := [("_law_row", 6)]) (N := nmWS) (sc := defScope s__law_wild_state) (by decide +kernel)) (fun _ _ _ _ _ => pg_name (i := 6) S.nd rfl (Or.inl rfl)) (fun _ _ _ _ _ => pts_nil) (fun _ _ _ _ _ => pe_ix (r := rIxT K) ix_tup (pv 6) pe_int (fun _ _ => rfl)))) pe_int (nomark _))
            (pw_and1 (pt_cmpR op_gt (pe_call GT (hr.mono (by decide)) (by rfl) DT.g DT.F.kp DT.b .nil pass0 (pa_cons (pv 0) (pa_cons pe_int pa_nil))) pe_int (nomark _))))))
          (pss_one (ps_expr (pe_bm PySem.F.plainAttrs_list PySem.F.slot_list_append PySem.F.type_list_append mt_append (pv 3) (pa_cons (pe_op op_add_str (pe_op op_add_str (pe_op op_add_str pe_str (pv 4)) pe_str) (pe_call GW (hr.mono (by decide)) (by rfl) DW.g DW.F.kp DW.b .nil pass0 (pa_cons (pv 0) (pa_cons (pv 1) (pa_cons (pe_ix (r := rIxT K) ix_tup (pe_ix (r := rIxL K) ix_list (pv 5) pe_int (fun _ _ => rfl)) pe_int (fun _ _ => rfl)) pa_nil))))) pa_nil))))
          (pss_one (ps_for PassesOwn.never rfl (pi_list (pv 5)) (pg_name (i := 6) S.nd rfl (.inl rfl))
            (pss_cons (ps_set (i := 7) S.nd rfl (.inl rfl) (pe_call GW (hr.mono (by decide)) (by rfl) DW.g DW.F.kp DW.b .nil pass0 (pa_cons (pv 0) (pa_cons (pv 1) (pa_cons (pe_ix (r := rIxT K) ix_tup (pv 6) pe_int (fun _ _ => rfl)) pa_nil)))))
            (pss_one (ps_expr (pe_bm PySem.F.plainAttrs_list PySem.F.slot_list_append PySem.F.type_list_append mt_append (pv 3) (pa_cons (pe_op op_add_str (pe_op op_add_str (pe_op op_add_str (pe_op op_add_str (pe_op op_add_str pe_str (pv 4)) pe_str) (pe_callTy call_str_int (by rfl) B.m_str (by decide +kernel) (pa_cons (pe_ix (r := rIxT K) ix_tup (pv 6) pe_int (fun _ _ => rfl)) pa_nil))) pe_str) (pv 7)) pa_nil)))))))))))
      (pss_one (ps_ret (pe_call GS (hr.mono (by decide)) (by rfl) DS.g DS.F.kp DS.b .nil pass0 (pa_cons (pv 0) (pa_cons (pv 3) (pa_cons (pe_callB (r := rLenSq K) call_len_seq (by rfl) B.m_len PySem.boot_len (pa_cons (pv 3) pa_nil)) pa_nil)))))))), ?_⟩
    refine asg_seq ?_
    refine ⟨Nat.zero_le _, fun L nL => ?_⟩
    have s1 := same_upd (o := .lst []) nL
    have bL : L ≠ b := fun e => by rw [e, hb] at nL; cases nL
    have R1 : SK m wn H b q n 0 (upd H L (.lst [])) L [] [] p n := ⟨SameBut.of_same s1, upd_same, bL, nL, (fun _ h => (nomatch h)), ⟨.refl _, (fun _ h => (nomatch h))⟩, Nat.le_refl _, (fun _ h => (nomatch h)), s1 _ _ hb, Bx, by show n ≤ n + 8 * ((0 : Nat) : Int) + ((0 : Nat) : Int); omega⟩
    generalize (upd H L (.lst [])) = H1 at R1 ⊢
    have tkH : ∀ {H' : Hp}, SameBut b H H' → TKeep H H' := fun sb => TKeep.but sb hb
    have doorP : ∀ r ∈ rs, r.1.1 ∈ poolD := fun r hr => (ro r hr).1
    dsimp only [tSeq]
    refine for_te ?_
    dsimp only [tSortedSetS]
    refine doors_lc (hst.mono (tkH R1.sb)) rl fun H2 D0 s2 hD0 => ⟨D0, rs.map fun r => r.1.1, rfl, SqL.of hD0, by rw [List.length_map]; omega, fun ds dd nd mem dl nd2 => ?_⟩
    rw [List.length_map] at dl
    have R3 : SK m wn H b q n 0 (upd H2 dd (.lst (ds.map V.str))) L [] [] p n := (R1.same s2).same (same_upd nd2)
    have hd3 : (upd H2 dd (.lst (ds.map V.str))) dd = some (.lst (ds.map V.str)) := upd_same
    have bd : dd ≠ b := fun e => by rw [e, (R1.same s2).hb] at nd2; cases nd2
    have Ld : dd ≠ L := fun e => by rw [e, (R1.same s2).hL] at nd2; cases nd2
    generalize (upd H2 dd (.lst (ds.map V.str))) = H3 at R3 hd3 ⊢
    have cover : ∀ r ∈ rs, r.1.1 ∈ ds := fun r hr => (mem _).mpr (List.mem_map_of_mem (f := fun r : RwD => r.1.1) hr)
    have pool : ∀ z ∈ ds, z ∈ poolD := fun z hz => by
      obtain ⟨r, hr, rfl⟩ := List.mem_map.mp ((mem z).mp hz)
      exact doorP r hr
    have whole := by_doors ds rs nd cover
    have part : ∀ j, (((ds.take j).flatMap fun d => rs.filter fun r => decide (r.1.1 = d))).length ≤ rs.length := fun j => by
      rw [← whole.length_eq]
      have e : ds = ds.take j ++ ds.drop j := (List.take_append_drop j ds).symm
      have e2 : (ds.flatMap fun d => rs.filter fun r => decide (r.1.1 = d)) = ((ds.take j).flatMap fun d => rs.filter fun r => decide (r.1.1 = d)) ++ ((ds.drop j).flatMap fun d => rs.filter fun r => decide (r.1.1 = d)) := by
        rw [← List.flatMap_append, ← e]
      rw [e2, List.length_append]
      exact Nat.le_add_right _ _
    refine ⟨dd, rfl, ⟨_, SqL.of hd3⟩, ?_⟩
    show ∃ W : Nat → Nat → L2.St → Hp → Prop, _
    refine for_list (K := K) (a := dd) (xs := ds.map V.str) (fun j σ H' => ∃ (u4 u5 u6 u7 : Option V) (W : List WRow) (p' n' : Int), σ = [some (.ref b), some (.int m), some (.ref t), some (.ref L), u4, u5, u6, u7] ∧ SK m wn H b q n j H' L ((ds.take j).flatMap fun d => rs.filter fun r => decide (r.1.1 = d)) W p' n' ∧ H' dd = some (.lst (ds.map V.str))) ?_ ?_ ?_ ?_
    · exact ⟨none, none, none, none, [], p, n, rfl, R3, hd3⟩
    · rintro j σ H9 _ ⟨_, _, _, _, _, _, _, rfl, _, h⟩
      exact SqL.of h
    · rintro j x σ H9 ex ⟨u4, u5, u6, u7, W9, p9, n9, rfl, R9, hd9⟩
      obtain ⟨z, ez, rfl⟩ : ∃ z, ds[j]? = some z ∧ x = .str z := by
        rw [List.getElem?_map] at ex
        cases e : ds[j]? with
        | none => rw [e] at ex; cases ex
        | some z => rw [e] at ex; exact ⟨z, rfl, (Option.some.inj ex).symm⟩
      have jlt := (List.getElem?_eq_some_iff.mp ez).1
      have zp := pool z (List.mem_of_getElem? ez)
      have part1 := part (j + 1)
      have nxt : ((ds.take (j + 1)).flatMap fun d => rs.filter fun r => decide (r.1.1 = d)) = ((ds.take j).flatMap fun d => rs.filter fun r => decide (r.1.1 = d)) ++ rs.filter fun r => decide (r.1.1 = z) := by
        rw [List.take_add_one, ez, List.flatMap_append]
        show _ ++ ((rs.filter fun r => decide (r.1.1 = z)) ++ []) = _
        rw [List.append_nil]
      rw [nxt, List.length_append] at part1
      have fin : ∀ {H' : Hp} {W' : List WRow} {p' n' : Int}, SK m wn H b q n (j + 1) H' L (((ds.take j).flatMap fun d => rs.filter fun r => decide (r.1.1 = d)) ++ rs.filter fun r => decide (r.1.1 = z)) W' p' n' → SK m wn H b q n (j + 1) H' L ((ds.take (j + 1)).flatMap fun d => rs.filter fun r => decide (r.1.1 = d)) W' p' n' := fun h => by
        rw [nxt]
        exact h
      dsimp only [gName, List.set]
      refine asg_seq ?_
      refine rows_lc (z := z) (hst.mono (tkH R9.sb)) rl (fun t' r H' R hr hR => ?_) fun H4 G us s4 nG hG au => ?_
      · obtain ⟨o, h1, _⟩ := hr
        dsimp only [tTest, tOp]
        refine (val_var rfl) _ (val_c _ ⟨t', _, _, _, rfl, rfl, SqT.of h1, atI_nat (j := 0) rfl, ?_⟩)
        refine (val_var rfl) _ ⟨rfl, _, rfl, ?_⟩
        rw [dec_str]
        exact hR
      generalize ((ds.take j).flatMap fun d => rs.filter fun r => decide (r.1.1 = d)) = gs at R9 part1 fin
      have gx : ∀ r ∈ rs.filter (fun r => decide (r.1.1 = z)), r.1.1 = z ∧ RowX m wn r ∧ RowOk r := fun r hr => by
        have h := List.mem_filter.mp hr
        exact ⟨of_decide_eq_true h.2, sx.2 r h.1, ro r h.1⟩
      have gasc : ((rs.filter fun r => decide (r.1.1 = z)).map (·.1)).Pairwise RLt := sx.1.sublist (List.Sublist.map _ List.filter_sublist)
      generalize (rs.filter fun r => decide (r.1.1 = z)) = g at part1 fin gx gasc au
      have bG : G ≠ b := fun e => by rw [e, R9.hb] at nG; cases nG
      have LG : G ≠ L := fun e => by rw [e, R9.hL] at nG; cases nG
      have R10 := (R9.same s4).step (i := j + 1) (SameBut.of_same (Same.refl _)) (s4 _ _ R9.hb) R9.bo (by have := R9.le; omega)
      have hd10 := s4 _ _ hd9
      have gl := Paired.length au
      dsimp only [gName, List.set]
      dsimp only [tIfS, tAnd, tTest, tOp]
      refine (val_lenL (val_var rfl) (SqL.of hG)) _ ?_
      refine (val_var rfl) _ ⟨rfl, _, rfl, ?_⟩
      cases c1 : decide (V.int (us.map V.ref).length = V.int (m : Nat)) with
      | false =>
        refine iteF ?_
        refine iteF ?_
        refine ws_each m2 m4 w1 w4 zp R10 hG bG LG hd10 bd Ld au gx (by omega) (by omega) hn fun H' W' p' n' u6 u7 R' hd' => ?_
        exact ⟨_, _, _, _, W', p', n', rfl, fin R', hd'⟩
      | true =>
        refine iteT ?_
        have c1 := of_decide_eq_true c1
        injection c1 with c1
        rw [List.length_map] at c1
        have gm : g.length = m := by omega
        dsimp only [tLenSetN]
        refine outs3_lc hG au (by omega) fun H5 M ks s5 hM ka ke => ?_
        have kl : ks.length = g.length := by
          have e := congrArg List.length ke
          rw [List.length_map, List.length_map] at e
          exact e
        refine ⟨M, ks, rfl, SqL.of hM, ka, by omega, fun nn same => ?_⟩
        refine val_c _ ⟨rfl, _, rfl, ?_⟩
        have hG5 := s5 _ _ hG
        have hd5 := s5 _ _ hd10
        have au5 : Paired (RowD H5) us g := Paired.mapP au fun _ _ e => e.mono (TKeep.same s5)
        have R11 := R10.same s5
        cases c2 : decide (V.int (nn : Nat) = V.int 1) with
        | false =>
          refine iteF ?_
          refine iteF ?_
          refine ws_each m2 m4 w1 w4 zp R11 hG5 bG LG hd5 bd Ld au5 gx (by omega) (by omega) hn fun H' W' p' n' u6 u7 R' hd' => ?_
          exact ⟨_, _, _, _, W', p', n', rfl, fin R', hd'⟩
        | true =>
          refine iteT ?_
          have c2 := of_decide_eq_true c2
          injection c2 with c2
          obtain ⟨os, same⟩ := same (Int.ofNat.inj c2)
          have same : ∀ r ∈ g, r.2 = os := fun r hr => by
            have h := List.mem_map_of_mem (f := fun g : RwD => g.2) hr
            rw [← ke] at h
            obtain ⟨p0, hp0, e⟩ := List.mem_map.mp h
            rw [← e]
            exact same p0 hp0
          have le9 := R9.le
          have jl : j < ds.length := jlt
          refine take_box rfl val_c R11.hb R11.bo (by decide) (by decide) (by omega) fun d p6 n6 d0 d1 B6 le6 => ?_
          refine val_c _ ⟨d, 0, rfl, rfl, _, rfl, ?_⟩
          have s6 := SameBut.upd b H5 (.lst (bx p6 q n6))
          have hb6 : (upd H5 b (.lst (bx p6 q n6))) b = some (.lst (bx p6 q n6)) := upd_same
          have tk6 : TKeep H5 (upd H5 b (.lst (bx p6 q n6))) := TKeep.but s6 R11.hb
          have R12 := R11.step (i := j + 1) s6 hb6 B6 (by omega)
          have hG6 := s6 _ _ bG hG5
          have hd6 := s6 _ _ bd hd5
          have au6 : Paired (RowD (upd H5 b (.lst (bx p6 q n6)))) us g := Paired.mapP au5 fun _ _ e => e.mono tk6
          generalize (upd H5 b (.lst (bx p6 q n6))) = H6 at R12 hG6 hd6 au6 ⊢
          cases decide ((0 : Int) < d) with
          | false =>
            refine iteF ?_
            refine ws_each m2 m4 w1 w4 zp R12 hG6 bG LG hd6 bd Ld au6 gx (by omega) (by omega) hn fun H' W' p' n' u6 u7 R' hd' => ?_
            exact ⟨_, _, _, _, W', p', n', rfl, fin R', hd'⟩
          | true =>
            refine iteT ?_
            refine ws_any m2 m4 w1 w4 zp R12 hG6 hd6 bd Ld au6 gx gasc gm same (by omega) (by omega) hn fun H' W' p' n' R' hd' => ?_
            exact ⟨_, _, _, _, W', p', n', rfl, fin R', hd'⟩
    · rintro σ H9 ⟨u4, u5, u6, u7, W9, p9, n9, rfl, R9, hd9⟩
      rw [List.length_map, List.take_length] at R9
      have c9 := R9.c.perm (.refl _) whole
      have wl := R9.l
      have le9 := R9.le
      rw [whole.length_eq] at wl le9
      dsimp only [tRet, tCall, tCons, tNil]
      refine (val_var rfl) _ ((val_var rfl) _ ?_)
      refine (val_lenL (val_var rfl) (SqL.of R9.hL)) _ ?_
      refine ⟨b, L, (W9.map wrowT).map V.str, ((W9.map wrowT).map V.str).length, p9, q, n9, rfl, R9.hb, R9.bo, SqL.of R9.hL, Nat.le_refl _, ?_, ?_, fun H' r ys rest p' n' s' nr hr' hb' B' le' yl yp => ?_⟩
      · rw [List.length_map, List.length_map]
        omega
      · rw [List.length_map, List.length_map]
        omega
      · have pm := some_all yp yl
        rw [List.map_map] at pm
        obtain ⟨W', pW, rfl⟩ := perm_images _ pm
        have er : W'.map (V.str ∘ wrowT) = (W'.map wrowT).map V.str := by rw [List.map_map]
        rw [er] at hr'
        rw [List.length_map, List.length_map] at le'
        have ws : WSt m wn rs W9 := ⟨R9.ok, c9, by omega, R9.tz⟩
        exact k H' r W' p' n' (R9.sb.trans s') (fun e => by rw [e, R9.hb] at nr; cases nr) hr' (ws.perm pW) hb' B' (by omega)
end
end K5
namespace K5
open PySem PySem.Spec PyProof.Rows L2
/-! ### the key (x[0] < 0, abs(x[0])) -/
def keyD (a : Int) : PyData := .tuple [.bool (decide (a < 0)), .int (if a < 0 then -a else a)]
section
variable {P : Program} {w : World} {A : Around} {E : Value → Shared → Prop} {s : Shared} {cenv : Env} {x y : Str} {m mg mb : Str → Option Value} {t : Addr} {i : Int} {ti : Tok} {its : Array Value}
theorem lam_sub {p1 p2 p3 : Pos} {j : Nat} {Q : Value → Shared → Prop} (hk : cenv.scope.kind = .function) (hx : cenv.kindOf x = some .local) (nd : (x == ("__debug__" : Str)) = false) (ns : s.heap.Ns cenv.locals m) (mx : m x = some (.ref t)) (ht : IsTup s.heap t its) (h0 : its[0]? = some (.int i ti)) (q : ∀ tk, Q (.int i ti) { s with toks := tk }) :
    wpAny (model P w) A (eval (.Subscript (.Name x p1) (.Constant (.int 0) j p2) p3) cenv) Q E s := by
  refine Subscript_ (wpAny_Name (wpAny_loadName_local hk hx ns mx ?_) nd)
  refine wpAny_Constant_int ?_
  have ix : seqIndex? 0 its.size = some 0 := by
    have := (Array.getElem?_eq_some_iff.mp h0).1
    exact seqIndex_in (Int.le_refl 0) (by omega)
  exact subscriptTail_builtinR (x := .int i ti) ht.typeIs slot_tuple_getitem.lookup (getItem_tuple (j := 0) ht (by decide) (by decide) ix h0 ⟨rfl, q _⟩)
theorem lam_body {p1 p2 p3 p4 p5 p6 p7 p8 p9 p10 p11 : Pos} {j1 j2 j3 kt : Nat} (hk : cenv.scope.kind = .function) (hx : cenv.kindOf x = some .local) (nd : (x == ("__debug__" : Str)) = false) (ns : s.heap.Ns cenv.locals m) (mx : m x = some (.ref t)) (ht : IsTup s.heap t its) (h0 : its[0]? = some (.int i ti))
    (hy : cenv.kindOf y = some .globalImplicit) (ndy : (y == ("__debug__" : Str)) = false) (glob : s.heap.Ns cenv.globals mg) (miss : mg y = none) (blt : s.heap.Ns cenv.builtins mb) (hit : mb y = some (.builtin "abs")) :
    wpAny (model P w) A (eval (.Tuple [.Compare (.Subscript (.Name x p1) (.Constant (.int 0) j1 p2) p3) [.Lt] [.Constant (.int 0) j2 p4] p5, .Call (.Name y p6) [.Subscript (.Name x p7) (.Constant (.int 0) j3 p8) p9] [] p10] kt p11) cenv) (PySem.W.KeyPure (keyD i) s) E s := by
  refine wpAny_Tuple_spliced ?_
  show wpAny _ _ (spliced ((false, eval (.Compare (.Subscript (.Name x p1) (.Constant (.int 0) j1 p2) p3) [.Lt] [.Constant (.int 0) j2 p4] p5) cenv) :: backTo p11 (starEach [.Call (.Name y p6) [.Subscript (.Name x p7) (.Constant (.int 0) j3 p8) p9] [] p10] cenv))) _ _ s
  refine Calls.spliced_cons (wpAny_Compare1 (lam_sub hk hx nd ns mx ht h0 fun tk => wpAny_Constant_int (PyProof.Rows.lt_int ?_)))
  show wpAny _ _ (spliced ((false, eval (.Call (.Name y p6) [.Subscript (.Name x p7) (.Constant (.int 0) j3 p8) p9] [] p10) cenv) :: backTo p11 (starEach [] cenv))) _ _ _
  refine Calls.spliced_cons (Call_ (Calls.Name_function_global hk hy (Calls.loadGlobal_builtin glob miss blt hit ?_) ndy))
  refine PyProof.Rows.callWith_builtin1 (PyProof.Rows.args_cons (lam_sub hk hx nd ns mx ht h0 fun tk2 => PyProof.Rows.args_nil (call_abs_int fun u tk3 => ?_)) rfl) rfl rfl
  refine Calls.spliced_nil ⟨(by show 2 ≤ sizeLine; decide), _, _, rfl, fun b o e => Heap.get?_push_of_some _ e, ?_⟩
  exact .tuple (Heap.get?_push_size _ rfl) rfl rfl (.cons (as := []) (.bool _) (.cons (as := []) (.int _ _) .nil))
end
end K5
namespace K5
open PySem PySem.Spec PyProof.Rows L2
/-! ### the lambda called -/
abbrev lamParams (x : Str) (p : Pos) : Arguments := { posonlyargs := [], args := [{ arg := x, annotation := none, pos := p }], vararg := none, kwonlyargs := [], kw_defaults := [], kwarg := none, defaults := [] }
abbrev lamScope (x y : Str) : Scope := { kind := .function, names := [(x, .local), (y, .globalImplicit)], isGenerator := false, isCoroutine := false }
section
variable {P : Program} {w : World} {A : Around} {E : Value → Shared → Prop} {s : Shared} {mg mb : Str → Option Value} {t f c' : Addr} {i : Int} {ti : Tok} {its : Array Value} {q : Str} {pm ctv : Value}
theorem lam_call {p0 p1 p2 p3 p4 p5 p6 p7 p8 p9 p10 p11 : Pos} {j1 j2 j3 kt : Nat} (room : A.depth < recursionLimit) (of : s.heap.get? f = some (PySem.W.kla_obj "<lambda>" q (lamParams "outcome" p0) (.Tuple [.Compare (.Subscript (.Name "outcome" p1) (.Constant (.int 0) j1 p2) p3) [.Lt] [.Constant (.int 0) j2 p4] p5, .Call (.Name "abs" p6) [.Subscript (.Name "outcome" p7) (.Constant (.int 0) j3 p8) p9] [] p10] kt p11) (lamScope "outcome" "abs") [] pm c' ctv))
    (rec : s.heap.CodeRec (.ref c') q) (lim : s.heap.NoLimit) (ht : IsTup s.heap t its) (h0 : its[0]? = some (.int i ti)) (glob : s.heap.Ns mainGlobals mg) (miss : mg "abs" = none) (blt : s.heap.Ns builtinsNs mb) (hit : mb "abs" = some (.builtin "abs")) :
    wpAny (model P w) A (call (.ref f) [.ref t]) (PySem.W.KeyPure (keyD i) s) E s := by
  have rc : codeAny (model P w) A (.call (.ref f) ⟨[.ref t], []⟩) (fun r s' => ∃ v, r = .ok (.ret v) ∧ PySem.W.KeyPure (keyD i) s v s') s := by
    refine PySem.W.kla_callFunE room of rfl rfl rfl rfl rec ?_
    have hb : bindArgs (PySem.W.kla_fn "<lambda>" q (lamParams "outcome" p0) (.Tuple [.Compare (.Subscript (.Name "outcome" p1) (.Constant (.int 0) j1 p2) p3) [.Lt] [.Constant (.int 0) j2 p4] p5, .Call (.Name "abs" p6) [.Subscript (.Name "outcome" p7) (.Constant (.int 0) j3 p8) p9] [] p10] kt p11) (lamScope "outcome" "abs") [] pm (.ref c') ctv) ⟨[.ref t], []⟩ = pure [(("outcome" : Str), Value.ref t)] := by rfl
    rw [hb]
    have nc : ∀ x ∈ (lamScope "outcome" "abs").names, x.2 ≠ .cell := by decide
    refine wpAny_pure (wpAny_newFunctionEnv nc (fun y hy => ?_) (fun h₁ hns hsb => ⟨lim.fresh _ hsb, ?_⟩) rfl)
    · rw [List.mem_singleton.mp hy]
      rfl
    · have kp : ∀ b o, s.heap.get? b = some o → h₁.get? b = some o := fun b o e => hsb.extBut b o (Nat.ne_of_lt (Heap.lt_size e)) (Heap.get?_push_of_some _ e)
      refine PySem.W.kla_codeExpr (wpAny_mono (lam_body (i := i) (ti := ti) (its := its) (t := t) rfl rfl (by decide) hns rfl (ht.keeps kp) h0 rfl (by decide) (glob.keeps kp) miss (blt.keeps kp) hit) (fun v s' hq => ?_) fun e s' hq => hq)
      obtain ⟨h', tk, rfl, k2, r⟩ := hq
      exact ⟨v, rfl, h', tk, rfl, fun b o e => k2 b o (kp b o e), r⟩
  refine wpAny_call (codeAny_mono rc fun r s' hq => ?_)
  obtain ⟨v, rfl, kp⟩ := hq
  exact kp
end
end K5
namespace K5
open PySem PySem.Spec PyProof.Rows L2
/-! ### worths first, then lost, then busy -/
def nbI (a : Int) : Int := if decide (a < 0) = true then 1 else 0
def abI (a : Int) : Int := if a < 0 then -a else a
abbrev keyQ (q : Int × Int) : PyData := keyD q.1
theorem keyQ_le : PySem.W.dataLe false keyQ = fun p q => decide (nbI p.1 < nbI q.1 ∨ (nbI p.1 = nbI q.1 ∧ abI p.1 ≤ abI q.1)) := by
  have e := PySem.W.dataLe_ii (fun q : Int × Int => nbI q.1) (fun q => abI q.1)
  rw [← e]
  rfl
theorem shown_sorted {os : List (Int × Int)} (asc : (os.map (·.1)).Pairwise (· < ·)) : os.mergeSort (PySem.W.dataLe false keyQ) = shownI os := by
  have asc2 := List.pairwise_map.mp asc
  have neg : ∀ a : Int, a < 0 → nbI a = 1 ∧ abI a = -a := fun a h => by
    unfold nbI abI
    rw [decide_eq_true h, if_pos rfl, if_pos h]
    exact ⟨rfl, rfl⟩
  have pos : ∀ a : Int, ¬ a < 0 → nbI a = 0 ∧ abI a = a := fun a h => by
    unfold nbI abI
    rw [decide_eq_false h, if_neg (by decide), if_neg h]
    exact ⟨rfl, rfl⟩
  rw [keyQ_le]
  refine asc_uniq (lt := fun p q : Int × Int => nbI p.1 < nbI q.1 ∨ (nbI p.1 = nbI q.1 ∧ abI p.1 < abI q.1)) (le := fun p q => decide (nbI p.1 < nbI q.1 ∨ (nbI p.1 = nbI q.1 ∧ abI p.1 ≤ abI q.1)) = true) (fun a b h c => ?_) ?_ (List.pairwise_mergeSort (fun a b c h1 h2 => ?_) (fun a b => ?_) os) ((List.mergeSort_perm _ _).trans ?_)
  · have h := of_decide_eq_true h
    omega
  · unfold shownI
    refine List.pairwise_append.mpr ⟨?_, ?_, fun a ha b hb => ?_⟩
    · refine (asc2.sublist List.filter_sublist).imp_of_mem fun {a b} ha hb h => ?_
      have h1 := of_decide_eq_true (List.mem_filter.mp ha).2
      have h2 := of_decide_eq_true (List.mem_filter.mp hb).2
      have p1 := pos a.1 (by omega)
      have p2 := pos b.1 (by omega)
      omega
    · refine ((List.pairwise_reverse.mpr asc2).sublist List.filter_sublist).imp_of_mem fun {a b} ha hb h => ?_
      have h1 := of_decide_eq_true (List.mem_filter.mp ha).2
      have h2 := of_decide_eq_true (List.mem_filter.mp hb).2
      have p1 := neg a.1 h1
      have p2 := neg b.1 h2
      omega
    · have h1 := of_decide_eq_true (List.mem_filter.mp ha).2
      have h2 := of_decide_eq_true (List.mem_filter.mp hb).2
      have p1 := pos a.1 (by omega)
      have p2 := neg b.1 h2
      omega
  · have h1 := of_decide_eq_true h1
    have h2 := of_decide_eq_true h2
    exact decide_eq_true (by omega)
  · rw [Bool.or_eq_true]
    by_cases h : nbI a.1 < nbI b.1 ∨ (nbI a.1 = nbI b.1 ∧ abI a.1 ≤ abI b.1)
    · exact .inl (decide_eq_true h)
    · exact .inr (decide_eq_true (by omega))
  · unfold shownI
    rw [List.filter_reverse]
    refine List.Perm.trans ?_ ((List.Perm.refl _).append (List.reverse_perm _).symm)
    exact (low_high os).symm.trans List.perm_append_comm
section
variable {P : Program} {w : World} {A : Around} {E : Value → Shared → Prop} {s : Shared} {β : Type} {vs : List Value} {bs : List β} {R : Value → β → Prop}
theorem collect_tup {l : Addr} {Q : List Value → Shared → Prop} (hl : IsTup s.heap l vs.toArray) (few : vs.length ≤ sizeLine) (q : Q vs { s with heap := (s.heap.push (seqObj "list" #[] 0)).update s.heap.objs.size (Obj.mapSeq (· ++ vs.toArray)) }) : wpAny (model P w) A (collect (.ref l)) Q E s := by
  obtain ⟨o, ho, hc, n, hd⟩ := hl
  unfold collect
  refine wpAny_bind (wpAny_runValue (codeAny_builtin entry_proto_collect' ?_)); show wpAny _ _ (do again (.builtin "list.__iadd__" ⟨[← newList [], .ref l], []⟩)) _ _ s; refine wpAny_bind (wpAny_newList (wpAny_pure ⟨Code.quiet_builtin _ (by decide +kernel), codeAny_builtin entry_list_iadd' ?_⟩))
  show wpAny _ _ (Builtin.List.listExtendWith (.ref s.heap.objs.size) (.ref l) (.ref s.heap.objs.size)) _ _ { s with heap := s.heap.push (seqObj "list" #[] 0) }; unfold Builtin.List.listExtendWith
  have ho2 : (s.heap.push (seqObj "list" #[] 0)).get? l = some o := Heap.get?_push_of_some _ ho
  refine wpAny_bind (wpAny_typeOf (T := "tuple") ⟨o, ho2, hc⟩ ?_)
  have tt : (Value.type "tuple" == Value.type "tuple") = true := by rfl
  rw [if_pos (by rw [tt]; simp)]
  refine wpAny_bind (listItems_at ho2 hd (wpAny_bind (listItems_at (xs := #[]) (n := 0) (Heap.get?_push_size _ rfl) rfl ?_)))
  rw [if_neg (by simp)]
  refine wpAny_bind (listUpdate_at (xs := #[]) (n := 0) (Heap.get?_push_size _ rfl) rfl (wpAny_pure ?_) (Nat.zero_le _) (by show (#[] ++ vs.toArray).size ≤ sizeLine + 1; simp only [Array.size_append, List.size_toArray, List.length_nil]; omega))
  refine wpAny_bind (wpAny_load (get?_update_seq (Heap.get?_push_size _ rfl) _) ?_)
  show wpAny _ _ (pure ((#[] : Array Value) ++ vs.toArray).toList) Q E _
  rw [show ((#[] : Array Value) ++ vs.toArray).toList = vs by simp]
  exact wpAny_pure q
/-- sorted(t, key=f) of a tuple -/
theorem sorted_tup_key {l f : Addr} {Q : Value → Shared → Prop} (k : β → PyData) (hl : IsTup s.heap l vs.toArray) (e : PySem.W.EachIs R vs bs) (hal : PySem.W.AllAlike (bs.map k)) (hk : PySem.W.Sortable (bs.map k)) (hL : bs.length ≤ sizeLine) (hu : ∀ x, x ∈ bs → A.units + 2 + (k x).depth < cLine)
    (turn : ∀ (v : Value) (x : β), R v x → x ∈ bs → ∀ (h : Heap) (tk : Nat), (∀ b o, s.heap.get? b = some o → h.get? b = some o) → wpAny (model P w) A.in1.in1 (call (.ref f) [v]) (PySem.W.KeyPure (k x) { s with heap := h, toks := tk }) (fun _ _ => False) { s with heap := h, toks := tk })
    (q : ∀ out c h' tk, (∀ b o, s.heap.get? b = some o → h'.get? b = some o) → h'.get? (s.heap.objs.size + 1) = some (seqObj "list" (List.toArray out) c) → PySem.W.EachIs R out (bs.mergeSort (PySem.W.dataLe false k)) → Q (.ref (s.heap.objs.size + 1)) { s with heap := h', toks := tk }) :
    wpAny (model P w) A (call (.builtin "sorted") [.ref l] [(Str.ofString "key", .ref f)]) Q E s := by
  have vl : vs.length ≤ sizeLine := by rw [e.length]; exact hL
  have up : ∀ {g : Heap}, PySem.W.KeepsBut (s.heap.objs.size + 1) (PySem.W.copyHeap s.heap vs) g → ∀ b o, s.heap.get? b = some o → g.get? b = some o := fun {g} kp b o h => kp b o (Nat.ne_of_lt (Nat.lt_succ_of_lt (Heap.lt_size h))) (PySem.W.copyHeap_old h)
  refine call_function_entry_kw kind_sorted plain_sorted entry_sorted (by unfold argsOk; kernel_rfl) ?_
  unfold Builtin.«sorted»
  refine wpAny_bind (m := checkCount "sorted" 1 1 _) (wpAny_pure (wpAny_bind (collect_tup hl vl (wpAny_bind (wpAny_newList ?_ vl)))))
  have sz : ((s.heap.push (seqObj "list" #[] 0)).update s.heap.objs.size (Obj.mapSeq (· ++ vs.toArray))).objs.size = s.heap.objs.size + 1 := by rw [Heap.size_update, size_push']
  show wpAny _ _ _ _ _ { s with heap := PySem.W.copyHeap s.heap vs }
  rw [sz]
  refine wpAny_bind (wpAny_holding (wpAny_call_entry_kw slot_list_sort ⟨_, PySem.W.copyHeap_at s.heap vs, rfl⟩ entry_list_sort ?_ (by unfold argsOk; kernel_rfl)))
  show wpAny (model P w) A.in1.in1 (Builtin.«list.sort» ⟨[.ref (s.heap.objs.size + 1)], [(Str.ofString "key", .ref f)]⟩) _ _ _
  rw [PyProof.Rows.ksk_t1]
  refine PySem.W.keyH_tree (kz := bs.map k) (s := { s with heap := PySem.W.copyHeap s.heap vs }) (PySem.W.copyHeap_at s.heap vs) (by rw [List.length_map]; exact e.length.symm) vl hal hk (PySem.W.bound_map (A := A.in1.in1) hu) (PySem.W.keyH_turns (s := { s with heap := PySem.W.copyHeap s.heap vs }) e fun v x hR hx h tk kp => turn v x hR hx h tk (up kp)) fun h' tk out c kp hD ko => ?_
  exact ⟨_, rfl, wpAny_pure ⟨_, rfl, q out c h' tk (up kp) hD (PySem.W.keyedOut_each k ko e)⟩⟩
end
end K5
namespace K5
open PySem PySem.Spec PyProof.Rows L2 LamX
/-! ### sorted(t, key=lambda x: (x[0] < 0, abs(x[0]))) -/
theorem TabS.but {H H' : Hp} {P : Addr} {q : Str} (t : TabS H P q) (e : ∀ b o, H b = some o → H' b = some o) : TabS H' P q := t.ext e
section
variable {X : Cx} {pins : List (Addr × Obj)} {σ : L2.St} {H : Hp} {s : Shared}
theorem lam_mk {c P : Addr} {params : Arguments} {body : Expr} {scope : Scope} {pos : Pos} {E : Value → Shared → Prop} {Q : Value → Shared → Prop} (I : Inv X pins σ H s) (TB : GxR.TabB X.base X.mg c P) (code : X.env.code = .ref c) (hT : TabS H P (X.env.qual ++ "<lambda>")) (hdef : defaultsOf params X.env = ([], [])) (free : ∀ y ∈ scope.names, y.2 = .free → ∃ c, X.env.cells.lookup y.1 = some c) (cl : cloFrom X.env.cells scope.names [] = [])
    (q : ∀ (f c' : Addr) (pm ctv : Value) (H1 : Hp) (s1 : Shared), Inv X pins σ H1 s1 → ButP P H H1 → TabS H1 P (X.env.qual ++ "<lambda>") → s1.heap.get? f = some (PySem.W.kla_obj "<lambda>" (X.env.qual ++ "<lambda>") params body scope [] pm c' ctv) → H1 c' = some (CodeO c' (X.env.qual ++ "<lambda>")) → (∀ b, H1 b = none → H b = none) → Q (.ref f) s1) :
    wpAny (model X.prog X.w) X.A (eval (.Lambda params body scope pos) X.env) Q E s := by
  obtain ⟨tb, hP, tri, known⟩ := hT
  have hcl : closureFor scope X.env = pure [] := by rw [← cl]; exact closure_ok free
  have glob := I.mod.glob.keeps I.bk
  have hP2 : s.heap.get? P = some { cls := .none, data := .fields tb } := I.hok P _ hP
  have cd := TB.code.keeps I.bk
  have bP : s.heap.BuiltinsAt X.mg P := TB.bm.keeps I.bk
  refine PySem.W.kla_eval hdef ?_
  cases hc : codeAmong pos tb.toList with
  | none =>
    refine PySem.W.kla_makeFunction (mg := X.mg) (c := c) (P := P) (ps := tb) hcl I.ok.glob glob code cd hP2 tri hc TB.gP bP fun c' ctv h' tk hx ge lt rec tab => ?_
    obtain ⟨c2, oc, vs, t, e2, ho, hd, hv⟩ := rec
    cases e2
    have new : H c' = none := I.hok.fresh ge
    have I1 := inv_table (t' := tk) (q := X.env.qual ++ "<lambda>") (more := #[rawInt pos.line, rawInt pos.col, .ref c']) (h' := h'.push (PySem.W.kla_obj "<lambda>" (X.env.qual ++ "<lambda>") params body scope [] ((X.mg "__name__").getD .none) c' ctv)) I hP (fun b o nb e => Heap.get?_push_of_some _ (hx b o nb e)) (Heap.get?_push_of_some _ tab) ge ⟨oc, vs, t, Heap.get?_push_of_some _ ho, hd, hv⟩
    have bt : ButP P H (upd (upd H P (.tbl (tb ++ #[rawInt pos.line, rawInt pos.col, .ref c']))) c' (CodeO c' (X.env.qual ++ "<lambda>"))) := fun b o nb e => by
      rw [upd_ne (ne_of_none e new), upd_ne nb]
      exact e
    have el : (tb ++ #[rawInt pos.line, rawInt pos.col, .ref c']).toList = tb.toList ++ [rawInt pos.line, rawInt pos.col, .ref c'] := by simp
    refine q h'.objs.size c' _ ctv _ _ I1 bt ⟨_, by rw [upd_ne (ne_of_none hP new), upd_same], by rw [el]; exact PySem.TriplesOk_snoc _ _ _ _ tri, fun p cv hcv => ?_⟩ (Heap.get?_push_size _ rfl) upd_same fun b e => ?_
    · rw [el] at hcv
      rcases among_app _ tri hcv with z | z
      · obtain ⟨c0, e1, e3⟩ := known p cv z
        refine ⟨c0, e1, bt _ _ (fun e => ?_) e3⟩
        rw [e, hP] at e3
        exact codeO_ne (c := P) (q := X.env.qual ++ "<lambda>") tb (by injection e3 with e3; exact e3.symm)
      · exact ⟨c', z, upd_same⟩
    · by_cases e1 : b = c'
      · rw [e1]
        exact new
      · rw [upd_ne e1] at e
        by_cases e2 : b = P
        · rw [e2, upd_same] at e
          cases e
        · rw [upd_ne e2] at e
          exact e
  | some cv =>
    obtain ⟨c', rfl, hco⟩ := known pos cv hc
    refine PySem.W.kla_makeFunctionHit (mg := X.mg) (c := c) (P := P) (ps := tb) hcl I.ok.glob glob code cd hP2 tri hc bP fun ctv h' tk hx ge => ?_
    exact q h'.objs.size c' _ ctv H _ (I.kept fun b o e => Heap.get?_push_of_some _ (hx b o e)) (fun _ _ _ e => e) ⟨tb, hP, tri, known⟩ (Heap.get?_push_size _ rfl) hco fun _ e => e
end
def tSortLam (P : Addr) (q : Str) (te : TE) : TE := fun σ H Q => te σ H fun x H1 => ∃ (o : Addr) (os : List (Int × Int)), x = .ref o ∧ OuAt H1 o os ∧ os.length ≤ 6 ∧ (os.map (·.1)).Pairwise (· < ·) ∧ TabS H1 P q ∧ ∀ (H2 : Hp) (D : Addr) (us : List Addr), ButP P H1 H2 → TabS H2 P q → H2 D = some (.lst (us.map V.ref)) → OsAt H2 us (shownI os) → H1 D = none → Q (.ref D) H2
theorem each_refsI {H : Hp} : ∀ {vs : List Value} {os : List (Int × Int)}, PySem.W.EachIs (fun (v : Value) (o : Int × Int) => ∃ t, v = .ref t ∧ H t = some (.tup [.int o.1, .int o.2])) vs os → ∃ ts : List Addr, vs = ts.map Value.ref ∧ OsAt H ts os
  | _, _, .nil => ⟨[], rfl, .nil⟩
  | _, _, .cons ⟨t, e, h⟩ r => by
    obtain ⟨ts, e2, a⟩ := each_refsI r
    exact ⟨t :: ts, by rw [e, e2]; rfl, .cons h a⟩
theorem each_ofI {H : Hp} : ∀ {ts : List Addr} {os : List (Int × Int)}, OsAt H ts os → PySem.W.EachIs (fun (v : Value) (o : Int × Int) => ∃ t, v = .ref t ∧ H t = some (.tup [.int o.1, .int o.2])) (ts.map Value.ref) os
  | _, _, .nil => .nil
  | _, _, .cons h r => .cons ⟨_, rfl, h⟩ (each_ofI r)
section
variable {X : Cx} {e : Expr} {te : TE} {p pos kpos lpos : Pos} {c P : Addr}
theorem pe_sortLam {p0 p1 p2 p3 p4 p5 p6 p7 p8 p9 p10 p11 : Pos} {j1 j2 j3 kt : Nat} (hr : Room 2 X.A) (TB : GxR.TabB X.base X.mg c P) (code : X.env.code = .ref c) (hg : Gl X "sorted") (hm : X.mg "sorted" = none) (ha : X.mg "abs" = none) (it : PE X e te)
    (he : backTo pos (starEach [e] X.env) = (false, eval e X.env) :: backTo pos (starEach [] X.env) := by rfl) (hpl : (backTo pos (starEach [e] X.env)).any (·.1) = false := by rfl) (na : starEach [e] X.env = (false, eval e X.env) :: starEach [] X.env := by rfl) :
    PE X (.Call (.Name "sorted" p) [e] [⟨some "key", .Lambda (lamParams "outcome" p0) (.Tuple [.Compare (.Subscript (.Name "outcome" p1) (.Constant (.int 0) j1 p2) p3) [.Lt] [.Constant (.int 0) j2 p4] p5, .Call (.Name "abs" p6) [.Subscript (.Name "outcome" p7) (.Constant (.int 0) j3 p8) p9] [] p10] kt p11) (lamScope "outcome" "abs") lpos, kpos⟩] pos) (tSortLam P (X.env.qual ++ "<lambda>") te) := by
  refine ⟨fun pins s σ H Q I h => wpAny_Call_Name_kw (ld_blt I hg hm boot_sorted2 (PyProof.Rows.callWith_kw (PyProof.Rows.args_cons (thn (it.run pins s σ H _ I h) fun v s1 ⟨x, H1, I1, r1, q1⟩ => PyProof.Rows.args_nil ?_) na) he hpl rfl rfl))⟩
  obtain ⟨o, os, rfl, ⟨ts, ho, au⟩, few, asc, tab, q1⟩ := q1
  cases r1
  have free : ∀ y ∈ (lamScope "outcome" "abs").names, y.2 = .free → ∃ c, X.env.cells.lookup y.1 = some c := fun y hy e => by
    have : ∀ y ∈ (lamScope "outcome" "abs").names, y.2 ≠ .free := by decide
    exact absurd e (this y hy)
  refine wpAny_evalAll_cons (wpAny_bind (lam_mk I1 TB code tab rfl free rfl fun f c' pm ctv H2 s2 I2 bt tab2 of hco old => wpAny_bind (wpAny_standAt (wpAny_pure (wpAny_evalAll_nil ?_)))))
  show wpAny _ _ (call (.builtin "sorted") [.ref o] [(Str.ofString "key", .ref f)]) _ _ _
  have oP : ∀ {b xs}, H1 b = some (.tup xs) → H2 b = some (.tup xs) := fun {b xs} hb => bt _ _ (fun e => by
    obtain ⟨tb, hP, _⟩ := tab
    rw [e, hP] at hb
    cases hb) hb
  have ho2 := oP ho
  have au2 : OsAt H2 ts os := Paired.mapP au fun _ _ e => oP e
  obtain ⟨its, rv, pl, hz⟩ := I2.tuple (SqT.of ho2)
  have ei : its = ts.map Value.ref := GL.vals_ref_map rv
  rw [ei] at pl
  obtain ⟨mb, hb1, hb2⟩ := I2.mod.blt
  obtain ⟨⟨oc, vs, tq, hoc, hdc, hvc⟩, _, _⟩ := I2.hok c' _ hco
  have dep : ∀ a : Int, (keyD a).depth ≤ 1 := fun a => by
    unfold keyD
    simp only [PyData.depth, PyData.depthAll]
    decide
  refine sorted_tup_key (bs := os) keyQ pl (each_ofI au2) (fun d hd d' hd' => ?_) (.inl fun d hd => ?_) (Nat.le_trans few (by decide)) (fun x _ => ?_) (fun v x hR hx h tk kp => ?_) fun out cc h' tk kp hout eo => ?_
  · obtain ⟨a, _, rfl⟩ := List.mem_map.mp hd
    obtain ⟨b, _, rfl⟩ := List.mem_map.mp hd'
    simp [keyD, PySem.W.alike, PySem.W.alikeAll]
  · obtain ⟨a, _, rfl⟩ := List.mem_map.mp hd
    exact ⟨_, _, rfl⟩
  · have := dep x.1
    have := hr.units
    show X.A.units + 2 + (keyD x.1).depth < cLine
    omega
  · obtain ⟨t, rfl, ht⟩ := hR
    obtain ⟨its2, rv2, pl2, _⟩ := I2.tuple (SqT.of ht)
    obtain ⟨u1, u2, rfl, ⟨t1, rfl⟩⟩ : ∃ u1 u2, its2 = [u1, u2] ∧ ∃ t, u1 = .int _ t := by
      cases rv2 with
      | cons a1 b1 =>
        cases b1 with
        | cons a2 b2 =>
          cases b2
          exact ⟨_, _, rfl, a1⟩
    exact lam_call (s := { s2 with heap := h, toks := tk }) (i := x.1) (ti := t1) hr.in1.in1.depth (kp _ _ of) ⟨c', oc, vs, tq, rfl, kp _ _ hoc, hdc, hvc⟩ (I2.nolimit.keeps kp) (pl2.keeps kp) rfl ((I2.mod.glob.keeps I2.bk).keeps kp) ha ((hb1.keeps I2.bk).keeps kp) ((hb2 "abs" (by decide)).trans (by decide +kernel))
  · rw [shown_sorted asc] at eo
    obtain ⟨us, rfl, au3⟩ := each_refsI eo
    have lo : us.length ≤ 6 := by
      rw [au3.len]
      unfold shownI
      rw [List.filter_reverse, List.length_append, List.length_reverse]
      have := (low_high os).length_eq
      rw [List.length_append] at this
      unfold lowI highI at this
      omega
    have hn : H2 (s2.heap.objs.size + 1) = none := I2.hok.fresh (Nat.le_succ _)
    have J : Inv X pins σ (upd H2 (s2.heap.objs.size + 1) (.lst (us.map V.ref))) { s2 with heap := h', toks := tk } := I2.laid kp (Nat.le_succ _) ⟨by rw [List.length_map]; exact Nat.le_trans lo (by decide), us.map Value.ref, cc, GL.vals_refs us, hout⟩
    have s3 := same_upd (o := .lst (us.map V.ref)) hn
    exact ⟨.ref _, _, J, rfl, q1 _ _ us (bt.trans (ButP.of_same s3)) (TabS.but tab2 fun b o e => s3 b o e) upd_same (Paired.mapP au3 fun _ _ e => s3 _ _ e) (old _ hn)⟩
end
end K5
namespace K5
open PySem PySem.Spec PyProof.Rows L2 LamX
/-! ### shown_answer, shown_outcomes -/
def spShA : Sp := fun vs H Q _ => ∃ a : Int, vs = [.int a] ∧ -2 ≤ a ∧ a < 4 ∧ Q (.str (ansW a)) H
abbrev s_shown_answer : Stmt := topS 28
theorem sc_shown_answer : FnScope ["answer"] ["answer"] (defScope s_shown_answer) := ⟨rfl, rfl, rfl, by decide +kernel, rfl, by decide +kernel, by decide +kernel⟩
abbrev q3 : Str := ("shown_outcomes" : Str) ++ ".<locals>." ++ "<lambda>"
def spShown (PT : Addr) : Sp := fun vs H Q _ => ∃ (o : Addr) (os : List (Int × Int)), vs = [.ref o] ∧ OuAt H o os ∧ OsOk os ∧ (os.map (·.1)).Pairwise (· < ·) ∧ TabS H PT q3 ∧ ∀ H', ButP PT H H' → TabS H' PT q3 → Q (.str (Str.join ", " ((shownI os).map partI))) H'
abbrev s_shown_outcomes : Stmt := topS 27
abbrev nmSh : List Str := ["outcomes", "worths_first", "answer", "behind"]
theorem sc_shown_outcomes : FnScope nmSh ["outcomes"] (defScope s_shown_outcomes) := ⟨rfl, rfl, rfl, by decide +kernel, rfl, by decide +kernel, by decide +kernel⟩
theorem shown_len (os : List (Int × Int)) : (shownI os).length = os.length := by
  unfold shownI
  rw [List.filter_reverse, List.length_append, List.length_reverse]
  have := (low_high os).length_eq
  rw [List.length_append] at this
  unfold lowI highI at this
  omega
theorem shown_mem {os : List (Int × Int)} {o : Int × Int} (h : o ∈ shownI os) : o ∈ os := by
  unfold shownI at h
  rcases List.mem_append.mp h with h | h
  · exact (List.mem_filter.mp h).1
  · exact List.mem_reverse.mp (List.mem_filter.mp h).1
section
variable {K : PySem.W.Frag}
theorem told_lc4 {te : TE} {us : List Addr} {os : List (Int × Int)} {o : Addr} {u0 u2 u3 : Option V} {H : Hp} {Q : VK} (ho : H o = some (.lst (us.map V.ref))) (a : OsAt H us os) (ok : OsOk os)
    (ht : ∀ (q w : Int) (H' : Hp) (R : VK), -2 ≤ q → q < 4 → 0 ≤ w → w < 4 → R (.str (ansW q ++ " " ++ toString w)) H' → te [u0, some (.ref o), some (.int q), some (.int w)] H' R)
    (k : ∀ (H' : Hp) (D : Addr) (zs : List Str), Same H H' → H' D = some (.lst (zs.map V.str)) → zs.length ≤ 6 → (∀ z ∈ zs, Tz 6 z) → zs = os.map partI → Q (.ref D) H') :
    tLc (iList K (tVar 1)) (gTup K 2 (gCons (gName 2) (gCons (gName 3) gNil))) tYes te [2, 3] [u0, some (.ref o), u2, u3] H Q := by
  dsimp only [tLc, iList]
  refine (val_var rfl) _ ⟨o, rfl, ⟨_, SqL.of ho⟩, fun D nD => ?_⟩
  refine lc_list (xs := us.map V.ref) (fun j H2 => ∃ zs : List Str, Same H H2 ∧ H2 D = some (.lst (zs.map V.str)) ∧ zs.length = j ∧ (∀ z ∈ zs, Tz 6 z) ∧ zs = (os.take j).map partI) ⟨[], same_upd nD, upd_same, rfl, (fun _ h => (nomatch h)), rfl⟩ (fun j H2 _ ⟨zs, s2, _⟩ => SqL.of (s2 _ _ ho)) (fun j x H2 hj hI => ?_) fun H2 hI => ?_
  · obtain ⟨zs, s2, hD, zl, zt, ze⟩ := hI
    obtain ⟨t, et, rfl⟩ := at_ref hj
    obtain ⟨q, eq, hq⟩ := paired_at j a et
    have jlt := (List.getElem?_eq_some_iff.mp eq).1
    have j6 := ok.1
    have qo := ok.2 q (List.mem_of_getElem? eq)
    refine ⟨t, _, rfl, SqT.of (s2 _ _ hq), rfl, _, _, rfl, _, _, rfl, rfl, ?_⟩
    refine ⟨rfl, ?_⟩
    dsimp only [tYes]
    rw [if_pos rfl]
    refine ht q.1 q.2 H2 _ qo.1 qo.2.1 qo.2.2.1 qo.2.2.2 ?_
    refine ⟨zs.map V.str, hD, by rw [List.length_map, zl]; exact Nat.lt_trans (show j < 7 by omega) (by decide), zs ++ [ansW q.1 ++ " " ++ toString q.2], fun b o e => ?_, ?_, by rw [List.length_append, zl]; rfl, fun z hz => ?_, ?_⟩
    · rw [upd_ne (ne_of_none e nD)]
      exact s2 _ _ e
    · rw [List.map_append]
      exact upd_same
    · rcases List.mem_append.mp hz with hz | hz
      · exact zt z hz
      · rw [List.mem_singleton.mp hz]
        exact ((tz_ans qo.1 qo.2.1).add (tz_of (n := 1) (by decide +kernel))).add (tz_num qo.2.2.1 qo.2.2.2)
    · rw [ze, List.take_add_one, eq, List.map_append]
      rfl
  · obtain ⟨zs, s2, hD, zl, zt, ze⟩ := hI
    rw [List.length_map, a.len] at zl
    rw [List.length_map, a.len, List.take_length] at ze
    exact k H2 D zs s2 hD (by rw [zl]; exact ok.1) zt ze
end
section
variable {P : Program} {w : World} {K : PySem.W.Frag} {mg : Str → Option Value} {base : Heap} {aw : Addr}
theorem ok_shown_answer {f : Addr} {fd : FuncData} (B : Bt mg) (W : Gw K mg aw) (D : Df K mg "shown_answer" s_shown_answer f fd ["answer"]) : FnOk P w K mg base CX0 1 f fd ["answer"] spShA := by
  refine D.F.ok sc_shown_answer (fun vs H Q E h => ?_) (fun cdv A outer s H vs Q E hr h => ?_)
  · obtain ⟨a, rfl, _⟩ := h
    rfl
  · obtain ⟨a, rfl, a0, a1, k⟩ := h
    have S := sc_shown_answer
    refine ⟨_, (pss_one (ps_ret (pe_ifExp (pt_cmpR op_ge (pv 0) pe_int (nomark _)) (pe_callTy call_str_int (by rfl) B.m_str (by decide +kernel) (pa_cons (pv 0) pa_nil)) (pe_ix (r := rIxT K) ix_tup (pe_glob (v := .ref aw) (by rfl) W.a rfl) (pe_op op_add (pv 0) pe_int) (fun _ _ => rfl))))), ?_⟩
    refine (ansI (i := a) (j := 0) (val_var rfl) val_c) _ ?_
    refine ite2 (fun e => ?_) fun e => ?_
    · have e := of_decide_eq_true e
      rw [ans_high e] at k
      exact (val_strI (val_var rfl) (small_log (by omega) (by omega))) _ k
    · have e : ¬ 0 ≤ a := fun c => e (decide_eq_true c)
      have at_ : atI ((["busy", "lost"] : List Str).map V.str) (a + 2) = some (.str (ansW a)) := by
        rcases (show a = -2 ∨ a = -1 by omega) with rfl | rfl
        · rfl
        · rfl
      refine val_c _ ((val_i0 (val_var rfl) val_c) _ ⟨aw, _, _, _, rfl, rfl, W.k.sq H, at_, k⟩)
theorem FunT.ok0 {x qual : Str} {st : Stmt} {f c : Addr} {fd : FuncData} {N ps : List Str} {k : Nat} {sp : Sp} (F : FunT K x qual st f fd c) (S : FnScope N ps (defScope st)) (len : ∀ vs H Q E, sp vs H Q E → vs.length = ps.length)
    (hbody : ∀ (A : Around) (outer : List Env) (s : Shared) (H : Hp) (vs : List V) (Q : VK) (E : XK), Room k (A.deeper (envOfC qual (defScope st) s.heap.objs.size f (.ref c))) → sp vs H Q E →
      ∃ t, PSs (cxOf CX0 P w K mg base N qual (defScope st) f (.ref c) A outer s H E).nox (defBody st) t ∧ t { nx := fun _ H' => Q .non H', rt := Q } (L2.start N vs) H) : FnOk P w K mg base CX0 (k + 1) f fd ps sp := by
  obtain ⟨oc, od, kV, doc, pm, an, ct, osl, e, l1, l2⟩ := F.ex
  subst e
  refine fn_of l1 l2 S len fun A outer s H vs Q E hr hsp => ?_
  obtain ⟨t, h, q⟩ := hbody A outer s H vs Q E hr hsp
  exact ⟨t, h.nox, q⟩
theorem ok_shown_outcomes {f fA c PT : Addr} {fd dA : FuncData} (B : Bt mg) (ms : mg "sorted" = none) (ma : mg "abs" = none) (W : Gw K mg aw) (DA : Df K mg "shown_answer" s_shown_answer fA dA ["answer"]) (F : FunT K "shown_outcomes" "shown_outcomes" s_shown_outcomes f fd c) (TB : GxR.TabB base mg c PT) :
    FnOk P w K mg base CX0 3 f fd ["outcomes"] (spShown PT) := by
  have GA : FnOk P w K mg base CX0 1 fA dA ["answer"] spShA := ok_shown_answer B W DA
  refine FunT.ok0 F sc_shown_outcomes (fun vs H Q E h => ?_) (fun A outer s H vs Q E hr h => ?_)
  · obtain ⟨o, os, rfl, _⟩ := h
    rfl
  · obtain ⟨o, os, rfl, ho, ok, asc, tab, k⟩ := h
    have S := sc_shown_outcomes
    refine ⟨_, (pss_cons (ps_set (i := 1) S.nd rfl (.inl rfl) (pe_sortLam (c := c) (P := PT) hr TB rfl (by rfl) ms ma (pv 0)))
      (pss_one (ps_ret (pe_bm PySem.F.plainAttrs_str PySem.F.slot_str_join PySem.F.type_str_join mt_join pe_str (pa_cons
        (pe_lc (own := [("answer", 2), ("behind", 3)]) (g := gTup K 2 (gCons (gName 2) (gCons (gName 3) gNil))) (tt := tYes) rfl S.nd (pi_list (pv 1)) (blkOk_by (own := [("answer", 2), ("behind", 3)]) (N := nmSh) (sc := defScope s_shown_outcomes) (by decide +kernel)) (fun _ _ _ _ _ => pg_tup (by rfl) (pgs_cons (pg_name (i := 2) S.nd rfl (Or.inl rfl)) (pgs_cons (pg_name (i := 3) S.nd rfl (Or.inl rfl)) pgs_nil))) (fun _ _ _ _ _ => pts_nil)
          (fun _ _ _ _ _ => pe_joined (.cons (pe_fmt (pe_call GA (hr.mono (by decide)) (by rfl) DA.g DA.F.kp DA.b .nil pass0 (pa_cons (pv 2) pa_nil))) (.cons pe_str (.cons (pe_fmt (pv 3)) .nil))))) pa_nil))))), ?_⟩
    refine asg_seq ?_
    dsimp only [tSortLam]
    refine (val_var rfl) _ ⟨o, os, rfl, ho, ok.1, asc, tab, fun H2 D us bt tab2 hD au nD => ?_⟩
    have okS : OsOk (shownI os) := ⟨by rw [shown_len]; exact ok.1, fun q hq => ok.2 q (shown_mem hq)⟩
    dsimp only [tRet]
    refine bm_run (x := .str ", ") val_c rfl ?_
    dsimp only [tCons, tNil]
    refine told_lc4 hD au okS (fun q' w' H' R h0 h1 h2 h3 hR => ?_) fun H3 M ys s3 hM yl yt ye => ?_
    · have t1 := tz_ans h0 h1
      have t2 := tz_num h2 h3
      have l1 := t1.l
      have l2 := t2.l
      have e0 : Str.empty.length = 0 := rfl
      have e1 : (" " : Str).length = 1 := by decide +kernel
      refine js_val (val_fmtS (y := ansW q') ((val_call (va_cons (val_var rfl) va_nil) fun Q q => ⟨q', rfl, h0, h1, q⟩)) (by omega)) (by omega) ?_
      rw [empty_app]
      refine js_val val_c (by omega) ?_
      refine js_val (val_fmtI (val_var rfl) (small_log (by omega) (by omega))) (by rw [app_len']; omega) ?_
      exact hR
    · have e2 : (", " : Str).length = 2 := by decide +kernel
      refine ⟨", ", M, ys, rfl, rfl, .inl (SqL.of hM), ?_, ?_⟩
      · have := sum_le (zs := ys) (c := 6) fun z hz => (yt z hz).l
        rw [e2]
        omega
      · rw [jn_txt, ye]
        exact k H3 (bt.trans (ButP.of_same s3)) (TabS.but tab2 fun b o e => s3 b o e)
end
end K5
namespace K5
open PySem PySem.Spec PyProof.Rows L2 LamX
/-! ### show_pact -/
theorem tabs_keep {H H' : Hp} {P : Addr} {q : Str} (t : TabS H P q) (e : ∀ b o, H b = some o → (∀ l, o ≠ .lst l) → H' b = some o) : TabS H' P q := by
  obtain ⟨ps, hP, tri, known⟩ := t
  refine ⟨ps, e _ _ hP (fun l h => by cases h), tri, fun pos cv hc => ?_⟩
  obtain ⟨c, e1, e2⟩ := known pos cv hc
  exact ⟨c, e1, e _ _ e2 fun l h => by unfold CodeO at h; cases h⟩
theorem tabs_set {H : Hp} {P M : Addr} {q : Str} {l : List V} {o : HO} (t : TabS H P q) (h : H M = some (.lst l)) : TabS (upd H M o) P q := tabs_keep t fun b u e n => by
  rw [upd_ne fun c => n l (by rw [c, h] at e; exact (Option.some.inj e).symm)]
  exact e
theorem tabs_ne {H : Hp} {P M : Addr} {q : Str} {o : HO} (t : TabS H P q) (h : H M = some o) (n : ∀ ps, o ≠ .tbl ps) : M ≠ P := fun e => by
  obtain ⟨ps, hP, _⟩ := t
  rw [e, hP] at h
  exact n ps (Option.some.inj h).symm
theorem tabs_free {H : Hp} {P M : Addr} {q : Str} (t : TabS H P q) (h : H M = none) : M ≠ P := fun e => by
  obtain ⟨ps, hP, _⟩ := t
  rw [e, hP] at h
  cases h
theorem ButP.tk {H H' : Hp} {P : Addr} {q : Str} (t : TabS H P q) (s : ButP P H H') : TKeep H H' := fun b xs h => s _ _ (tabs_ne t h fun ps e => by cases e) h
theorem rowI_tz {r : RwD} (ok : RowOk r) : Tz 64 (rowI r) := by
  have TT := Tz.join (n := 6) (m := 2) (c := ", ") (tz_of (by decide +kernel)) (ps := (shownI r.2).map partI) fun z hz => by
    obtain ⟨o, ho, rfl⟩ := List.mem_map.mp hz
    have qo := ok.2.2.2 o (shown_mem ho)
    exact ((tz_ans qo.1 qo.2.1).add (tz_of (n := 1) (by decide +kernel))).add (tz_num qo.2.2.1 qo.2.2.2)
  have l6 := ok.2.2.1
  rw [List.length_map, shown_len] at TT
  have TT := TT.mono (m := 48) (by omega)
  have ts1 : Tz 2 ("  " : Str) := tz_of (by decide +kernel)
  have ts2 : Tz 1 (" " : Str) := tz_of (by decide +kernel)
  have ts3 : Tz 4 (" -> " : Str) := tz_of (by decide +kernel)
  have tw : Tz 1 (toString ((r.1.2 : Nat) : Int) : Str) := tz_num (by omega) (by have := ok.2.1; omega)
  exact (((((ts1.add (tz_pool _ ok.1)).add ts2).add tw).add ts3).add TT).mono (by decide)
section
variable {K : PySem.W.Frag}
theorem rows3_lc {PT st : Addr} {rs : List RwD} {te : TE} {u0 u1 u2 u4 u5 u6 : Option V} {H : Hp} {Q : VK} (hst : StD H st rs) (few : rs.length ≤ 12) (tab : TabS H PT q3)
    (ht : ∀ (r : RwD) (o : Addr) (H' : Hp) (R : VK), r ∈ rs → OuAt H' o r.2 → TabS H' PT q3 → (∀ H'', ButP PT H' H'' → TabS H'' PT q3 → R (.str (rowI r)) H'') → te [u0, u1, u2, some (.ref st), some (.str r.1.1), some (.int (r.1.2 : Nat)), some (.ref o)] H' R)
    (k : ∀ (H' : Hp) (M : Addr), ButP PT H H' → TabS H' PT q3 → H M = none → H' M = some (.lst ((rs.map rowI).map V.str)) → Q (.ref M) H') :
    tLc (iTup K (tVar 3)) (gTup K 3 (gCons (gName 4) (gCons (gName 5) (gCons (gName 6) gNil)))) tYes te [4, 5, 6] [u0, u1, u2, some (.ref st), u4, u5, u6] H Q := by
  obtain ⟨ts, hts, hp⟩ := id hst
  have tl : ts.length = rs.length := Paired.length hp
  dsimp only [tLc, iTup]
  refine (val_var rfl) _ ⟨st, rfl, ⟨_, SqT.of hts⟩, fun M nM => ?_⟩
  have MP := tabs_free tab nM
  refine lc_tup (xs := ts.map V.ref) (fun j H2 => ButP PT H H2 ∧ TabS H2 PT q3 ∧ H2 M = some (.lst (((rs.take j).map rowI).map V.str))) ⟨ButP.of_same (same_upd nM), tab.ext (same_upd nM), upd_same⟩ (fun j H2 _ ⟨s2, _⟩ => SqT.of (ButP.tk tab s2 _ _ hts)) (fun j x H2 hj hI => ?_) fun H2 hI => ?_
  · obtain ⟨s2, t2, hM⟩ := hI
    obtain ⟨t', et, rfl⟩ := at_ref hj
    obtain ⟨r, er, o, hr, ho⟩ := paired_at j hp et
    have jlt := (List.getElem?_eq_some_iff.mp er).1
    have tk := ButP.tk tab s2
    refine ⟨t', _, rfl, SqT.of (tk _ _ hr), rfl, _, _, rfl, _, _, rfl, _, _, rfl, rfl, ?_⟩
    refine ⟨rfl, ?_⟩
    dsimp only [tYes]
    rw [if_pos rfl]
    refine ht r o H2 _ (List.mem_of_getElem? er) (ho.mono tk) t2 fun H3 s3 t3 => ?_
    have hM3 := s3 _ _ MP hM
    refine ⟨_, hM3, by rw [List.length_map, List.length_map, List.length_take]; exact Nat.lt_of_lt_of_le (show min j rs.length < 13 by omega) (by decide), fun b o e1 e2 => ?_, tabs_set t3 hM3, ?_⟩
    · rw [upd_ne (ne_of_none e2 nM)]
      exact s3 _ _ e1 (s2 _ _ e1 e2)
    · rw [upd_same, List.take_add_one, er, List.map_append, List.map_append]
      rfl
  · obtain ⟨s2, t2, hM⟩ := hI
    rw [List.length_map, tl, List.take_length] at hM
    exact k H2 M s2 t2 nM hM
end
def spShow (PT : Addr) : Sp := fun vs H Q _ => ∃ (p : Addr) (ps : List Addr) (sts : List (List RwD)), vs = [.ref p] ∧ H p = some (.tup (ps.map V.ref)) ∧ Paired (StD H) ps sts ∧ (∀ s ∈ sts, StX 4 sts.length s ∧ s.length ≤ 12 ∧ ∀ r ∈ s, RowOk r) ∧ 0 < sts.length ∧ sts.length ≤ 4 ∧ TabS H PT q3 ∧
  ∀ H', ButP PT H H' → TabS H' PT q3 → Q (.str (Str.join "\n" (pageI 0 sts))) H'
abbrev s_show_pact : Stmt := topS 26
abbrev nmShow : List Str := ["pact", "rows", "at", "state", "door", "worth", "outcomes"]
theorem sc_show_pact : FnScope nmShow ["pact"] (defScope s_show_pact) := ⟨rfl, rfl, rfl, by decide +kernel, rfl, by decide +kernel, by decide +kernel⟩
structure ShK (PT : Addr) (H H' : Hp) (L : Addr) (zs : List Str) (i : Nat) : Prop where
  s : ButP PT H H'
  l : H' L = some (.lst (zs.map V.str))
  t : TabS H' PT q3
  z : ∀ z ∈ zs, Tz 64 z
  n : zs.length ≤ 13 * i
section
variable {P : Program} {w : World} {K : PySem.W.Frag} {mg : Str → Option Value} {base : Heap} {CP fE fS fO PT : Addr} {dE dS dO : FuncData}
theorem ok_show_pact {f : Addr} {fd : FuncData} (B : Bt mg) (me : mg "enumerate" = none) (gW : ∃ t, mg "MOST_WORTHS" = some (.int 4 t)) (TP : Er K mg "BadPact" CP fE) (GE : FnOk P w K mg base CX0 1 fE dE ["self", "value"] (spErr K)) (bE : Binds K dE ["self", "value"] [])
    (DP : Df K mg "is_pact" s_is_pact fS dS ["worths", "value"]) (GP : FnOk P w K mg base (L2.CX P w) 7 fS dS ["worths", "value"] spIsPact) (gO : mg "shown_outcomes" = some (.ref fO)) (kO : PySem.W.keepIn K (.ref fO) = true) (bO : Binds K dO ["outcomes"] []) (GO : FnOk P w K mg base CX0 3 fO dO ["outcomes"] (spShown PT))
    (D : Df K mg "show_pact" s_show_pact f fd ["pact"]) : FnOk P w K mg base (L2.CX P w) 8 f fd ["pact"] (spShow PT) := by
  refine D.F.okX sc_show_pact (fun vs H Q E h => ?_) (fun cdv A0 outer s H vs Q E hr h => ?_)
  · obtain ⟨p, ps, sts, rfl, _⟩ := h
    rfl
  · obtain ⟨p, ps, sts, rfl, hp, pp, ok, l0, l4, tab, k⟩ := h
    have S := sc_show_pact
    obtain ⟨tm, gM⟩ := gW
    refine ⟨_, (pss_cons (ps_if (pt_not (pt_val (pe_call GP (hr.mono (by decide)) (by rfl) DP.g DP.F.kp DP.b .nil (pxp rfl rfl rfl rfl) (pa_cons (pe_glob (v := .int 4) (by rfl) gM ⟨_, rfl⟩) (pa_cons (pv 0) pa_nil)))))
        (pss_one (ps_raise rfl (takes_of rfl rfl rfl rfl) (pmk_oex TP.O TP.iC TP.tI GE (hr.mono (by decide)) bE .nil pass0 (by rfl) TP.g (pa_cons (pv 0) pa_nil))))
        pss_nil)
      (pss_cons (ps_set (i := 1) S.nd rfl (.inl rfl) (pe_lst pa_nil))
      (pss_cons (ps_for (passes_of rfl) rfl (pi_enumT (by rfl) me (pa_cons (pv 0) pa_nil)) (pg_tup (by rfl) (pgs_cons (pg_name (i := 2) S.nd rfl (.inl rfl)) (pgs_cons (pg_name (i := 3) S.nd rfl (.inl rfl)) pgs_nil)))
        (pss_cons (ps_expr (pe_bm PySem.F.plainAttrs_list PySem.F.slot_list_append PySem.F.type_list_append mt_append (pv 1) (pa_cons (pe_joined (.cons pe_str (.cons (pe_fmt (pv 2)) .nil))) pa_nil)))
        (pss_one (ps_expr (pe_bm PySem.F.plainAttrs_list PySem.F.slot_list_extend PySem.F.type_list_extend mt_extend (pv 1) (pa_cons
          (pe_lc (own := [("door", 4), ("worth", 5), ("outcomes", 6)]) (g := gTup K 3 (gCons (gName 4) (gCons (gName 5) (gCons (gName 6) gNil)))) (tt := tYes) rfl S.nd (pi_tup (pv 3)) (blkOk_by (own := [("door", 4), ("worth", 5), ("outcomes", 6)]) (N := nmShow) (sc := defScope s_show_pact) (by decide +kernel)) (fun _ _ _ _ _ => pg_tup (by rfl) (pgs_cons (pg_name (i := 4) S.nd rfl (Or.inl rfl)) (pgs_cons (pg_name (i := 5) S.nd rfl (Or.inl rfl)) (pgs_cons (pg_name (i := 6) S.nd rfl (Or.inl rfl)) pgs_nil)))) (fun _ _ _ _ _ => pts_nil)
            (fun _ _ _ _ _ => pe_joined (.cons pe_str (.cons (pe_fmt (pv 4)) (.cons pe_str (.cons (pe_fmt (pv 5)) (.cons pe_str (.cons (pe_fmt (pe_call GO (hr.mono (by decide)) (by rfl) gO kO bO .nil pass0 (pa_cons (pv 6) pa_nil))) .nil)))))))) pa_nil))))))
      (pss_one (ps_ret (pe_bm PySem.F.plainAttrs_str PySem.F.slot_str_join PySem.F.type_str_join mt_join pe_str (pa_cons (pv 1) pa_nil))))))), ?_⟩
    have pl : ps.length = sts.length := Paired.length pp
    dsimp only [tSeq, tIfS, tNot, tB, tCall]
    refine (va_cons val_c (va_cons (val_var rfl) va_nil)) _ ⟨4, p, ps, sts, rfl, by decide, by decide, hp, pp, ok, l0, l4, fun H1 s1 => ⟨true, rfl, ?_⟩⟩
    refine iteF ?_
    dsimp only [tNext, tSeq, tAsg]
    refine ⟨Nat.zero_le _, fun L nL => ?_⟩
    have LP := tabs_free (tab.ext s1) nL
    have nL0 : H L = none := s1.free nL
    have sk0 : ShK PT H (upd H1 L (.lst [])) L [] 0 := ⟨(ButP.of_same s1).trans (ButP.of_same (same_upd nL)), upd_same, (tab.ext s1).ext (same_upd nL), (fun _ h => (nomatch h)), Nat.zero_le _⟩
    generalize (upd H1 L (.lst [])) = H2 at sk0 ⊢
    have tk0 : ∀ {H' : Hp}, ButP PT H H' → TKeep H H' := fun b => ButP.tk tab b
    refine (val_var rfl) _ ⟨p, _, rfl, SqT.of (tk0 sk0.s _ _ hp), ?_⟩
    show ∃ W : Nat → Nat → L2.St → Hp → Prop, _
    refine for_enumT (K := K) (a := p) (xs := ps.map V.ref) (fun i σ H' => ∃ (u2 u3 u4 u5 u6 : Option V), σ = [some (.ref p), some (.ref L), u2, u3, u4, u5, u6] ∧ ShK PT H H' L (pageI 0 (sts.take i)) i) ?_ ?_ ?_ ?_
    · exact ⟨none, none, none, none, none, rfl, sk0⟩
    · rintro i σ H9 _ ⟨_, _, _, _, _, rfl, sk⟩
      exact SqT.of (tk0 sk.s _ _ hp)
    · rintro i x T σ H9 ex ⟨u2, u3, u4, u5, u6, rfl, sk⟩ nT
      obtain ⟨st, et, rfl⟩ := at_ref ex
      obtain ⟨rs, ers, hst⟩ := paired_at i pp et
      have ilt := (List.getElem?_eq_some_iff.mp ers).1
      obtain ⟨o1, o2, o3⟩ := ok rs (List.mem_of_getElem? ers)
      have sT := same_upd (o := .tup [.int (i : Nat), .ref st]) nT
      have hT : (upd H9 T (.tup [.int (i : Nat), .ref st])) T = some (.tup [.int (i : Nat), .ref st]) := upd_same
      have hL10 := sT _ _ sk.l
      have b10 := sk.s.trans (ButP.of_same sT)
      have t10 := sk.t.ext sT
      generalize (upd H9 T (.tup [.int (i : Nat), .ref st])) = H10 at sT hT hL10 b10 t10 ⊢
      refine ⟨T, _, rfl, SqT.of hT, rfl, _, _, rfl, _, _, rfl, rfl, ?_⟩
      try dsimp only [gName, List.set]
      have tn : Tz 7 (("state " : Str) ++ toString ((i : Nat) : Int)) := (tz_of (n := 6) (by decide +kernel)).add (tz_num (by omega) (by omega))
      have e0 : Str.empty.length = 0 := rfl
      have h6 : ("state " : Str).length = 6 := by decide +kernel
      dsimp only [tSeq, tDrop]
      refine bm_run (x := .ref L) (val_var rfl) (.inl ⟨rfl, _, SqL.of hL10⟩) ?_
      dsimp only [tCons, tNil]
      refine js_val val_c (by omega) ?_
      rw [empty_app]
      refine js_val (val_fmtI (val_var (i := 2) (v := .int (i : Nat)) rfl) (small_log (by omega) (by omega))) (by have := num_len (n := i) (by omega); omega) ?_
      refine ⟨L, (pageI 0 (sts.take i)).map V.str, .str (stateRow i), rfl, rfl, hL10, by rw [List.length_map]; exact Nat.lt_of_le_of_lt (show (pageI 0 (sts.take i)).length ≤ 60 by have := sk.n; omega) (by decide), ?_⟩
      have hL11 : (upd H10 L (.lst ((pageI 0 (sts.take i)).map V.str ++ [.str (stateRow i)]))) L = some (.lst ((pageI 0 (sts.take i) ++ [stateRow i]).map V.str)) := by
        rw [upd_same, List.map_append]
        rfl
      have b11 : ButP PT H (upd H10 L (.lst ((pageI 0 (sts.take i)).map V.str ++ [.str (stateRow i)]))) := fun b o nb e => by
        rw [upd_ne (ne_of_none e nL0)]
        exact b10 _ _ nb e
      have t11 : TabS (upd H10 L (.lst ((pageI 0 (sts.take i)).map V.str ++ [.str (stateRow i)]))) PT q3 := tabs_set t10 hL10
      generalize (upd H10 L (.lst ((pageI 0 (sts.take i)).map V.str ++ [.str (stateRow i)]))) = H11 at hL11 b11 t11 ⊢
      refine bm_run (x := .ref L) (val_var rfl) (.inl ⟨rfl, _, SqL.of hL11⟩) ?_
      refine rows3_lc (hst.mono (tk0 b11)) o2 t11 (fun r o H' R hr ho tb hR => ?_) fun H12 M b12 t12 nM hM => ?_
      · have rok := o3 r hr
        have rx := o1.2 r hr
        have z8 := (tz_pool _ rok.1).l
        have e1 : ("  " : Str).length = 2 := by decide +kernel
        have e2 : (" " : Str).length = 1 := by decide +kernel
        have e3 : (" -> " : Str).length = 4 := by decide +kernel
        have nl := (tz_num (i := (r.1.2 : Nat)) (by omega) (by have := rok.2.1; omega)).l
        have rl := (rowI_tz rok).l
        refine js_val val_c (by omega) ?_
        rw [empty_app]
        refine js_val (val_fmtS (y := r.1.1) (val_var rfl) (by omega)) (by omega) ?_
        refine js_val val_c (by rw [app_len']; omega) ?_
        refine js_val (val_fmtI (val_var rfl) (small_log (by omega) (by have := rok.2.1; omega))) (by rw [app_len', app_len']; omega) ?_
        refine js_val val_c (by rw [app_len', app_len', app_len']; omega) ?_
        simp only [tJs, tFmt, tCall, tCons, tNil]
        have el : rowI r = ("  " : Str) ++ r.1.1 ++ " " ++ toString ((r.1.2 : Nat) : Int) ++ " -> " ++ Str.join ", " ((shownI r.2).map partI) := rfl
        have ll : (Str.join ", " ((shownI r.2).map partI)).length ≤ 64 := by
          have h1 := rl
          rw [el, app_len'] at h1
          omega
        refine (val_var rfl) _ ⟨o, r.2, rfl, ho, rok.2.2, rx.2.2.1, tb, fun H'' bt tt => .inl ⟨_, rfl, small_z (by omega), _, rfl, ?_, ?_⟩⟩
        · have h1 := rl
          rw [el] at h1
          exact small_z (Nat.le_trans h1 (by decide))
        · exact hR H'' bt tt
      · have hL12 := b12 _ _ LP hL11
        have sn := sk.n
        have np : pageI 0 (sts.take (i + 1)) = pageI 0 (sts.take i) ++ (stateRow i :: rs.map rowI) := by
          rw [List.take_add_one, ers]
          show pageI 0 (sts.take i ++ [rs]) = _
          rw [pageI_snoc, List.length_take, Nat.min_eq_left (Nat.le_of_lt ilt), Nat.zero_add]
        have np2 : pageI 0 (sts.take i) ++ (stateRow i :: rs.map rowI) = (pageI 0 (sts.take i) ++ [stateRow i]) ++ rs.map rowI := by
          rw [List.append_assoc]
          rfl
        refine ⟨L, M, _, _, rfl, rfl, hL12, hM, ?_, _, _, _, _, _, rfl, fun b o nb e => ?_, ?_, tabs_set t12 hL12, fun z hz => ?_, ?_⟩
        · rw [List.length_map, List.length_map, List.length_map, List.length_append]
          exact Nat.le_trans (show (pageI 0 (sts.take i)).length + 1 + rs.length ≤ 100 by omega) (by decide)
        · rw [upd_ne (ne_of_none e nL0)]
          exact b12 _ _ nb (b11 _ _ nb e)
        · rw [upd_same, np, np2, List.map_append (l₂ := rs.map rowI)]
        · rw [np] at hz
          rcases List.mem_append.mp hz with hz | hz
          · exact sk.z z hz
          · rcases List.mem_cons.mp hz with e | hz
            · rw [e]
              exact tn.mono (by decide)
            · obtain ⟨r, hr, rfl⟩ := List.mem_map.mp hz
              exact rowI_tz (o3 r hr)
        · rw [np, List.length_append, List.length_cons, List.length_map]
          omega
    · rintro σ H9 ⟨u2, u3, u4, u5, u6, rfl, sk⟩
      rw [List.length_map, pl] at sk
      have sn := sk.n
      have sl := sk.l
      have sz := sk.z
      rw [List.take_length] at sl sn sz
      have wz : Wt (pageI 0 sts) ≤ 10000000 := by
        have h1 := sum_le (zs := pageI 0 sts) (c := 64) fun z hz => (sz z hz).l
        have h2 := sum_Wt (pageI 0 sts)
        omega
      dsimp only [tRet]
      refine join_run (LV.v rfl sl) nl1 wz fun H5 s5 => ?_
      exact k H5 (sk.s.trans (ButP.of_same s5)) (sk.t.ext s5)
end
end K5
namespace K5
open PySem PySem.Spec PyProof.Rows L2
/-! ### promises of defs that show things: they are called while nothing is being shown -/
structure FnG (P : Program) (w : World) (K : PySem.W.Frag) (mg : Str → Option Value) (base : Heap) (cx : CXT) (lv : Nat) (g : Addr) (rec : FuncData) (ns : List Str) (pr : Sp) : Prop where
  many : ∀ xs G R T, pr xs G R T → xs.length = ns.length
  does : ∀ (B : Around) (out : List Env) (st : Shared) (G : Hp) (as : Args) (zs : List Value) (xs : List V) (R : VK) (T : XK), B.guards = some [] → Room lv B →
    Env0 P w K mg base B out st G → BindsTo st rec as (ns.zip zs) → Vals xs zs → pr xs G R T → codeAny (model P w) B (.call (.ref g) as) (CR cx out P w G st R T) st
section
variable {P : Program} {w : World} {K : PySem.W.Frag} {mg : Str → Option Value} {base : Heap}
theorem okG {x qual : Str} {d : Stmt} {g : Addr} {rec : FuncData} {N ns : List Str} {lv : Nat} {pr : Sp} {cx : CXT} (F : Fun K x qual d g rec) (S : FnScope N ns (defScope d)) (many : ∀ xs G R T, pr xs G R T → xs.length = ns.length)
    (runs : ∀ (cd : Value) (B : Around) (out : List Env) (st : Shared) (G : Hp) (xs : List V) (R : VK) (T : XK), B.guards = some [] → Room lv (B.deeper (envOfC qual (defScope d) st.heap.objs.size g cd)) → pr xs G R T →
      ∃ t, PSs (cxOf cx P w K mg base N qual (defScope d) g cd B out st G T) (defBody d) t ∧ t { nx := fun _ G' => R .non G', rt := R } (start N xs) G) : FnG P w K mg base cx (lv + 1) g rec ns pr := by
  obtain ⟨oc, od, kV, doc, pm, an, cd, ct, sl, rfl, lk, hcd⟩ := F.ex
  constructor
  · exact many
  intro B out st G as zs xs R T gu room e bind rel p
  have size := many _ _ _ _ p
  have still : ∀ b o, base.get? b = some o → st.heap.get? b = some o := fun b o z => (e.bs b o z).1
  have inK : K.In st.heap := e.mod.kin.keeps still
  have nol : st.heap.NoLimit := e.mod.nolimit.keeps still
  have kinds : ∀ y ∈ ns.zip zs, (defScope d).names.lookup y.1 = some .local ∨ ((defScope d).names.lookup y.1 = some .cell ∧ ((cellsFrom (st.heap.objs.size + 1) (defScope d).names []).lookup y.1).isSome = true) := by
    rintro ⟨n, v⟩ hy
    have q := S.par n (List.of_mem_zip hy).1
    exact q.imp id fun c => ⟨c, PySem.W.cellsFrom_some _ _ _ (.inl c)⟩
  apply codeAny_call_function room.depth (inK _ _ lk) rfl S.co S.gen rfl (PySem.W.codeRec_of inK hcd)
  refine bind _ _ _ _ (wpAny_newFunctionEnv_cells S.kind kinds ?_)
  intro env he s1 ic
  subst he
  obtain ⟨t, ht, hq⟩ := runs cd B out st G xs R T gu (room.deeper _) p
  have I0 := inv_start (CX := cx) (P := P) (w := w) (K := K) (mg := mg) (base := base) (qual := qual) (cd := cd) (f := g) (E := T) S room.hd e size rel ic
  refine ⟨nol.keeps ic.toInCall.keep, codeAny_func (wpAny_mono (ht.run [] s1 (start N xs) G _ I0 hq) ?_ fun _ _ z => z)⟩
  intro fl s2 hs
  have ends : ∀ {σ2 : L2.St} {G2 : Hp} {v : V} {u : Value}, Inv (cxOf cx P w K mg base N qual (defScope d) g cd B out st G T) [] σ2 G2 s2 → RelV v u → R v G2 → CE out P w G st R u s2 := by
    intro σ2 G2 v u J r q
    exact ⟨v, G2, J.os, J.bare, J.base, J.hok, r, q⟩
  match fl, hs with
  | .ret u, ⟨v, σ2, G2, J, r, q⟩ => exact ends J r q
  | .next, ⟨σ2, G2, J, q⟩ => exact ends (v := V.non) (u := Value.none) J rfl q
  | .brk, ⟨_, _, _, q⟩ => exact q.elim
  | .cont, ⟨_, _, _, q⟩ => exact q.elim
end
section
variable {X : Cx} {cx : CXT} {k : Nat} {f : Addr} {fd : FuncData} {ps : List Str} {sp : Sp} {x : Str} {E : XK} {p pos : Pos} {e : Expr} {es : List Expr} {t : TA}
theorem pe_callG (F : FnG X.prog X.w X.K X.mg X.base cx k f fd ps sp) (gu : X.A.guards = some []) (room : Room k X.A) (gl : Gl X x) (hm : X.mg x = some (.ref f)) (kp : PySem.W.keepIn X.K (.ref f) = true) (hb : Binds X.K fd ps []) (out : Passes cx X E)
    (ha : PA X (e :: es) t) (hdb : (x == ("__debug__" : Str)) = false := by decide) (he : starEach (e :: es) X.env = (false, eval e X.env) :: starEach es X.env := by rfl) (hpl : (backTo pos (starEach es X.env)).any (·.1) = false := by rfl) :
    PE X (.Call (.Name x p) (e :: es) [] pos) (tCall sp [] E t) := by
  constructor
  intro pins s σ H Q I h
  apply wpAny_Call_Name_kw
  apply ld_glob I gl hm _ hdb
  apply PySem.W.callWith_K (h₀ := X.base) I.ok.mod.kin kp _ he hpl
  refine thn (ha.run pos pins s σ H _ I h) ?_
  rintro us s1 ⟨vs, H1, I1, r, q⟩
  rw [List.append_nil] at q
  refine ⟨I1.kIn, wpAny_call (codeAny_mono (F.does X.A X.stack s1 H1 ⟨us, []⟩ us vs Q E gu room I1.env0 ?_ r q) ?_)⟩
  · have z := hb s1 us I1.kIn (by rw [List.append_nil, ← r.length]; exact F.many _ _ _ _ q)
    rw [List.append_nil] at z
    exact z
  · intro res s2 hq
    match res, hq with
    | .error v, hq => exact out pins σ H1 s1 v s2 I1 hq
    | .ok (.ret u), hq => exact I1.after hq
    | .ok .next, hq => exact hq.elim
    | .ok .brk, hq => exact hq.elim
    | .ok .cont, hq => exact hq.elim
end
/-! ### repr of any value -/
structure ShOk (d : PyData) : Prop where
  s : d.showable = true
  l : d.hasDict = true → listIn d = false
  z : d.shown.length ≤ sizeLine
  d : d.depth ≤ 50
def rReprQ : List V → Hp → VK → Prop := fun xs H Q => ∃ (x : V) (d : PyData), xs = [x] ∧ Dq H x d ∧ ShOk d ∧ Q (.str d.shown) H
section
variable {X : Cx}
theorem call_reprQ (gu : X.A.guards = some []) (hu : X.A.units + 64 < cLine) : CallR X (.builtin "repr") rReprQ := by
  intro pins s σ H xs us Q I r h
  obtain ⟨x, d, rfl, hd, sh, q⟩ := h
  obtain ⟨u, rfl, ru⟩ := r.one
  have sz := sh.z
  cases hd with
  | non =>
    obtain rfl : u = Value.none := ru
    exact PySem.P.repr_of_none ⟨.str _, H, I.tok _, ⟨_, rfl⟩, q⟩
  | bl b =>
    obtain rfl : u = Value.bool b := ru
    exact PySem.P.repr_of_bool ⟨.str _, H, I.tok _, ⟨_, rfl⟩, q⟩
  | int i =>
    obtain ⟨t, rfl⟩ := ru
    exact PySem.P.repr_of_int (of_decide_eq_true sh.s) ⟨.str _, H, I.tok _, ⟨_, rfl⟩, q⟩
  | str z =>
    obtain ⟨t, rfl⟩ := ru
    exact PySem.P.repr_of_str ⟨.str _, H, I.tok _, ⟨_, rfl⟩, q⟩ sz
  | lst h a =>
    cases ru
    obtain ⟨as, rd, hm⟩ := Dq.reads I _ _ _ (Dq.lst h a) rfl
    exact repr_of_reads' rd sh.s (fun e => hm (sh.l e)) gu (by have := sh.d; omega) (fun _ _ e => e) (fun h' u tk hk => ⟨.str _, H, I.kept hk, ⟨u, rfl⟩, q⟩) sz
  | tup h a =>
    cases ru
    obtain ⟨as, rd, hm⟩ := Dq.reads I _ _ _ (Dq.tup h a) rfl
    exact repr_of_reads' rd sh.s (fun e => hm (sh.l e)) gu (by have := sh.d; omega) (fun _ _ e => e) (fun h' u tk hk => ⟨.str _, H, I.kept hk, ⟨u, rfl⟩, q⟩) sz
  | dic h =>
    cases ru
    obtain ⟨as, rd, hm⟩ := Dq.reads I _ _ _ (Dq.dic h) rfl
    exact repr_of_reads' rd sh.s (fun e => hm (sh.l e)) gu (by have := sh.d; omega) (fun _ _ e => e) (fun h' u tk hk => ⟨.str _, H, I.kept hk, ⟨u, rfl⟩, q⟩) sz
end
section
variable {K : PySem.W.Frag} {σ : L2.St} {H : Hp} {ta : TE} {x : V} {d : PyData}
theorem val_reprQ (ha : Val ta σ H x) (hd : Dq H x d) (s : ShOk d) : Val (tCB rReprQ (tCons ta tNil)) σ H (.str d.shown) := fun Q q => ha _ ⟨x, d, rfl, hd, s, q⟩
end
/-! ### how much data is told -/
structure Sm (w p : Nat) (d : PyData) : Prop where
  s : d.showable = true
  l : d.leavesShort 13 = true
  w : d.weight ≤ w
  p : d.depth ≤ p
  h : d.hasDict = false
structure SmA (w p : Nat) (ds : List PyData) : Prop where
  s : PyData.showableAll ds = true
  l : PyData.leavesShortAll 13 ds = true
  w : PyData.weightAll ds ≤ w
  p : PyData.depthAll ds ≤ p
  h : PyData.hasDictAll ds = false
theorem Sm.sh {w p : Nat} {d : PyData} (h : Sm w p d) (hw : w ≤ 1000000) (hp : p ≤ 50) : ShOk d := ⟨h.s, (fun e => by rw [h.h] at e; cases e), PyData.shown_fits (by decide) (by decide) h.l (Nat.le_trans h.w (Nat.le_trans hw (by decide))), Nat.le_trans h.p hp⟩
theorem SmA.nil {p : Nat} : SmA 0 p [] := ⟨rfl, rfl, Nat.le_refl _, Nat.zero_le _, rfl⟩
theorem SmA.cons {w v p : Nat} {d : PyData} {ds : List PyData} (a : Sm w p d) (b : SmA v p ds) : SmA (w + 1 + v) p (d :: ds) := ⟨by
  show (d.showable && PyData.showableAll ds) = true
  rw [a.s, b.s]
  rfl, by
  show (d.leavesShort 13 && PyData.leavesShortAll 13 ds) = true
  rw [a.l, b.l]
  rfl, by
  have := a.w
  have := b.w
  show d.weight + 1 + PyData.weightAll ds ≤ _
  omega, by
  have := a.p
  have := b.p
  show max d.depth (PyData.depthAll ds) ≤ _
  omega, by
  show (d.hasDict || PyData.hasDictAll ds) = false
  rw [a.h, b.h]
  rfl⟩
theorem SmA.tup {w p : Nat} {ds : List PyData} (h : SmA w p ds) : Sm w (p + 1) (.tuple ds) := ⟨h.s, h.l, h.w, Nat.succ_le_succ h.p, h.h⟩
theorem Sm.mono {w p w' p' : Nat} {d : PyData} (h : Sm w p d) (hw : w ≤ w') (hp : p ≤ p') : Sm w' p' d := ⟨h.s, h.l, Nat.le_trans h.w hw, Nat.le_trans h.p hp, h.h⟩
theorem SmA.mono {w p w' p' : Nat} {d : List PyData} (h : SmA w p d) (hw : w ≤ w') (hp : p ≤ p') : SmA w' p' d := ⟨h.s, h.l, Nat.le_trans h.w hw, Nat.le_trans h.p hp, h.h⟩
theorem int_small : ∀ i : Fin 420, (PyData.showable (.int ((i.val : Int) - 10)) && (PyData.leavesShort 13 (.int ((i.val : Int) - 10)) && decide (PyData.weight (.int ((i.val : Int) - 10)) ≤ 10))) = true := by decide +kernel
theorem sm_int {i : Int} (h0 : -10 ≤ i) (h1 : i < 410) : Sm 10 0 (.int i) := by
  have := int_small ⟨(i + 10).toNat, by omega⟩
  rw [show (((i + 10).toNat : Nat) : Int) - 10 = i by omega, Bool.and_eq_true, Bool.and_eq_true] at this
  exact ⟨this.1, this.2.1, of_decide_eq_true this.2.2, Nat.le_refl _, rfl⟩
theorem sm_str {n : Nat} {z : Str} (hl : z.length ≤ n) (ho : PyData.strOk z = true) : Sm n 0 (.str z) := ⟨rfl, PyData.leavesShort_of_canLay0 13 (.str z) ho rfl, hl, Nat.le_refl _, rfl⟩
theorem sm_map {α : Type} {f : α → PyData} {g : α → Nat} {c p : Nat} : ∀ {l : List α}, (∀ x ∈ l, Sm (c * g x) p (f x)) → SmA (c * (l.map g).sum + l.length) p (l.map f)
  | [], _ => SmA.nil
  | x :: l, h => by
    have a := SmA.cons (h x (List.mem_cons_self ..)) (sm_map (l := l) fun y hy => h y (List.mem_cons_of_mem _ hy))
    refine a.mono ?_ (Nat.le_refl _)
    rw [List.map_cons, List.sum_cons, List.length_cons, Nat.mul_add]
    omega
theorem sum_const {α : Type} (c : Nat) : ∀ l : List α, (l.map fun _ => c).sum = c * l.length
  | [] => rfl
  | x :: l => by rw [List.map_cons, List.sum_cons, sum_const c l, List.length_cons, Nat.mul_succ]; omega
/-- the data of a drawn pact -/
theorem dq_drawn_rows {H : Hp} : ∀ {ts : List Addr} {rs : List RwD}, Paired (RowD H) ts rs → DqA H (ts.map V.ref) (rs.map rwD)
  | _, _, .nil => .nil
  | _, _, .cons ⟨o, h, us, ho, a⟩ r => .cons (.tup h (.cons (.str _) (.cons (.int _) (.cons (.tup ho (dq_pairs a)) .nil)))) (dq_drawn_rows r)
theorem dq_drawn_sts {H : Hp} : ∀ {ps : List Addr} {sts : List (List RwD)}, Paired (StD H) ps sts → DqA H (ps.map V.ref) (sts.map fun rs => .tuple (rs.map rwD))
  | _, _, .nil => .nil
  | _, _, .cons ⟨ts, h, a⟩ r => .cons (.tup h (dq_drawn_rows a)) (dq_drawn_sts r)
theorem dq_drawn {H : Hp} {p : Addr} {ps : List Addr} {sts : List (List RwD)} (h : H p = some (.tup (ps.map V.ref))) (pp : Paired (StD H) ps sts) : Dq H (.ref p) (datD sts) := .tup h (dq_drawn_sts pp)
theorem sm_pair {o : Int × Int} (h : -2 ≤ o.1 ∧ o.1 < 4 ∧ 0 ≤ o.2 ∧ o.2 < 4) : Sm 40 1 (pairD o) := (SmA.tup (SmA.cons (sm_int (by omega) (by omega)) (SmA.cons (sm_int (by omega) (by omega)) SmA.nil))).mono (by decide) (by decide)
theorem sm_row {r : RwD} (ok : RowOk r) : Sm 400 3 (rwD r) := by
  have h1 := sm_map (f := pairD) (g := fun _ => 1) (c := 40) (p := 1) (l := r.2) fun o ho => (sm_pair (ok.2.2.2 o ho)).mono (by decide) (by decide)
  rw [sum_const] at h1
  have l6 := ok.2.2.1
  have h2 := (SmA.tup h1).mono (w' := 300) (p' := 2) (by omega) (by decide)
  have zl := tz_pool _ ok.1
  exact (SmA.tup (SmA.cons ((sm_str zl.l zl.o).mono (w' := 8) (p' := 2) (by decide) (by decide)) (SmA.cons ((sm_int (i := (r.1.2 : Nat)) (by omega) (by have := ok.2.1; omega)).mono (w' := 10) (p' := 2) (by decide) (by decide)) (SmA.cons h2 SmA.nil)))).mono (by decide) (by decide)
theorem sm_drawn {sts : List (List RwD)} (l4 : sts.length ≤ 4) (ok : ∀ s ∈ sts, s.length ≤ 12 ∧ ∀ r ∈ s, RowOk r) : ShOk (datD sts) := by
  have h1 := sm_map (f := fun rs : List RwD => PyData.tuple (rs.map rwD)) (g := fun _ => 1) (c := 5000) (p := 4) (l := sts) fun s hs => by
    have h2 := sm_map (f := rwD) (g := fun _ => 1) (c := 400) (p := 3) (l := s) fun r hr => (sm_row ((ok s hs).2 r hr)).mono (by decide) (by decide)
    rw [sum_const] at h2
    have := (ok s hs).1
    exact (SmA.tup h2).mono (by omega) (by decide)
  rw [sum_const] at h1
  exact ((SmA.tup h1).mono (w' := 30000) (p' := 5) (by omega) (by decide)).sh (by decide) (by decide)
theorem sh_page {L R : Nat} {z : Str} (h : Pg L R z) (hl : L ≤ 100000) : ShOk (.str z) := ((sm_str h.l h.o).mono (w' := 100000) (p' := 0) hl (Nat.le_refl _)).sh (by decide) (by decide)
end K5
namespace K5
open PySem PySem.Spec PyProof.Rows L2 LamX
/-! ### one of some -/
abbrev s__law_of : Stmt := topS 40
theorem sc__law_of : FnScope ["_law_box_here", "_law_some_here"] ["_law_box_here", "_law_some_here"] (defScope s__law_of) := ⟨rfl, rfl, rfl, by decide +kernel, rfl, by decide +kernel, by decide +kernel⟩
def spOfB : Sp := fun vs H Q _ => ∃ (b l : Addr) (xs : List V) (p q n : Int), vs = [.ref b, .ref l] ∧ H b = some (.lst (bx p q n)) ∧ Box p q n ∧ n < 1000000 ∧ H l = some (.lst xs) ∧ l ≠ b ∧ 0 < xs.length ∧ xs.length ≤ 20000 ∧
  ∀ (x : V) (p' n' : Int), x ∈ xs → Box p' q n' → n' ≤ n + 1 → Q x (upd H b (.lst (bx p' q n')))
section
variable {P : Program} {w : World} {K : PySem.W.Frag} {mg : Str → Option Value} {base : Heap}
theorem ok_ofB {f fT : Addr} {fd fdT : FuncData} (B : Bt mg) (D : Df K mg "_law_of" s__law_of f fd ["_law_box_here", "_law_some_here"]) (D__law_take : Df K mg "_law_take" sTake fT fdT ["_law_box_here", "_law_many"]) :
    FnOk P w K mg base CX0 2 f fd ["_law_box_here", "_law_some_here"] spOfB := by
  have G__law_take : FnOk P w K mg base CX0 1 fT fdT ["_law_box_here", "_law_many"] spTake := ok_take (CX := CX0) D__law_take.F B.m_int
  refine D.F.ok sc__law_of (fun vs H Q E h => ?_) (fun cdv A outer s H vs Q E hr h => ?_)
  · obtain ⟨b, l, xs, p, q, n, rfl, _⟩ := h
    rfl
  · obtain ⟨b, l, xs, p, q, n, rfl, hb, Bx, hn, hl, nlb, l0, l1, k⟩ := h
    have S := sc__law_of
    refine ⟨_, (pss_one (ps_ret (pe_ix ix_list (pv 1) (pe_call G__law_take (hr.mono (by decide)) (by rfl) D__law_take.g D__law_take.F.kp D__law_take.b .nil pass0 (pa_cons (pv 0) (pa_cons (pe_callB call_len_seq (by rfl) B.m_len PySem.boot_len (pa_cons (pv 1) pa_nil)) pa_nil))) (fun _ _ => rfl)))), ?_⟩
    dsimp only [tRet, tOp]
    refine (val_var rfl) _ ?_
    refine take_box rfl (val_lenL (val_var rfl) (SqL.of hl)) hb Bx (by omega) (by omega) hn fun d p' n' d0 d1 B2 h2 => ?_
    obtain ⟨j, rfl⟩ : ∃ j : Nat, d = (j : Int) := ⟨d.toNat, by omega⟩
    have hj : j < xs.length := by omega
    exact ⟨l, xs, (j : Int), xs[j], rfl, rfl, SqL.of (by rw [upd_ne nlb]; exact hl), atI_nat (List.getElem?_eq_getElem hj), k _ p' n' (List.getElem_mem hj) B2 h2⟩
end
def PV (P : Hp → V → Prop) (te : TE) (σ : L2.St) (H : Hp) : Prop := ∀ H1, Same H H1 → ∀ Q : VK, (∀ x H', Same H1 H' → P H' x → Q x H') → te σ H1 Q
def PL (P : Hp → V → Prop) (k : Nat) (t : TA) (σ : L2.St) (H : Hp) : Prop := ∀ H1, Same H H1 → ∀ Q : List V → Hp → Prop, (∀ xs H', Same H1 H' → (∀ x ∈ xs, P H' x) → xs.length = k → Q xs H') → t σ H1 Q
section
variable {σ : L2.St} {H : Hp} {b : Addr} {k i : Nat} {te : TE} {t : TA} {x : V} {P : Hp → V → Prop} {p q n : Int} {Q : VK} {L : List Addr}
theorem pl_nil : PL P 0 tNil σ H := fun H1 _ Q q => q [] H1 (Same.refl _) (fun _ h => nomatch h) rfl
theorem pl_cons (mono : ∀ H H' x, Same H H' → P H x → P H' x) (h : PV P te σ H) (g : PL P k t σ H) : PL P (k + 1) (tCons te t) σ H := fun H1 s Q q =>
  h H1 s _ fun x H2 s2 gx => g H2 (s.trans s2) _ fun xs H3 s3 gs l => q (x :: xs) H3 (s2.trans s3) (fun y hy => by
    rcases List.mem_cons.mp hy with rfl | hy
    · exact mono _ _ _ s3 gx
    · exact gs y hy) (by rw [List.length_cons, l])
theorem of_runP (mono : ∀ H H' x, Same H H' → P H x → P H' x) (hv : σ[i]? = some (some (.ref b))) (g : PL P k t σ H) (hb : H b = some (.lst (bx p q n))) (Bx : Box p q n) (hn : n < 1000000) (k0 : 0 < k) (k1 : k ≤ 100)
    (q : ∀ (H1 : Hp) (y : V) (p' n' : Int), Same H H1 → P H1 y → Box p' q n' → n' ≤ n + 1 → Q y (upd H1 b (.lst (bx p' q n')))) : tCall spOfB [] E0 (tCons (tVar i) (tCons (tLst t) tNil)) σ H Q := by
  dsimp only [tCall, tLst, tCons, tNil]
  refine (val_var hv) _ (g H (Same.refl _) _ fun xs H1 s1 gs len => ⟨big_size (by omega), fun l nl => ?_⟩)
  have s2 := same_upd (o := .lst xs) nl
  have hb2 := s2 _ _ (s1 _ _ hb)
  refine ⟨b, l, xs, p, _, n, rfl, hb2, Bx, hn, upd_same, (ne_of_none (s1 _ _ hb) nl).symm, by omega, by omega, fun y p' n' hy B2 le => ?_⟩
  exact q _ y p' n' (s1.trans s2) (mono _ _ _ s2 (gs y hy)) B2 le
theorem pv_val (h : ∀ H1, Same H H1 → Val te σ H1 x ∧ P H1 x) : PV P te σ H := fun H1 s Q q => (h H1 s).1 _ (q x H1 (Same.refl _) (h H1 s).2)
end
/-! ### the three tables -/
structure T3 (P1 P2 P3 : Addr) (H : Hp) : Prop where
  t : Tabs P1 P2 H
  s : TabS H P3 q3
  n1 : P3 ≠ P1
  n2 : P3 ≠ P2
  n12 : P1 ≠ P2
section
variable {P1 P2 P3 b : Addr} {H H' : Hp}
theorem T3.same (h : T3 P1 P2 P3 H) (e : Same H H') : T3 P1 P2 P3 H' := ⟨h.t.same e, h.s.ext e, h.n1, h.n2, h.n12⟩
/-- lists are written -/
theorem T3.list (h : T3 P1 P2 P3 H) (e : ∀ a o, H a = some o → (∀ l, o ≠ .lst l) → H' a = some o) : T3 P1 P2 P3 H' := by
  obtain ⟨ps, a1, a2⟩ := h.t.a
  obtain ⟨qs, b1, b2⟩ := h.t.b
  exact ⟨⟨⟨ps, e _ _ a1 (fun l c => by cases c), a2⟩, ⟨qs, e _ _ b1 (fun l c => by cases c), b2⟩⟩, tabs_keep h.s e, h.n1, h.n2, h.n12⟩
theorem T3.but {l : List V} (h : T3 P1 P2 P3 H) (s : SameBut b H H') (hb : H b = some (.lst l)) : T3 P1 P2 P3 H' := h.list fun a o e n => s _ _ (fun c => n l (by rw [c, hb] at e; exact (Option.some.inj e).symm)) e
theorem T3.read (h : T3 P1 P2 P3 H) (s : But [P1, P2] H H') (t : Tabs P1 P2 H') : T3 P1 P2 P3 H' := by
  obtain ⟨ps, a1, a2⟩ := h.t.a
  obtain ⟨qs, b1, b2⟩ := h.t.b
  obtain ⟨rs, c1, c2, c3⟩ := h.s
  have out : ∀ a o, H a = some o → a ≠ P1 → a ≠ P2 → H' a = some o := fun a o e n1 n2 => s _ _ (fun c => by
    rcases List.mem_cons.mp c with c | c
    · exact n1 c
    · exact n2 (List.mem_singleton.mp c)) e
  refine ⟨t, ⟨rs, out _ _ c1 h.n1 h.n2, c2, fun pos cv hc => ?_⟩, h.n1, h.n2, h.n12⟩
  obtain ⟨c, e1, e2⟩ := c3 pos cv hc
  refine ⟨c, e1, out _ _ e2 (fun z => ?_) fun z => ?_⟩
  · rw [z, a1] at e2
    unfold CodeO at e2
    cases e2
  · rw [z, b1] at e2
    unfold CodeO at e2
    cases e2
theorem T3.show (h : T3 P1 P2 P3 H) (s : ButP P3 H H') (t : TabS H' P3 q3) : T3 P1 P2 P3 H' := by
  obtain ⟨ps, a1, a2⟩ := h.t.a
  obtain ⟨qs, b1, b2⟩ := h.t.b
  exact ⟨⟨⟨ps, s _ _ h.n1.symm a1, a2⟩, ⟨qs, s _ _ h.n2.symm b1, b2⟩⟩, t, h.n1, h.n2, h.n12⟩
/-- what is no table stays when a page is read, or written -/
theorem T3.keepR (h : T3 P1 P2 P3 H) (s : But [P1, P2] H H') {a : Addr} {o : HO} (e : H a = some o) (n : ∀ ps, o ≠ .tbl ps) : H' a = some o := by
  obtain ⟨ps, a1, a2⟩ := h.t.a
  obtain ⟨qs, b1, b2⟩ := h.t.b
  refine s _ _ (fun c => ?_) e
  rcases List.mem_cons.mp c with c | c
  · rw [c, a1] at e
    exact n ps (Option.some.inj e).symm
  · rw [List.mem_singleton.mp c, b1] at e
    exact n qs (Option.some.inj e).symm
theorem T3.keepS (h : T3 P1 P2 P3 H) (s : ButP P3 H H') {a : Addr} {o : HO} (e : H a = some o) (n : ∀ ps, o ≠ .tbl ps) : H' a = some o := s _ _ (tabs_ne h.s e n) e
end
/-- where the turn stands -/
structure RK (H0 H : Hp) (b P1 P2 P3 : Addr) (p q n : Int) : Prop where
  bt : But [b, P1, P2, P3] H0 H
  tb : T3 P1 P2 P3 H
  hb : H b = some (.lst (bx p q n))
  bo : Box p q n
section
variable {H0 H1 H2 : Hp} {b P1 P2 P3 : Addr} {p q n p2 n2 : Int}
theorem RK.same (r : RK H0 H1 b P1 P2 P3 p q n) (s : Same H1 H2) : RK H0 H2 b P1 P2 P3 p q n := ⟨r.bt.trans (But.of_same s), r.tb.same s, s _ _ r.hb, r.bo⟩
theorem RK.sb (r : RK H0 H1 b P1 P2 P3 p q n) (s : SameBut b H1 H2) (hb : H2 b = some (.lst (bx p2 q n2))) (bo : Box p2 q n2) : RK H0 H2 b P1 P2 P3 p2 q n2 :=
  ⟨r.bt.trans fun a o m e => s _ _ (fun c => m (by rw [c]; simp)) e, r.tb.but s r.hb, hb, bo⟩
theorem RK.read (r : RK H0 H1 b P1 P2 P3 p q n) (s : But [P1, P2] H1 H2) (t : Tabs P1 P2 H2) : RK H0 H2 b P1 P2 P3 p q n :=
  ⟨r.bt.trans fun a o m e => s _ _ (fun c => m (by
    rcases List.mem_cons.mp c with c | c
    · simp [c]
    · simp [List.mem_singleton.mp c])) e, r.tb.read s t, r.tb.keepR s r.hb (fun ps c => by cases c), r.bo⟩
theorem RK.show (r : RK H0 H1 b P1 P2 P3 p q n) (s : ButP P3 H1 H2) (t : TabS H2 P3 q3) : RK H0 H2 b P1 P2 P3 p q n :=
  ⟨r.bt.trans fun a o m e => s _ _ (fun c => m (by simp [c])) e, r.tb.show s t, r.tb.keepS s r.hb (fun ps c => by cases c), r.bo⟩
end
end K5
namespace K5
open PySem PySem.Spec PyProof.Rows L2 LamX
/-! ### the law's one turn -/
abbrev s__law_right : Stmt := topS 49
abbrev nmRight : List Str := ["_law_box_here", "_law_worths", "_law_pact_here", "_law_page", "_law_some_here", "_law_turn", "_law_wild"]
theorem sc__law_right : FnScope nmRight ["_law_box_here"] (defScope s__law_right) := ⟨rfl, rfl, rfl, by decide +kernel, rfl, by decide +kernel, by decide +kernel⟩
def spRight (P1 P2 P3 : Addr) : Sp := fun vs H Q _ => ∃ (b : Addr) (p q n : Int), vs = [.ref b] ∧ H b = some (.lst (bx p q n)) ∧ Box p q n ∧ n + 10000 < 1000000 ∧ T3 P1 P2 P3 H ∧
  ∀ (H' : Hp) (p' n' : Int), But [b, P1, P2, P3] H H' → T3 P1 P2 P3 H' → H' b = some (.lst (bx p' q n')) → Box p' q n' → n' ≤ n + 8000 → Q (.bl true) H'
section
variable {K : PySem.W.Frag} {P1 P2 P3 CW CT : Addr} {σ : L2.St} {H : Hp} {ta tb : TE} {m : Nat} {z : Str} {accs : List StA} {sts : List (List RwD)} {Q : VK}
/-- repr(read_pact(worths, a page that stands for the pact)) -/
theorem read_run (ha : Val ta σ H (.int m)) (hb : Val tb σ H (.str z)) (m2 : 2 ≤ m) (m4 : m ≤ 4) (zl : z.length ≤ 14000) (zo : PyData.strOk z = true) (rd : pactR m (rowsOf z) = .ok accs) (ok : ∀ a ∈ accs, StOk a) (ed : pactD accs = datD sts) (sh : ShOk (datD sts)) (t : T3 P1 P2 P3 H)
    (q : ∀ H', But [P1, P2] H H' → Tabs P1 P2 H' → Q (.str (datD sts).shown) H') : tCB rReprQ (tCons (tCall (spReadPact CW CT P1 P2) [] E0 (tCons ta (tCons tb tNil))) tNil) σ H Q := by
  dsimp only [tCB, tCall, tCons, tNil]
  have hw : worthsOk (.int (m : Nat)) = true := by
    show (decide ((2 : Int) ≤ (m : Int)) && decide ((m : Int) ≤ 4)) = true
    rw [decide_eq_true (by omega), decide_eq_true (by omega)]
    rfl
  refine ha _ (hb _ ⟨.int m, .str z, _, _, rfl, .int _, .str _, t.t, t.n12, (fun e => by rw [hw] at e; cases e), fun m' e1 _ _ => ⟨(fun e => by cases e), fun z' e2 => ?_⟩⟩)
  injection e1 with e1
  injection e2 with e2
  have e1 : m' = m := by omega
  subst e1 e2
  refine ⟨zl, zo, ?_⟩
  rw [rd]
  intro H' p bt tb pa
  exact ⟨.ref p, datD sts, rfl, ed ▸ pa.dq ok, sh, q H' bt tb⟩
end
section
variable {P : Program} {w : World} {K : PySem.W.Frag} {mg : Str → Option Value} {base : Heap} {P1 P2 P3 CW CT : Addr}
theorem ok_right {f fO fX fPa fT fA fS fOu fIs fSh fRd fWt fTk : Addr} {fd fdO fdX fdPa fdT fdA fdS fdOu fdIs fdSh fdRd fdWt : FuncData} (B : Bt mg) (m_all : mg "all" = none) (me : mg "enumerate" = none) (ms : mg "sorted" = none) (D : Df K mg "_law_right" s__law_right f fd ["_law_box_here"])
    (DT : Df K mg "_law_take" sTake fT fdT ["_law_box_here", "_law_many"]) (DO : Df K mg "_law_of" s__law_of fO fdO ["_law_box_here", "_law_some_here"]) (DX : Df K mg "_law_pact_text" s__law_pact_text fX fdX ["_law_pact_here"]) (DA : Df K mg "_law_answer_word" s__law_answer_word fA fdA ["_law_answer"])
    (DPa : Df K mg "_law_pact" s__law_pact fPa fdPa ["_law_box_here", "_law_worths"]) (DS : Df K mg "_law_some" s__law_some fS fdS ["_law_box_here", "_law_items", "_law_many"]) (DOu : Df K mg "_law_outcomes_of" s__law_outcomes_of fOu fdOu ["_law_box_here", "_law_worths", "_law_many"])
    (DIs : Df K mg "is_pact" s_is_pact fIs fdIs ["worths", "value"]) (GIs : FnOk P w K mg base (L2.CX P w) 7 fIs fdIs ["worths", "value"] spIsPact)
    (DSh : Df K mg "show_pact" s_show_pact fSh fdSh ["pact"]) (GSh : FnOk P w K mg base (L2.CX P w) 8 fSh fdSh ["pact"] (spShow P3))
    (DRd : Df K mg "read_pact" s_read_pact fRd fdRd ["worths", "text"]) (GRd : FnOk P w K mg base (L2.CX P w) 9 fRd fdRd ["worths", "text"] (spReadPact CW CT P1 P2))
    (DWt : Df K mg "_law_wild_text" s__law_wild_text fWt fdWt ["_law_box_here", "_law_worths", "_law_pact_here"]) (GWt : FnOk P w K mg base CX0 5 fWt fdWt ["_law_box_here", "_law_worths", "_law_pact_here"] spWildT) :
    FnG P w K mg base (L2.CX P w) 13 f fd ["_law_box_here"] (spRight P1 P2 P3) := by
  have GO : FnOk P w K mg base CX0 2 fO fdO ["_law_box_here", "_law_some_here"] spOfB := ok_ofB B DO DT
  have GX : FnOk P w K mg base CX0 2 fX fdX ["_law_pact_here"] spPText := ok_pact_text B me DX DA
  have GPa : FnOk P w K mg base CX0 4 fPa fdPa ["_law_box_here", "_law_worths"] spPactD := ok_pactD B ms DPa DT DS DOu
  refine okG D.F sc__law_right (fun vs H Q E h => ?_) (fun cdv A outer s H vs Q E gu hr h => ?_)
  · obtain ⟨b, p, q, n, rfl, _⟩ := h
    rfl
  · obtain ⟨b, p, q, n, rfl, hb, Bx, hn, tab, k⟩ := h
    have S := sc__law_right
    have hu := hr.units
    refine ⟨_, (pss_cons (ps_set (i := 1) S.nd rfl (.inr rfl) (pe_call GO (hr.mono (by decide)) (by rfl) DO.g DO.F.kp DO.b .nil pass0 (pa_cons (pv 0) (pa_cons (pe_lst (pa_cons pe_int (pa_cons pe_int (pa_cons pe_int (pa_cons pe_int pa_nil))))) pa_nil))))
      (pss_cons (ps_set (i := 2) S.nd rfl (.inr rfl) (pe_call GPa (hr.mono (by decide)) (by rfl) DPa.g DPa.F.kp DPa.b .nil pass0 (pa_cons (pv 0) (pa_cons (pv 1) pa_nil))))
      (pss_cons (ps_set (i := 3) S.nd rfl (.inl rfl) (pe_call GX (hr.mono (by decide)) (by rfl) DX.g DX.F.kp DX.b .nil pass0 (pa_cons (pv 2) pa_nil)))
      (pss_cons (ps_if (PW.pt (pw_or (pt_cmpR op_isnot_bl (pe_call GIs (hr.mono (by decide)) (by rfl) DIs.g DIs.F.kp DIs.b .nil passL (pa_cons (pv 1) (pa_cons (pv 2) pa_nil))) pe_bl (nomark _)) (pw_or1 (pt_cmpR op_ne (pe_callB (call_reprQ (by exact gu) (by exact hu)) (by rfl) B.m_repr PyProof.Rows.boot_repr (pa_cons (pe_call GSh (hr.mono (by decide)) (by rfl) DSh.g DSh.F.kp DSh.b .nil passL (pa_cons (pv 2) pa_nil)) pa_nil)) (pe_callB (call_reprQ (by exact gu) (by exact hu)) (by rfl) B.m_repr PyProof.Rows.boot_repr (pa_cons (pv 3) pa_nil)) (nomark _)))))
        (pss_one (ps_ret pe_bl))
        pss_nil)
      (pss_cons (ps_if (pt_cmpR op_ne (pe_callB (call_reprQ (by exact gu) (by exact hu)) (by rfl) B.m_repr PyProof.Rows.boot_repr (pa_cons (pe_call GRd (hr.mono (by decide)) (by rfl) DRd.g DRd.F.kp DRd.b .nil passL (pa_cons (pv 1) (pa_cons (pv 3) pa_nil))) pa_nil)) (pe_callB (call_reprQ (by exact gu) (by exact hu)) (by rfl) B.m_repr PyProof.Rows.boot_repr (pa_cons (pv 2) pa_nil)) (nomark _))
        (pss_one (ps_ret pe_bl))
        pss_nil)
      (pss_cons (ps_setLc (i := 4) (own := [("_law_turn", 5)]) (g := gName 5) (tt := tYes) (by rfl) S.nd rfl rfl (sw_true rfl rfl rfl (by decide +kernel)) (pi_range1 (by rfl) B.m_range (pa_cons pe_int pa_nil)) (blkOk_by (own := [("_law_turn", 5)]) (N := nmRight) (sc := defScope s__law_right) (by decide +kernel)) (fun _ _ _ _ _ => pg_name (i := 5) S.nd rfl (Or.inl rfl)) (fun _ _ _ _ _ => pts_nil) (fun _ _ _ _ _ => pe_call GWt (hr.mono (by decide)) (by rfl) DWt.g DWt.F.kp DWt.b .nil pass0 (pa_cons (pv 0) (pa_cons (pv 1) (pa_cons (pv 2) pa_nil)))))
      (pss_one (ps_ret (pe_callB (cr_all rfl) (by rfl) m_all (by decide +kernel) (pa_cons (pe_lc (own := [("_law_wild", 6)]) (g := gName 6) (tt := tYes) rfl S.nd (pi_list (pv 4)) (blkOk_by (own := [("_law_wild", 6)]) (N := nmRight) (sc := defScope s__law_right) (by decide +kernel)) (fun _ _ _ _ _ => pg_name (i := 6) S.nd rfl (Or.inl rfl)) (fun _ _ _ _ _ => pts_nil)
        (fun _ _ _ _ _ => pe_cmpR op_eq (pe_callB (call_reprQ (by exact gu) (by exact hu)) (by rfl) B.m_repr PyProof.Rows.boot_repr (pa_cons (pe_call GRd (hr.mono (by decide)) (by rfl) DRd.g DRd.F.kp DRd.b .nil passL (pa_cons (pv 1) (pa_cons (pv 6) pa_nil))) pa_nil)) (pe_callB (call_reprQ (by exact gu) (by exact hu)) (by rfl) B.m_repr PyProof.Rows.boot_repr (pa_cons (pv 2) pa_nil)) (nomark _))) pa_nil)))))))))), ?_⟩
    have r0 : RK H H b P1 P2 P3 p q n := ⟨But.of_same (Same.refl _), tab, hb, Bx⟩
    -- worths
    refine asg_seq ?_
    refine of_runP (P := fun _ x => ∃ m : Nat, x = .int (m : Nat) ∧ 2 ≤ m ∧ m ≤ 4) (fun _ _ _ _ h => h) rfl (pl_cons (fun _ _ _ _ h => h) (pv_val fun _ _ => ⟨val_c, 2, rfl, by decide, by decide⟩) (pl_cons (fun _ _ _ _ h => h) (pv_val fun _ _ => ⟨val_c, 2, rfl, by decide, by decide⟩) (pl_cons (fun _ _ _ _ h => h) (pv_val fun _ _ => ⟨val_c, 3, rfl, by decide, by decide⟩) (pl_cons (fun _ _ _ _ h => h) (pv_val fun _ _ => ⟨val_c, 4, rfl, by decide, by decide⟩) pl_nil)))) hb Bx (by omega) (by decide) (by decide) fun H1 y p1 n1 s1 hy B1 le1 => ?_
    obtain ⟨m, rfl, m2, m4⟩ := hy
    have r1 := (r0.same s1).sb (SameBut.upd b H1 (.lst (bx p1 q n1))) upd_same B1
    clear r0
    generalize (upd H1 b (.lst (bx p1 q n1))) = H2 at r1 ⊢
    -- the pact
    refine asg_seq ?_
    dsimp only [tCall, tCons, tNil]
    refine (val_var rfl) _ ((val_var rfl) _ ⟨b, m, p1, q, n1, rfl, r1.hb, r1.bo, m4, by omega, fun H3 rr ps sts p3 n3 s3 nr hrr hps ok l4 l0 stx hb3 B3 le3 => ?_⟩)
    have r3 := r1.sb s3 hb3 B3
    clear r1
    -- its page
    refine asg_seq ?_
    dsimp only [tCall, tCons, tNil]
    refine (val_var rfl) _ ⟨rr, ps, sts, rfl, hrr, hps, ok, l4, l0, fun H4 z s4 pg ez => ?_⟩
    have r4 := r3.same s4
    have hrr4 := s4 _ _ hrr
    have hps4 : Paired (StD H4) ps sts := Paired.mapP hps fun _ _ e => e.mono (TKeep.same s4)
    clear r3 hrr hps
    have ok3 : ∀ s ∈ sts, StX m sts.length s ∧ s.length ≤ 12 ∧ ∀ r ∈ s, RowOk r := fun s hs => ⟨stx s hs, ok s hs⟩
    have ok4 : ∀ s ∈ sts, StX 4 sts.length s ∧ s.length ≤ 12 ∧ ∀ r ∈ s, RowOk r := fun s hs => ⟨StX.mono (stx s hs) m4, ok s hs⟩
    have sh := sm_drawn l4 ok
    have shz := sh_page pg (by decide)
    have zl : z.length ≤ 14000 := Nat.le_trans pg.l (by decide)
    obtain ⟨accs, rd, ed, ak⟩ := page_read m4 l4 (fun s hs r hr => ((ok s hs).2 r hr).1) stx
    have zr : rowsOf z = pageI 0 sts := by
      rw [ez]
      refine rows_join (fun e => ?_) fun x hx => ?_
      · cases sts with
        | nil => exact absurd l0 (by decide)
        | cons s r => cases e
      · have : ∀ (l : List (List RwD)) (k : Nat), (∀ s ∈ l, ∀ r ∈ s, RowOk r) → k + l.length ≤ 4 → ∀ x ∈ pageI k l, 10 ∉ x.cps.toList := by
          intro l
          induction l with
          | nil => exact fun _ _ _ _ h => nomatch h
          | cons s r ih =>
            intro k h le x hx
            rw [List.length_cons] at le
            rcases List.mem_cons.mp hx with e | hx
            · rw [e]
              exact ((tz_of (n := 6) (by decide +kernel) : Tz 6 ("state " : Str)).add (tz_num (i := (k : Nat)) (by omega) (by omega))).f
            · rcases List.mem_append.mp hx with hx | hx
              · obtain ⟨r', hr', rfl⟩ := List.mem_map.mp hx
                exact (rowI_tz (h s (List.mem_cons_self ..) r' hr')).f
              · exact ih (k + 1) (fun s hs => h s (List.mem_cons_of_mem _ hs)) (by omega) x hx
        exact this sts 0 (fun s hs => (ok s hs).2) (by omega) x hx
    -- it is a pact, and it is shown as the page
    dsimp only [tSeq, tIfS, tOr, tTest, tOp]
    dsimp only [tCall]
    refine (va_cons (val_var rfl) (va_cons (val_var rfl) va_nil)) _ ⟨m, rr, ps, sts, rfl, m2, m4, hrr4, hps4, ok3, l0, l4, fun H5 s5 => ?_⟩
    have r5 := r4.same s5
    have hrr5 := s5 _ _ hrr4
    have hps5 : Paired (StD H5) ps sts := Paired.mapP hps4 fun _ _ e => e.mono (TKeep.same s5)
    clear r4 hrr4 hps4
    refine val_c _ ⟨true, true, rfl, rfl, _, rfl, ?_⟩
    refine iteF ?_
    dsimp only [tCB, tCons, tNil]
    refine (val_var rfl) _ ⟨rr, ps, sts, rfl, hrr5, hps5, ok4, l0, l4, r5.tb.s, fun H6 b6 t6 => ?_⟩
    have r6 := r5.show b6 t6
    have tk6 : TKeep H5 H6 := fun a xs e => r5.tb.keepS b6 e fun ps c => by cases c
    have hrr6 := tk6 _ _ hrr5
    have hps6 : Paired (StD H6) ps sts := Paired.mapP hps5 fun _ _ e => e.mono tk6
    clear r5 hrr5 hps5
    rw [← ez]
    refine ⟨.str z, .str z, rfl, .str _, shz, ?_⟩
    refine (val_var rfl) _ ⟨.str z, .str z, rfl, .str _, shz, ?_⟩
    refine ⟨rfl, _, rfl, ?_⟩
    rw [decide_eq_true rfl]
    refine iteF ?_
    -- the page is read as the pact
    dsimp only [tNext, tSeq, tIfS, tTest, tOp]
    refine read_run (val_var rfl) (val_var rfl) m2 m4 zl pg.o (by rw [zr]; exact rd) ak ed sh r6.tb fun H7 b7 t7 => ?_
    have r7 := r6.read b7 t7
    have tk7 : TKeep H6 H7 := fun a xs e => r6.tb.keepR b7 e fun ps c => by cases c
    have hrr7 := tk7 _ _ hrr6
    have hps7 : Paired (StD H7) ps sts := Paired.mapP hps6 fun _ _ e => e.mono tk7
    clear r6 hrr6 hps6
    refine (val_reprQ (val_var rfl) (dq_drawn hrr7 hps7) sh) _ ?_
    refine ⟨rfl, _, rfl, ?_⟩
    rw [decide_eq_true rfl]
    refine iteF ?_
    -- three pages that stand for it
    try dsimp only [tNext, tSeq]
    refine asg_seq ?_
    dsimp only [tLc, iRng1, tCons, tNil]
    refine val_c _ ⟨3, rfl, by decide, by decide, fun M nM => ?_⟩
    have bM : b ≠ M := ne_of_none r7.hb nM
    have nM0 : ∀ {a o}, H a = some o → a ∉ [b, P1, P2, P3] → a ≠ M := fun {a o} e m c => by
      have := r7.bt _ _ m e
      rw [c, nM] at this
      cases this
    have sM := same_upd (o := .lst ([] : List V)) nM
    refine lc_range (lo := 0) (n := (3 : Int).toNat) (fun t H2 => ∃ (zs : List Str) (p' n' : Int), RK H H2 b P1 P2 P3 p' q n' ∧ n' ≤ n3 + 800 * t ∧ H2 rr = some (.tup (ps.map V.ref)) ∧ Paired (StD H2) ps sts ∧ H2 M = some (.lst (zs.map V.str)) ∧ zs.length = t ∧ ∀ y ∈ zs, Pg 3500 52 y ∧ ∃ ac, pactR m (rowsOf y) = .ok ac ∧ pactD ac = datD sts ∧ ∀ a ∈ ac, StOk a)
      ⟨[], p3, n3, r7.same sM, by omega, sM _ _ hrr7, Paired.mapP hps7 fun _ _ e => e.mono (TKeep.same sM), upd_same, rfl, (fun _ h => (nomatch h))⟩ (fun t H2 ht hI => ?_) fun H2 hI => ?_
    · obtain ⟨zs, p', n', r8, le8, hrr8, hps8, hM8, zl8, zs8⟩ := hI
      have ht3 : t < 3 := ht
      refine ⟨rfl, ?_⟩
      dsimp only [tYes]
      rw [if_pos rfl]
      dsimp only [tCall]
      refine (va_cons (val_var rfl) (va_cons (val_var rfl) (va_cons (val_var rfl) va_nil))) _ ⟨b, rr, m, ps, sts, p', q, n', rfl, r8.hb, r8.bo, by omega, m2, m4, hrr8, hps8, ok3, l0, l4, fun H9 y ss p9 n9 s9 pg9 ey pss hb9 B9 le9 => ?_⟩
      have r9 := r8.sb s9 hb9 B9
      have tk9 : TKeep H2 H9 := TKeep.but s9 r8.hb
      have hM9 := s9 _ _ bM.symm hM8
      have lst : ∀ {a o}, H9 a = some o → (∀ l, o ≠ .lst l) → (upd H9 M (.lst (zs.map V.str ++ [.str y]))) a = some o := fun {a o} e m => by
        rw [upd_ne fun c => m _ (by rw [c, hM9] at e; exact (Option.some.inj e).symm)]
        exact e
      have ssl : ss.length = sts.length := (Paired.length pss).symm
      have okw : ∀ s ∈ ss, ∀ r ∈ s, WOk m sts.length r := fun s hs r hr => by
        obtain ⟨i, hi⟩ := List.getElem?_of_mem hs
        have il := (List.getElem?_eq_some_iff.mp hi).1
        obtain ⟨W, hW, ws⟩ := paired_at i pss (List.getElem?_eq_getElem (l := sts) (i := i) (by omega))
        rw [hi] at hW
        injection hW with hW
        rw [← hW] at ws
        exact ws.ok r hr
      have flip : ∀ {nn : Nat} {l : List (List RwD)} {k : List (List WRow)}, Paired (fun rs W => WSt m nn rs W) l k → Paired (fun s rs => Canon (s.flatMap (wAcc m nn)) rs) k l := by
        intro nn l k h
        induction h with
        | nil => exact .nil
        | cons h _ ih => exact .cons h.c ih
      obtain ⟨ac, rd9, ed9, ak9⟩ := canon_read (m := m) (ss := ss) (sts := sts) l4 ssl okw (flip pss) stx
      have yr : rowsOf y = wlines 0 ss := by
        rw [ey]
        refine rows_join (fun e => ?_) fun x hx => ?_
        · cases ss with
          | nil =>
            have : (0 : Nat) = sts.length := ssl
            omega
          | cons s r => cases e
        · have : ∀ (l : List (List WRow)) (k : Nat), (∀ s ∈ l, ∀ r ∈ s, Tz 66 (wrowT r)) → k + l.length ≤ 4 → ∀ x ∈ wlines k l, 10 ∉ x.cps.toList := by
            intro l
            induction l with
            | nil => exact fun _ _ _ _ h => nomatch h
            | cons s r ih =>
              intro k h le x hx
              rw [List.length_cons] at le
              rcases List.mem_cons.mp hx with e | hx
              · rw [e]
                exact ((tz_of (n := 6) (by decide +kernel) : Tz 6 ("state " : Str)).add (tz_num (i := (k : Nat)) (by omega) (by omega))).f
              · rcases List.mem_append.mp hx with hx | hx
                · obtain ⟨r', hr', rfl⟩ := List.mem_map.mp hx
                  exact (h s (List.mem_cons_self ..) r' hr').f
                · exact ih (k + 1) (fun s hs => h s (List.mem_cons_of_mem _ hs)) (by omega) x hx
          exact this ss 0 (fun s hs r hr => by
            obtain ⟨i, hi⟩ := List.getElem?_of_mem hs
            have il := (List.getElem?_eq_some_iff.mp hi).1
            obtain ⟨W, hW, ws⟩ := paired_at i pss (List.getElem?_eq_getElem (l := sts) (i := i) (by omega))
            rw [hi] at hW
            injection hW with hW
            rw [← hW] at ws
            exact ws.t r hr) (by omega) x hx
      refine ⟨zs.map V.str, hM9, by rw [List.length_map, zl8]; exact Nat.lt_of_lt_of_le (show t < 4 by omega) (by decide), zs ++ [y], p9, n9, ⟨fun a o m e => ?_, r9.tb.list fun a o e m => lst e m, by rw [upd_ne bM]; exact hb9, B9⟩, by omega, lst (tk9 _ _ hrr8) (fun l c => by cases c), Paired.mapP hps8 fun _ _ e => (e.mono tk9).mono (fun a xs e => lst e (fun l c => (by cases c))), ?_, by rw [List.length_append, zl8]; rfl, fun x hx => ?_⟩
      · rw [upd_ne (nM0 e m)]
        exact r9.bt _ _ m e
      · rw [upd_same, List.map_append]
        rfl
      · rcases List.mem_append.mp hx with hx | hx
        · exact zs8 x hx
        · rw [List.mem_singleton.mp hx]
          exact ⟨pg9, ac, by rw [yr]; exact rd9, ed9, ak9⟩
    · obtain ⟨zs, p', n', r8, le8, hrr8, hps8, hM8, zl8, zs8⟩ := hI
      -- all of them are read as the pact
      try dsimp only [gName, List.set]
      dsimp only [tRet, tCB, tCons, tNil, tLc, iList]
      refine (val_var rfl) _ ⟨M, rfl, ⟨_, SqL.of hM8⟩, fun N nN => ?_⟩
      have bN : b ≠ N := ne_of_none r8.hb nN
      have MN : M ≠ N := ne_of_none hM8 nN
      have nN0 : ∀ {a o}, H a = some o → a ∉ [b, P1, P2, P3] → a ≠ N := fun {a o} e m c => by
        have := r8.bt _ _ m e
        rw [c, nN] at this
        cases this
      have sN := same_upd (o := .lst ([] : List V)) nN
      refine lc_list (xs := zs.map V.str) (fun j H3 => RK H H3 b P1 P2 P3 p' q n' ∧ H3 rr = some (.tup (ps.map V.ref)) ∧ Paired (StD H3) ps sts ∧ H3 M = some (.lst (zs.map V.str)) ∧ H3 N = some (.lst ((List.replicate j true).map V.bl))) ⟨r8.same sN, sN _ _ hrr8, Paired.mapP hps8 fun _ _ e => e.mono (TKeep.same sN), sN _ _ hM8, upd_same⟩ (fun j H3 _ ⟨_, _, _, h, _⟩ => SqL.of h) (fun j x H3 hj hI => ?_) fun H3 hI => ?_
      · obtain ⟨r9, hrr9, hps9, hM9, hN9⟩ := hI
        obtain ⟨y, ey, rfl⟩ : ∃ y, zs[j]? = some y ∧ x = .str y := by
          rw [List.getElem?_map] at hj
          cases e : zs[j]? with
          | none => rw [e] at hj; cases hj
          | some y => rw [e] at hj; exact ⟨y, rfl, (Option.some.inj hj).symm⟩
        have jl := (List.getElem?_eq_some_iff.mp ey).1
        obtain ⟨pgy, ac, rd9, ed9, ak9⟩ := zs8 y (List.mem_of_getElem? ey)
        refine ⟨rfl, ?_⟩
        dsimp only [tYes]
        rw [if_pos rfl]
        dsimp only [tOp]
        refine read_run (val_var rfl) (val_var rfl) m2 m4 (Nat.le_trans pgy.l (by decide)) pgy.o rd9 ak9 ed9 sh r9.tb fun H5 b5 t5 => ?_
        have r10 := r9.read b5 t5
        have kp : ∀ {a o}, H3 a = some o → (∀ ps, o ≠ .tbl ps) → H5 a = some o := fun {a o} e m => r9.tb.keepR b5 e m
        have tk5 : TKeep H3 H5 := fun a xs e => kp e fun ps c => by cases c
        have hM10 := kp hM9 fun ps c => by cases c
        have hN10 := kp hN9 fun ps c => by cases c
        refine (val_reprQ (val_var rfl) (dq_drawn (tk5 _ _ hrr9) (Paired.mapP hps9 fun _ _ e => e.mono tk5)) sh) _ ?_
        refine ⟨rfl, ?_⟩
        rw [decide_eq_true rfl]
        have lst : ∀ {a o}, H5 a = some o → (∀ l, o ≠ .lst l) → (upd H5 N (.lst ((List.replicate j true).map V.bl ++ [.bl true]))) a = some o := fun {a o} e m => by
          rw [upd_ne fun c => m _ (by rw [c, hN10] at e; exact (Option.some.inj e).symm)]
          exact e
        refine ⟨_, hN10, by rw [List.length_map, List.length_replicate]; exact Nat.lt_of_lt_of_le (show j < 4 by omega) (by decide), ⟨fun a o m e => ?_, r10.tb.list fun a o e m => lst e m, by rw [upd_ne bN]; exact r10.hb, r10.bo⟩, lst (tk5 _ _ hrr9) (fun l c => by cases c), Paired.mapP hps9 fun _ _ e => (e.mono tk5).mono (fun a xs e => lst e (fun l c => (by cases c))), by rw [upd_ne MN]; exact hM10, ?_⟩
        · rw [upd_ne (nN0 e m)]
          exact r10.bt _ _ m e
        · rw [upd_same, List.replicate_succ', List.map_append]
          rfl
      · obtain ⟨r9, hrr9, hps9, hM9, hN9⟩ := hI
        refine ⟨N, _, rfl, SqL.of hN9, ?_⟩
        rw [all_true]
        exact k H3 p' n' r9.bt r9.tb r9.hb r9.bo (by omega)
end
end K5
namespace K5
open PySem PySem.Spec PyProof.Rows L2 LamX
theorem sq_keep {K : PySem.W.Frag} {H H' : Hp} {a : Addr} {xs : List V} (h : SqL K H a xs) (k : ∀ o, H a = some o → H' a = some o) : SqL K H' a xs := by
  rcases h with (h | ⟨o, h⟩) | h
  · exact .inl (.inl (k _ h))
  · exact .inl (.inr ⟨o, k _ h⟩)
  · exact .inr h
abbrev s_law : Stmt := topS 50
theorem sc_law : FnScope ["_law_script", "_law_k", "_law_box_here", "_law_turn"] ["_law_script"] (defScope s_law) := ⟨rfl, rfl, rfl, by decide +kernel, rfl, by decide +kernel, by decide +kernel⟩
def spLaw (K : PySem.W.Frag) (P1 P2 P3 : Addr) : Sp := fun vs H Q _ => ∃ (a : Addr) (ns : List Int), vs = [.ref a] ∧ SqL K H a (ns.map V.int) ∧ T3 P1 P2 P3 H ∧ a ≠ P1 ∧ a ≠ P2 ∧ a ≠ P3 ∧ ∀ H', Q (.bl true) H'
section
variable {P : Program} {w : World} {K : PySem.W.Frag} {mg : Str → Option Value} {base : Heap} {P1 P2 P3 : Addr}
theorem ok_law {f fB fR : Addr} {fd dB dR : FuncData} (B : Bt mg) (m_all : mg "all" = none) (DB : Df K mg "_law_box" s__law_box fB dB ["_law_script", "_law_k"]) (GB : FnOk P w K mg base CX0 1 fB dB ["_law_script", "_law_k"] (spBox K))
    (DR : Df K mg "_law_right" s__law_right fR dR ["_law_box_here"]) (GR : FnG P w K mg base (L2.CX P w) 13 fR dR ["_law_box_here"] (spRight P1 P2 P3)) (F : Fun K "law" "law" s_law f fd) : FnG P w K mg base (L2.CX P w) 15 f fd ["_law_script"] (spLaw K P1 P2 P3) := by
  refine okG F sc_law (fun vs H Q E h => ?_) (fun cdv A outer s H vs Q E gu hr h => ?_)
  · obtain ⟨a, ns, rfl, _⟩ := h
    rfl
  · obtain ⟨a, ns, rfl, hS, tab, a1, a2, a3, k⟩ := h
    have S := sc_law
    refine ⟨_, (pss_cons (ps_for (passes_of rfl) rfl (pi_range1 (by rfl) B.m_range (pa_cons (pe_callB (call_max2 rfl) (by rfl) B.m_max (by decide +kernel) (pa_cons pe_int (pa_cons (pe_callB (call_min2 rfl) (by rfl) B.m_min (by decide +kernel) (pa_cons pe_int (pa_cons (pe_callB call_len_seq (by rfl) B.m_len PySem.boot_len (pa_cons (pv 0) pa_nil)) pa_nil))) pa_nil))) pa_nil)) (pg_name (i := 1) S.nd rfl (.inl rfl))
        (pss_cons (ps_set (i := 2) S.nd rfl (.inr rfl) (pe_call GB (hr.mono (by decide)) (by rfl) DB.g DB.F.kp DB.b .nil pass0 (pa_cons (pv 0) (pa_cons (pv 1) pa_nil))))
        (pss_one (ps_if (pt_not (pt_val (pe_callB (cr_all rfl) (by rfl) m_all (by decide +kernel) (pa_cons (pe_lc (own := [("_law_turn", 3)]) (g := gName 3) (tt := tYes) rfl S.nd (pi_range1 (by rfl) B.m_range (pa_cons pe_int pa_nil)) (blkOk_by (own := [("_law_turn", 3)]) (N := ["_law_script", "_law_k", "_law_box_here", "_law_turn"]) (sc := defScope s_law) (by decide +kernel)) (fun _ _ _ _ _ => pg_name (i := 3) S.nd rfl (Or.inl rfl)) (fun _ _ _ _ _ => pts_nil) (fun _ _ _ _ _ => pe_callG GR gu (hr.mono (by decide)) (by rfl) DR.g DR.F.kp DR.b passL (pa_cons (pv 2) pa_nil))) pa_nil))))
          (pss_one (ps_ret pe_bl))
          pss_nil))))
      (pss_one (ps_ret pe_bl))), ?_⟩
    dsimp only [tSeq, tFor, iRng1, tCB, tCons, tNil]
    refine val_c _ ?_
    refine val_c _ ?_
    refine (val_var rfl) _ ?_
    refine ⟨a, _, rfl, .inl hS, ?_⟩
    refine ⟨3, _, rfl, ?_⟩
    refine ⟨1, _, rfl, ?_⟩
    generalize hj : (if (if (((ns.map V.int).length : Nat) : Int) < 3 then (((ns.map V.int).length : Nat) : Int) else 3) > 1 then (if (((ns.map V.int).length : Nat) : Int) < 3 then (((ns.map V.int).length : Nat) : Int) else 3) else 1) = j
    have j1 : 1 ≤ j ∧ j ≤ 3 := by
      rw [← hj]
      split <;> split <;> omega
    refine ⟨j, rfl, by omega, by omega, ?_⟩
    refine for_range (D := { nx := tRet (tC (.bl true)) { nx := fun _ G2 => Q .non G2, rt := Q }, rt := Q }) (g := gName 1) (tb := tSeq (tAsg (tCall (spBox K) [] E0 (tCons (tVar 0) (tCons (tVar 1) tNil))) (gName 2)) (tIfS (tNot (tB (tCB (rAll K) (tCons (tLc (iRng1 (tCons (tC (.int 4)) tNil)) (gName 3) tYes (tCall (spRight P1 P2 P3) [] E0 (tCons (tVar 2) tNil)) [3]) tNil)))) (tRet (tC (.bl false))) tNext)) (lo := 0) (n := j.toNat) (fun i σ' H' => (∃ v1 v2 v3, σ' = [some (.ref a), v1, v2, v3]) ∧ (∀ o, H a = some o → H' a = some o) ∧ T3 P1 P2 P3 H') ⟨⟨none, none, none, rfl⟩, fun o e => e, tab⟩ (fun i σ' H' hi h => ?_) fun σ' H' h => ?_
    · obtain ⟨⟨v1, v2, v3, rfl⟩, kS, tb⟩ := h
      try dsimp only [gName]
      try dsimp only [tSeq, tAsg]
      try dsimp only [tCall, tCons, tNil]
      refine (val_var rfl) _ ?_
      refine (val_var rfl) _ ?_
      refine ⟨a, ns, 0 + (i : Int), rfl, sq_keep hS kS, by omega, by omega, fun b p q nb Bx => ?_⟩
      have s1 := same_upd (o := .lst (bx p q 0)) nb
      have hb : (upd H' b (.lst (bx p q 0))) b = some (.lst (bx p q 0)) := upd_same
      have ab : ∀ o, H a = some o → a ≠ b := fun o e => ne_of_none (kS o e) nb
      generalize (upd H' b (.lst (bx p q 0))) = H1 at s1 hb
      have tb1 := tb.same s1
      have kS1 : ∀ o, H a = some o → H1 a = some o := fun o e => s1 _ _ (kS o e)
      try dsimp only [gName]
      try dsimp only [tIfS, tNot, tB, tCB, tCons, tNil, tLc, iRng1]
      refine val_c _ ⟨4, rfl, by decide, by decide, fun M nM => ?_⟩
      have bM : b ≠ M := ne_of_none hb nM
      have M1 : M ≠ P1 := fun e => by
        obtain ⟨ps, q1, _⟩ := tb1.t.a
        rw [e, q1] at nM
        cases nM
      have M2 : M ≠ P2 := fun e => by
        obtain ⟨ps, q1, _⟩ := tb1.t.b
        rw [e, q1] at nM
        cases nM
      have M3 : M ≠ P3 := tabs_free tb1.s nM
      have out : ∀ x, x ≠ b → x ≠ P1 → x ≠ P2 → x ≠ P3 → x ∉ [b, P1, P2, P3] := fun x h1 h2 h3 h4 c => by
        rcases List.mem_cons.mp c with c | c
        · exact h1 c
        · rcases List.mem_cons.mp c with c | c
          · exact h2 c
          · rcases List.mem_cons.mp c with c | c
            · exact h3 c
            · exact h4 (List.mem_singleton.mp c)
      refine lc_range (lo := 0) (n := (4 : Int).toNat) (fun t H2 => ∃ p' n' : Int, (∀ o, H a = some o → H2 a = some o) ∧ T3 P1 P2 P3 H2 ∧ H2 b = some (.lst (bx p' q n')) ∧ Box p' q n' ∧ n' ≤ 8000 * t ∧ H2 M = some (.lst ((List.replicate t true).map V.bl))) ⟨p, 0, fun o e => same_upd nM _ _ (kS1 o e), tb1.same (same_upd nM), same_upd nM _ _ hb, Bx, by omega, upd_same⟩ (fun t H2 ht hI => ?_) fun H2 hI => ?_
      · obtain ⟨p', n', kA, t2, hb2, B2, le2, hM⟩ := hI
        have ht4 : t < 4 := ht
        refine ⟨rfl, ?_⟩
        try dsimp only [tYes]
        rw [if_pos rfl]
        try dsimp only [tCall, tCons, tNil]
        refine (val_var rfl) _ ⟨b, p', q, n', rfl, hb2, B2, by omega, t2, fun H3 p3 n3 kx t3 hb3 B3 le3 => ?_⟩
        have hM3 := kx _ _ (out _ bM.symm M1 M2 M3) hM
        have up : ∀ x o, x ≠ M → H3 x = some o → (upd H3 M (.lst ((List.replicate t true).map V.bl ++ [.bl true]))) x = some o := fun x o n e => by
          rw [upd_ne n]
          exact e
        refine ⟨_, hM3, by rw [List.length_map, List.length_replicate]; exact Nat.lt_of_le_of_lt (show t ≤ 4 by omega) (by decide), p3, n3, fun o e => up _ _ (ne_of_none (kS1 o e) nM) (kx _ _ (out _ (ab o e) a1 a2 a3) (kA o e)), t3.list fun x o e m => up _ _ (fun c => m _ (by rw [c, hM3] at e; exact (Option.some.inj e).symm)) e, up _ _ bM hb3, B3, by omega, ?_⟩
        rw [upd_same, List.replicate_succ', List.map_append]
        rfl
      · obtain ⟨p', n', kA, t2, hb2, B2, le2, hM⟩ := hI
        refine ⟨M, List.replicate 4 true, rfl, SqL.of hM, true, rfl, iteF ?_⟩
        exact ⟨⟨_, _, _, rfl⟩, kA, t2⟩
    · exact k H'
end
end K5
namespace K5
open PySem PySem.Spec PyProof.Rows L2
/-! ### the law's call, where the caller shows nothing -/
/-- what is tracked at the call: empty tables, and the script unless the text has written it -/
def atCall (K : PySem.W.Frag) (ts : List Addr) (a : Addr) (ob : Obj) (ns : List Int) : Hp := fun b =>
  if b ∈ ts then some (.tbl #[]) else if b = a ∧ K.lookup a = none then some (.frz ob (.lst (ns.map V.int))) else none
section
variable {K : PySem.W.Frag} {ts : List Addr} {a b : Addr} {ob : Obj} {ns : List Int}
theorem atCall_tab (h : b ∈ ts) : atCall K ts a ob ns b = some (.tbl #[]) := if_pos h
theorem atCall_arg (h : a ∉ ts) (free : K.lookup a = none) : atCall K ts a ob ns a = some (.frz ob (.lst (ns.map V.int))) := (if_neg h).trans (if_pos ⟨rfl, free⟩)
theorem atCall_not (h : b ∉ ts) (n : ¬ (b = a ∧ K.lookup a = none)) : atCall K ts a ob ns b = none := (if_neg h).trans (if_neg n)
theorem atCall_cases (K : PySem.W.Frag) (ts : List Addr) (a b : Addr) (ob : Obj) (ns : List Int) : atCall K ts a ob ns b = none ∨ (b ∈ ts ∧ atCall K ts a ob ns b = some (.tbl #[])) ∨ (b ∉ ts ∧ b = a ∧ K.lookup a = none ∧ atCall K ts a ob ns b = some (.frz ob (.lst (ns.map V.int)))) := by
  by_cases h : b ∈ ts
  · exact .inr (.inl ⟨h, atCall_tab h⟩)
  · by_cases n : b = a ∧ K.lookup a = none
    · exact .inr (.inr ⟨h, n.1, n.2, (if_neg h).trans (if_pos n)⟩)
    · exact .inl (atCall_not h n)
end
theorem law_G {P : Program} {w : World} {K : PySem.W.Frag} {mg mb : Str → Option Value} {cx : CXT} {lv : Nat} {fa a : Addr} {cs : List (Addr × Addr)} {rec : FuncData} {x : Str} {pr : Sp} {st : Shared} {us : List Value} {ns : List Int}
    (inK : K.In st.heap) (gl : st.heap.Ns mainGlobals mg) (bl : st.heap.Ns builtinsNs mb) (std : ∀ y : Str, y ≠ "__name__" → mb y = bootBuiltins y) (nol : st.heap.NoLimit) (noGens : st.gens = #[])
    (tabs : ∀ p ∈ cs, st.heap.get? p.2 = some { cls := .none, data := .fields #[] }) (outK : ∀ p ∈ cs, K.lookup p.2 = none) (codes : ∀ p ∈ cs, PySem.W.CodeHd st.heap p.1 p.2)
    (bmod : ∃ (bm : Addr) (o : Obj), mg "__builtins__" = some (.ref bm) ∧ bm ≠ builtinsNs ∧ st.heap.get? bm = some o ∧ o.cls = .type "module" ∧ o.dict = some builtinsNs ∧ o.data = .plain)
    (arg : st.heap.get? a = some { cls := .type "list", data := .seq us.toArray }) (wholes : IntsAre us ns) (few : ns.length ≤ sizeLine) (room : Room lv callerA)
    (F : ∀ base : Heap, K.In base → base.Ns mainGlobals mg → (∀ p ∈ cs, GxR.TabB base mg p.1 p.2) → FnG P w K mg base cx lv fa rec [x] pr) (binds : ∀ (s : Shared) (u : Value), BindsTo s rec ⟨[u], []⟩ [(x, u)])
    (goes : ∀ H : Hp, (∀ p ∈ cs, H p.2 = some (.tbl #[])) → SqL K H a (ns.map V.int) → pr [.ref a] H (fun v _ => v = .bl true) fun _ _ _ => False)
    (quiet : ∀ H e s2, cx [] H st (fun _ _ _ => False) e s2 → False) :
    codeAny (model P w) callerA (.call (.ref fa) ⟨[.ref a], []⟩) (fun r s2 => r = .ok (.ret (.bool true)) ∧ OldK st.heap s2.heap ∧ s2.os = st.os ∧ AllBare s2.gens) st := by
  generalize hts : cs.map (·.2) = ts
  have inTs : ∀ p ∈ cs, p.2 ∈ ts := fun p hp => hts ▸ List.mem_map.mpr ⟨p, hp, rfl⟩
  have ofTs : ∀ b ∈ ts, ∃ p ∈ cs, p.2 = b := fun b hb => List.mem_map.mp (hts ▸ hb)
  have tabAt : ∀ b ∈ ts, st.heap.get? b = some { cls := .none, data := .fields #[] } := fun b hb => by
    obtain ⟨p, hp, rfl⟩ := ofTs b hb
    exact tabs p hp
  generalize hob : ({ cls := .type "list", data := .seq us.toArray } : Obj) = ob at arg
  have obD : ∃ m, ob.data = .seq us.toArray m := hob ▸ ⟨_, rfl⟩
  have argOut : a ∉ ts := fun z => by
    have q := tabAt a z
    rw [arg] at q
    obtain ⟨m, d⟩ := obD
    rw [Option.some.inj q] at d
    cases d
  have rel := vals_ints wholes
  have size : us.toArray.size ≤ sizeLine := by
    rw [List.size_toArray, wholes.length]
    exact few
  let H : Hp := atCall K ts a ob ns
  -- neither a table nor a list: it is not tracked
  have loose : ∀ {b : Addr} {o : Obj}, st.heap.get? b = some o → (∀ vs m, o.data ≠ .seq vs m) → o.data ≠ .fields #[] → H b = none := by
    intro b o e n1 n2
    rcases atCall_cases K ts a b ob ns with q | ⟨q, _⟩ | ⟨_, q, _, _⟩
    · exact q
    · rw [tabAt b q] at e
      cases e
      exact absurd rfl n2
    · rw [q, arg] at e
      cases e
      obtain ⟨m, d⟩ := obD
      exact absurd d (n1 _ _)
  have dictLoose : ∀ {b : Addr} {o : Obj} {es : Array DictEntry} {ep : Nat}, st.heap.get? b = some o → o.data = .dict es ep → H b = none := by
    intro b o es ep e d
    exact loose e (fun vs m z => by rw [d] at z; cases z) fun z => by rw [d] at z; cases z
  have names : ∀ {b : Addr} {m : Str → Option Value}, st.heap.Ns b m → (hidT st.heap H).Ns b m := by
    rintro b m ⟨o, es, ep, e, d, r⟩
    exact ⟨o, es, ep, hidT_get e (dictLoose e d), d, r⟩
  have inB : K.In (hidT st.heap H) := by
    intro b o e
    refine hidT_get (inK b o e) ?_
    rcases atCall_cases K ts a b ob ns with q | ⟨q, _⟩ | ⟨_, q, free, _⟩
    · exact q
    · obtain ⟨p, hp, rfl⟩ := ofTs b q
      rw [outK p hp] at e
      cases e
    · rw [q, free] at e
      cases e
  have notG : ∀ b ∈ ts, mainGlobals ≠ b := fun b hb z => by
    obtain ⟨o, es, ep, e, d, _⟩ := gl
    rw [z, tabAt b hb] at e
    cases e
    cases d
  have tb : ∀ p ∈ cs, GxR.TabB (hidT st.heap H) mg p.1 p.2 := by
    intro p hp
    constructor
    · obtain ⟨o, vs, r1, r2, r3, r4, r5, r6, r7, e, k1, k2, k3⟩ := codes p hp
      refine ⟨o, vs, r1, r2, r3, r4, r5, r6, r7, hidT_get e (loose e (fun us m z => ?_) fun z => ?_), k1, k2, k3⟩
      · rw [k2] at z
        cases z
      · rw [k2] at z
        cases z
        simp at k3
    · obtain ⟨bm, o, y1, y2, y3, y4, y5, y6⟩ := bmod
      refine ⟨bm, o, y1, y2, fun z => ?_, fun z => ?_, hidT_get y3 (loose y3 (fun us m z => ?_) fun z => ?_), y4, y5, y6⟩
      · obtain ⟨g, es, ep, e, d, _⟩ := gl
        rw [← z, y3] at e
        cases e
        rw [y6] at d
        cases d
      · rw [z, tabs p hp] at y3
        cases y3
        cases y6
      · rw [y6] at z
        cases z
      · rw [y6] at z
        cases z
    · exact notG _ (inTs p hp)
  have held : HOk P w H st.heap := by
    intro b u z
    rcases atCall_cases K ts a b ob ns with q | ⟨q, q2⟩ | ⟨_, q, _, q2⟩
    · rw [show H b = none from q] at z
      cases z
    · rw [show H b = _ from q2] at z
      cases z
      exact tabAt b q
    · rw [show H b = _ from q2] at z
      cases z
      rw [q]
      exact ⟨arg, by rw [List.length_map]; exact few, us, _, rel, arg.trans (congrArg some hob.symm)⟩
  have script : SqL K H a (ns.map V.int) := by
    cases lk : K.lookup a with
    | none => exact .inl (.inr ⟨ob, atCall_arg argOut lk⟩)
    | some o =>
      have e := inK a o lk
      rw [arg] at e
      cases e
      obtain ⟨m, d⟩ := obD
      refine .inr ⟨ob, us.toArray, m, lk, ?_, ?_, d, size, by simpa using rel⟩ <;> rw [← hob]
  have nolB : (hidT st.heap H).NoLimit := by
    obtain ⟨mc, z1, z2⟩ := nol
    exact ⟨mc, names z1, z2⟩
  have e0 : Env0 P w K mg (hidT st.heap H) callerA [] st H :=
    { frames := rfl, mod := ⟨inB, names gl, ⟨mb, names bl, std⟩, nolB⟩, bs := fun b o e => of_hidT e, bsz := Nat.le_of_eq (hidT_size _ _), funs := trivial, frf := fun b hb => (nomatch hb), hok := held, bare := .of_eq noGens }
  have runs := (F _ inB (names gl) tb).does callerA [] st H ⟨[.ref a], []⟩ [.ref a] [.ref a] (fun v _ => v = .bl true) (fun _ _ _ => False) rfl room e0 (binds st (.ref a)) (.cons rfl .nil) (goes H (fun p hp => atCall_tab (inTs p hp)) script)
  refine codeAny_mono runs ?_
  intro r s2 h
  match r, h with
  | .error e, h => exact (quiet H e s2 h).elim
  | .ok .next, h => exact h.elim
  | .ok .brk, h => exact h.elim
  | .ok .cont, h => exact h.elim
  | .ok (.ret u), ⟨v, H2, sameOs, bare, un, held2, ru, q⟩ =>
    have q : v = V.bl true := q
    subst q
    have ru : u = Value.bool true := ru
    subst ru
    have grown : ∀ p ∈ cs, ∃ more : Array Value, s2.heap.get? p.2 = some { cls := .none, data := .fields more } := fun p hp => by
      obtain ⟨more, z⟩ := un.tbls p.2 #[] (atCall_tab (inTs p hp))
      exact ⟨_, held2 p.2 _ z⟩
    have kept : ∀ b o, b ∉ ts → st.heap.get? b = some o → s2.heap.get? b = some o := by
      intro b o nb e
      rcases atCall_cases K ts a b ob ns with z | ⟨z, _⟩ | ⟨_, z, _, z2⟩
      · exact un.keep b o e z (fun c => (nomatch c)) fun c => (nomatch c)
      · exact absurd z nb
      · obtain ⟨g, _⟩ := held2 b _ (un.frzs b ob _ z2)
        rw [z, arg] at e
        cases e
        exact g
    refine ⟨rfl, ⟨fun b o e => ?_, fun b o e => ?_⟩, sameOs, bare⟩ <;> by_cases hb : b ∈ ts
    · obtain ⟨p, hp, rfl⟩ := ofTs b hb
      obtain ⟨more, hm⟩ := grown p hp
      rw [tabs p hp] at e
      cases e
      refine .inr (.inl ⟨((codes p hp).tab (tabs p hp)).isCodeTable, rfl, #[], more, rfl, ?_⟩)
      rw [hm, Array.empty_append]
    · exact .inl (kept b o hb e)
    · obtain ⟨p, hp, rfl⟩ := ofTs b hb
      obtain ⟨more, hm⟩ := grown p hp
      exact ⟨_, hm⟩
    · exact ⟨o, kept b o hb e⟩
end K5
namespace K5
open PySem PySem.Spec PyProof.Rows L2
/-! ### the head's facts, by names -/
/-- a class of errors, as it is written -/
def oexB (K : PySem.W.Frag) (C : Addr) : Bool := match K.lookup C with
  | some ⟨.type t, _, .cls ⟨_, _, mro, _, _, hd, _, _, _, _, del⟩, sl⟩ => decide (t = "type") && (hd && (!del && ((match mro with
      | .ref c :: bm => decide (c = C) && PySem.HandSPX.refsVE bm
      | _ => false) && (match sl.toList with
      | [_, _, _, _, some (.builtin n), _] => decide (n = "ValueError.__new__")
      | _ => false))))
  | _ => false
theorem oexB_ok {K : PySem.W.Frag} {C : Addr} (h : oexB K C = true) : ∃ nm q N bs bm sn sub ab col dd k0 k1 k2 k3 k5, K.lookup C = some (excClassObj nm q C N bs bm true sn sub ab col dd k0 k1 k2 k3 k5 "ValueError.__new__") ∧ PySem.HandSPX.refsVE bm = true := by
  unfold oexB at h
  split at h
  · rename_i t dd nm bs mro N qn hd sn sub ab col del sl lk
    rw [Bool.and_eq_true, Bool.and_eq_true, Bool.and_eq_true, Bool.and_eq_true] at h
    obtain ⟨h1, h2, h3, h4, h5⟩ := h
    split at h4
    · rename_i c bm
      rw [Bool.and_eq_true] at h4
      split at h5
      · rename_i k0 k1 k2 k3 n k5 e
        have e1 : t = "type" := of_decide_eq_true h1
        have e2 : c = C := of_decide_eq_true h4.1
        have e3 : n = "ValueError.__new__" := of_decide_eq_true h5
        have e4 : hd = true := h2
        have e5 : del = false := by
          cases del
          · rfl
          · cases h3
        have e6 : sl = #[k0, k1, k2, k3, some (.builtin n), k5] := by
          rw [← Array.toList_inj, e]
        subst e1 e2 e3 e4 e5 e6
        exact ⟨nm, qn, N, bs, bm, sn, sub, ab, col, dd, k0, k1, k2, k3, k5, lk, h4.2⟩
      · cases h5
    · cases h4
  · cases h
def kdB (K : PySem.W.Frag) (x : Str) : Bool := match K.lookup (He.ga K x) with
  | some o => decide (o.cls = .type "tuple") && o.dict.isNone
  | none => false
theorem kdB_ok {K : PySem.W.Frag} {x : Str} (h : kdB K x = true) : ∃ ob, K.lookup (He.ga K x) = some ob ∧ ob.cls = .type "tuple" ∧ ob.dict = none := by
  unfold kdB at h
  split at h
  · rename_i o e
    rw [Bool.and_eq_true] at h
    exact ⟨o, e, of_decide_eq_true h.1, Option.isNone_iff_eq_none.mp h.2⟩
  · cases h
/-- what else is asked of the classes of errors -/
def errL (K : PySem.W.Frag) (x : Str) : List Bool := [oexB K (He.ga K x), decide (PySem.W.findIn K (.ref (He.ga K x)) "__setattr__" = some (some (.builtin "object.__setattr__"))), decide (PySem.W.subIn K (.ref (He.ga K x)) (.type "BaseException") = some true), decide (PySem.W.typeIn K (.ref (He.ga K x)) = some (.type "type")), PySem.W.keepIn K (.ref (He.ga K x)),
  decide (PySem.W.findIn K (.ref (He.ga K x)) "__init__" = some (some (.ref (He.ma K (He.ga K "WireError") "__init__")))), decide (PySem.W.findIn K (.ref (He.ga K x)) "value" = some none)]
def exL (K : PySem.W.Frag) : List Bool := [(errL K "BadText").all id, (errL K "BadWorths").all id, decide (PySem.W.typeIn K (.ref (He.ma K (He.ga K "WireError") "__init__")) = some (.type "function")), (errL K "BadPact").all id,
  He.tupB K "ANSWER_WORDS" [.str "busy", .str "lost"], kdB K "ANSWER_WORDS", decide ((He.cT K ("read_state", none)).2 ≠ (He.cT K ("read_outcomes", none)).2), decide ((He.cT K ("shown_outcomes", none)).2 ≠ (He.cT K ("read_state", none)).2), decide ((He.cT K ("shown_outcomes", none)).2 ≠ (He.cT K ("read_outcomes", none)).2)]
def exB (K : PySem.W.Frag) : Bool := (exL K).all id
theorem all_at {l : List Bool} (h : l.all id = true) (i : Nat) {b : Bool} (e : l[i]? = some b) : b = true := List.all_eq_true.mp h b (List.mem_of_getElem? e)
def faL : List He.Fa := [
  (.glo "is_integer"),
  (.glo "is_below"),
  (.glo "is_worths"),
  (.glo "is_answer"),
  (.glo "is_name"),
  (.glo "is_door"),
  (.glo "is_tuple"),
  (.glo "ascends"),
  (.glo "number"),
  (.glo "is_pact"),
  (.glo "is_state"),
  (.glo "is_row"),
  (.glo "is_outcome"),
  (.glo "show_pact"),
  (.glo "shown_outcomes"),
  (.glo "shown_answer"),
  (.glo "read_pact"),
  (.glo "pact_of_doors"),
  (.glo "states_told"),
  (.glo "read_state"),
  (.glo "read_outcomes"),
  (.glo "worths_of"),
  (.glo "answers_of"),
  (.glo "answer_of"),
  (.glo "_law_box"),
  (.glo "_law_take"),
  (.glo "_law_of"),
  (.glo "_law_some"),
  (.glo "_law_outcomes_of"),
  (.glo "_law_pact"),
  (.glo "_law_answer_word"),
  (.glo "_law_pact_text"),
  (.glo "_law_wild_outcomes"),
  (.glo "_law_wild_state"),
  (.glo "_law_wild_text"),
  (.glo "_law_right"),
  (.glo "law"),
  (.glo "WireError"),
  (.glo "BadText"),
  (.glo "BadWorths"),
  (.glo "BadPact"),
  (.glo "Lines"),
  (.glo "ANSWER_WORDS"),
  (.free "int"),
  (.free "len"),
  (.free "abs"),
  (.free "max"),
  (.free "min"),
  (.free "list"),
  (.free "str"),
  (.free "bool"),
  (.free "range"),
  (.free "isinstance"),
  (.free "tuple"),
  (.free "repr"),
  (.free "all"),
  (.free "set"),
  (.free "sorted"),
  (.free "enumerate"),
  (.int "MOST_STATES" 400),
  (.int "MOST_WORTHS" 4),
  (.cls "Lines"),
  (.mkr "Lines"),
  (.noat "Lines" "rows"),
  (.noat "Lines" "at"),
  (.meth "Lines" "words"),
  (.meth "Lines" "step"),
  (.meth "Lines" "need"),
  (.meth "Lines" "need_end")]
def d0 : He.DefD := ⟨("is_integer", none), "is_integer", "is_integer", defArgs s_is_integer, defBody s_is_integer, defScope s_is_integer, [], []⟩
def d1 : He.DefD := ⟨("is_below", none), "is_below", "is_below", defArgs s_is_below, defBody s_is_below, defScope s_is_below, [], []⟩
def d2 : He.DefD := ⟨("is_worths", none), "is_worths", "is_worths", defArgs s_is_worths, defBody s_is_worths, defScope s_is_worths, [], []⟩
def d3 : He.DefD := ⟨("is_answer", none), "is_answer", "is_answer", defArgs s_is_answer, defBody s_is_answer, defScope s_is_answer, [], []⟩
def d4 : He.DefD := ⟨("is_name", none), "is_name", "is_name", defArgs s_is_name, defBody s_is_name, defScope s_is_name, [], []⟩
def d5 : He.DefD := ⟨("is_door", none), "is_door", "is_door", defArgs s_is_door, defBody s_is_door, defScope s_is_door, [], []⟩
def d6 : He.DefD := ⟨("is_tuple", none), "is_tuple", "is_tuple", defArgs s_is_tuple, defBody s_is_tuple, defScope s_is_tuple, [], []⟩
def d7 : He.DefD := ⟨("ascends", none), "ascends", "ascends", defArgs s_ascends, defBody s_ascends, defScope s_ascends, [], []⟩
def d8 : He.DefD := ⟨("number", none), "number", "number", defArgs s_number, defBody s_number, defScope s_number, [], []⟩
def d9 : He.DefD := ⟨("is_pact", none), "is_pact", "is_pact", defArgs s_is_pact, defBody s_is_pact, defScope s_is_pact, [], []⟩
def d10 : He.DefD := ⟨("is_state", none), "is_state", "is_state", defArgs s_is_state, defBody s_is_state, defScope s_is_state, [], []⟩
def d11 : He.DefD := ⟨("is_row", none), "is_row", "is_row", defArgs s_is_row, defBody s_is_row, defScope s_is_row, [], []⟩
def d12 : He.DefD := ⟨("is_outcome", none), "is_outcome", "is_outcome", defArgs s_is_outcome, defBody s_is_outcome, defScope s_is_outcome, [], []⟩
def d13 : He.DefD := ⟨("show_pact", none), "show_pact", "show_pact", defArgs s_show_pact, defBody s_show_pact, defScope s_show_pact, [], []⟩
def d14 : He.DefD := ⟨("shown_outcomes", none), "shown_outcomes", "shown_outcomes", defArgs s_shown_outcomes, defBody s_shown_outcomes, defScope s_shown_outcomes, [], []⟩
def d15 : He.DefD := ⟨("shown_answer", none), "shown_answer", "shown_answer", defArgs s_shown_answer, defBody s_shown_answer, defScope s_shown_answer, [], []⟩
def d16 : He.DefD := ⟨("read_pact", none), "read_pact", "read_pact", defArgs s_read_pact, defBody s_read_pact, defScope s_read_pact, [], []⟩
def d17 : He.DefD := ⟨("pact_of_doors", none), "pact_of_doors", "pact_of_doors", defArgs s_pact_of_doors, defBody s_pact_of_doors, defScope s_pact_of_doors, [], []⟩
def d18 : He.DefD := ⟨("states_told", none), "states_told", "states_told", defArgs s_states_told, defBody s_states_told, defScope s_states_told, [], []⟩
def d19 : He.DefD := ⟨("read_state", none), "read_state", "read_state", defArgs s_read_state, defBody s_read_state, defScope s_read_state, [], []⟩
def d20 : He.DefD := ⟨("read_outcomes", none), "read_outcomes", "read_outcomes", defArgs s_read_outcomes, defBody s_read_outcomes, defScope s_read_outcomes, [], []⟩
def d21 : He.DefD := ⟨("worths_of", none), "worths_of", "worths_of", defArgs s_worths_of, defBody s_worths_of, defScope s_worths_of, [], []⟩
def d22 : He.DefD := ⟨("answers_of", none), "answers_of", "answers_of", defArgs s_answers_of, defBody s_answers_of, defScope s_answers_of, [], []⟩
def d23 : He.DefD := ⟨("answer_of", none), "answer_of", "answer_of", defArgs s_answer_of, defBody s_answer_of, defScope s_answer_of, [], []⟩
def d24 : He.DefD := ⟨("_law_box", none), "_law_box", "_law_box", defArgs s__law_box, defBody s__law_box, defScope s__law_box, [], []⟩
def d25 : He.DefD := ⟨("_law_take", none), "_law_take", "_law_take", defArgs sTake, defBody sTake, defScope sTake, [], []⟩
def d26 : He.DefD := ⟨("_law_of", none), "_law_of", "_law_of", defArgs s__law_of, defBody s__law_of, defScope s__law_of, [], []⟩
def d27 : He.DefD := ⟨("_law_some", none), "_law_some", "_law_some", defArgs s__law_some, defBody s__law_some, defScope s__law_some, [], []⟩
def d28 : He.DefD := ⟨("_law_outcomes_of", none), "_law_outcomes_of", "_law_outcomes_of", defArgs s__law_outcomes_of, defBody s__law_outcomes_of, defScope s__law_outcomes_of, [], []⟩
def d29 : He.DefD := ⟨("_law_pact", none), "_law_pact", "_law_pact", defArgs s__law_pact, defBody s__law_pact, defScope s__law_pact, [], []⟩
def d30 : He.DefD := ⟨("_law_answer_word", none), "_law_answer_word", "_law_answer_word", defArgs s__law_answer_word, defBody s__law_answer_word, defScope s__law_answer_word, [], []⟩
def d31 : He.DefD := ⟨("_law_pact_text", none), "_law_pact_text", "_law_pact_text", defArgs s__law_pact_text, defBody s__law_pact_text, defScope s__law_pact_text, [], []⟩
def d32 : He.DefD := ⟨("_law_wild_outcomes", none), "_law_wild_outcomes", "_law_wild_outcomes", defArgs s__law_wild_outcomes, defBody s__law_wild_outcomes, defScope s__law_wild_outcomes, [], []⟩
def d33 : He.DefD := ⟨("_law_wild_state", none), "_law_wild_state", "_law_wild_state", defArgs s__law_wild_state, defBody s__law_wild_state, defScope s__law_wild_state, [], []⟩
def d34 : He.DefD := ⟨("_law_wild_text", none), "_law_wild_text", "_law_wild_text", defArgs s__law_wild_text, defBody s__law_wild_text, defScope s__law_wild_text, [], []⟩
def d35 : He.DefD := ⟨("_law_right", none), "_law_right", "_law_right", defArgs s__law_right, defBody s__law_right, defScope s__law_right, [], []⟩
def d36 : He.DefD := ⟨("law", none), "law", "law", defArgs s_law, defBody s_law, defScope s_law, [], []⟩
def d37 : He.DefD := ⟨("WireError", some "__init__"), "__init__", "WireError.__init__", defArgs s_err, defBody s_err, defScope s_err, [], []⟩
def d38 : He.DefD := ⟨("Lines", some "__init__"), "__init__", "Lines.__init__", defArgs s_Lines___init__, defBody s_Lines___init__, defScope s_Lines___init__, [], []⟩
def d39 : He.DefD := ⟨("Lines", some "words"), "words", "Lines.words", defArgs s_Lines_words, defBody s_Lines_words, defScope s_Lines_words, [], []⟩
def d40 : He.DefD := ⟨("Lines", some "step"), "step", "Lines.step", defArgs s_Lines_step, defBody s_Lines_step, defScope s_Lines_step, [], []⟩
def d41 : He.DefD := ⟨("Lines", some "need"), "need", "Lines.need", defArgs s_Lines_need, defBody s_Lines_need, defScope s_Lines_need, [], []⟩
def d42 : He.DefD := ⟨("Lines", some "need_end"), "need_end", "Lines.need_end", defArgs s_Lines_need_end, defBody s_Lines_need_end, defScope s_Lines_need_end, [], []⟩
def fnL : List He.DefD := [d0, d1, d2, d3, d4, d5, d6, d7, d8, d9, d10, d11, d12, d13, d14, d15, d16, d17, d18, d19, d20, d21, d22, d23, d24, d25, d26, d27, d28, d29, d30, d31, d32, d33, d34, d35, d36, d37, d38, d39, d40, d41, d42]
abbrev tfL : List He.Defn := [("read_state", none), ("read_outcomes", none), ("shown_outcomes", none)]
theorem funOf {K : PySem.W.Frag} {x qual : Str} {st : Stmt} {f : Addr} {fd : FuncData} (F : FunD K x qual (defArgs st) (defBody st) (defScope st) [] [] f fd) : Fun K x qual st f fd := by
  obtain ⟨oc, od, dV, kV, doc, pm, an, cd, ct, sl, e, lk, hc, hD, _⟩ := F.ex
  rcases hD with ⟨_, rfl⟩ | ⟨z, _⟩
  · exact ⟨⟨oc, od, kV, doc, pm, an, cd, ct, sl, e, lk, hc⟩, F.kp⟩
  · exact absurd rfl z
theorem funTOf {K : PySem.W.Frag} {x qual : Str} {st : Stmt} {p : He.Defn} {fd : FuncData} (F : FunD K x qual (defArgs st) (defBody st) (defScope st) [] [] (He.fAd K p) fd) : FunT K x qual st (He.fAd K p) fd (He.codeOf K p) := by
  obtain ⟨oc, od, dV, kV, doc, pm, an, cd, ct, sl, e, lk, hc, hD, _⟩ := F.ex
  rcases hD with ⟨_, rfl⟩ | ⟨z, _⟩
  · obtain ⟨c, rfl⟩ := He.codeIn_ref hc
    have q := He.codeOf_eq (c := c) lk (by rw [e])
    rw [q]
    exact ⟨⟨oc, od, kV, doc, pm, an, ct, sl, e, lk, hc⟩, F.kp⟩
  · exact absurd rfl z
section
variable {K : PySem.W.Frag} {w : World} {h : Heap} {mg : Str → Option Value}
theorem er_of {x : Str} (X : K.In h) (G : h.Ns mainGlobals mg) (g : mg x = some (.ref (He.ga K x))) (e : (errL K x).all id = true) (e2 : (exL K).all id = true) : Er K mg x (He.ga K x) (He.ma K (He.ga K "WireError") "__init__") where
  O := ⟨oexB_ok (all_at e 0 rfl), of_decide_eq_true (all_at e 1 rfl), of_decide_eq_true (all_at e 2 rfl), of_decide_eq_true (all_at e 3 rfl), all_at e 4 rfl⟩
  g := g
  iC := of_decide_eq_true (all_at e 5 rfl)
  tI := of_decide_eq_true (all_at e2 2 rfl)
  nv := of_decide_eq_true (all_at e 6 rfl)
theorem all_mk {P : Program} {f : Addr} (X : K.In h) (G : h.Ns mainGlobals mg) (hf : mg ("law" : Str) = some (.ref f)) (c : He.SaysD faL fnL K) (e2 : exB K = true) :
    ∃ fd : FuncData, (∀ (s : Shared) (v : Value), BindsTo s fd ⟨[v], []⟩ [("_law_script", v)]) ∧ ∀ base : Heap, K.In base → base.Ns mainGlobals mg → GxR.TabB base mg (He.codeOf K ("read_state", none)) (He.cT K ("read_state", none)).2 → GxR.TabB base mg (He.codeOf K ("read_outcomes", none)) (He.cT K ("read_outcomes", none)).2 → GxR.TabB base mg (He.codeOf K ("shown_outcomes", none)) (He.cT K ("shown_outcomes", none)).2 →
      FnG P w K mg base (L2.CX P w) 15 f fd ["_law_script"] (spLaw K (He.cT K ("read_state", none)).2 (He.cT K ("read_outcomes", none)).2 (He.cT K ("shown_outcomes", none)).2) := by
  have eT : (errL K "BadText").all id = true := all_at e2 0 rfl
  have eW : (errL K "BadWorths").all id = true := all_at e2 1 rfl
  have eP : (errL K "BadPact").all id = true := all_at e2 3 rfl
  have Bt0 : Bt mg := { m_int := He.free_ok X G (c.fact 43 (f := .free "int") rfl), m_len := He.free_ok X G (c.fact 44 (f := .free "len") rfl), m_abs := He.free_ok X G (c.fact 45 (f := .free "abs") rfl), m_max := He.free_ok X G (c.fact 46 (f := .free "max") rfl), m_min := He.free_ok X G (c.fact 47 (f := .free "min") rfl), m_list := He.free_ok X G (c.fact 48 (f := .free "list") rfl), m_str := He.free_ok X G (c.fact 49 (f := .free "str") rfl), m_bool := He.free_ok X G (c.fact 50 (f := .free "bool") rfl), m_range := He.free_ok X G (c.fact 51 (f := .free "range") rfl), m_isinstance := He.free_ok X G (c.fact 52 (f := .free "isinstance") rfl), m_tuple := He.free_ok X G (c.fact 53 (f := .free "tuple") rfl), m_repr := He.free_ok X G (c.fact 54 (f := .free "repr") rfl) }
  obtain ⟨k0, F0⟩ := c.def_ 0 (d := d0) rfl
  obtain ⟨k1, F1⟩ := c.def_ 1 (d := d1) rfl
  obtain ⟨k2, F2⟩ := c.def_ 2 (d := d2) rfl
  obtain ⟨k3, F3⟩ := c.def_ 3 (d := d3) rfl
  obtain ⟨k4, F4⟩ := c.def_ 4 (d := d4) rfl
  obtain ⟨k5, F5⟩ := c.def_ 5 (d := d5) rfl
  obtain ⟨k6, F6⟩ := c.def_ 6 (d := d6) rfl
  obtain ⟨k7, F7⟩ := c.def_ 7 (d := d7) rfl
  obtain ⟨k8, F8⟩ := c.def_ 8 (d := d8) rfl
  obtain ⟨k9, F9⟩ := c.def_ 9 (d := d9) rfl
  obtain ⟨k10, F10⟩ := c.def_ 10 (d := d10) rfl
  obtain ⟨k11, F11⟩ := c.def_ 11 (d := d11) rfl
  obtain ⟨k12, F12⟩ := c.def_ 12 (d := d12) rfl
  obtain ⟨k13, F13⟩ := c.def_ 13 (d := d13) rfl
  obtain ⟨k14, F14⟩ := c.def_ 14 (d := d14) rfl
  obtain ⟨k15, F15⟩ := c.def_ 15 (d := d15) rfl
  obtain ⟨k16, F16⟩ := c.def_ 16 (d := d16) rfl
  obtain ⟨k17, F17⟩ := c.def_ 17 (d := d17) rfl
  obtain ⟨k18, F18⟩ := c.def_ 18 (d := d18) rfl
  obtain ⟨k19, F19⟩ := c.def_ 19 (d := d19) rfl
  obtain ⟨k20, F20⟩ := c.def_ 20 (d := d20) rfl
  obtain ⟨k21, F21⟩ := c.def_ 21 (d := d21) rfl
  obtain ⟨k22, F22⟩ := c.def_ 22 (d := d22) rfl
  obtain ⟨k23, F23⟩ := c.def_ 23 (d := d23) rfl
  obtain ⟨k24, F24⟩ := c.def_ 24 (d := d24) rfl
  obtain ⟨k25, F25⟩ := c.def_ 25 (d := d25) rfl
  obtain ⟨k26, F26⟩ := c.def_ 26 (d := d26) rfl
  obtain ⟨k27, F27⟩ := c.def_ 27 (d := d27) rfl
  obtain ⟨k28, F28⟩ := c.def_ 28 (d := d28) rfl
  obtain ⟨k29, F29⟩ := c.def_ 29 (d := d29) rfl
  obtain ⟨k30, F30⟩ := c.def_ 30 (d := d30) rfl
  obtain ⟨k31, F31⟩ := c.def_ 31 (d := d31) rfl
  obtain ⟨k32, F32⟩ := c.def_ 32 (d := d32) rfl
  obtain ⟨k33, F33⟩ := c.def_ 33 (d := d33) rfl
  obtain ⟨k34, F34⟩ := c.def_ 34 (d := d34) rfl
  obtain ⟨k35, F35⟩ := c.def_ 35 (d := d35) rfl
  obtain ⟨k36, F36⟩ := c.def_ 36 (d := d36) rfl
  obtain ⟨k37, F37⟩ := c.def_ 37 (d := d37) rfl
  obtain ⟨k38, F38⟩ := c.def_ 38 (d := d38) rfl
  obtain ⟨k39, F39⟩ := c.def_ 39 (d := d39) rfl
  obtain ⟨k40, F40⟩ := c.def_ 40 (d := d40) rfl
  obtain ⟨k41, F41⟩ := c.def_ 41 (d := d41) rfl
  obtain ⟨k42, F42⟩ := c.def_ 42 (d := d42) rfl
  have e := hf.symm.trans (He.glo_ok X G (c.fact 36 (f := .glo "law") rfl))
  cases e
  have b0 : Binds K k0 ["value"] [] := FunD.bindsN F0 fun _ _ _ _ _ _ us hl => match us, hl with | [_], _ => rfl
  have D0 : Df K mg "is_integer" s_is_integer (He.fAd K ("is_integer", none)) k0 ["value"] := ⟨funOf (st := s_is_integer) F0, He.glo_ok X G (c.fact 0 (f := .glo "is_integer") rfl), b0⟩
  have b1 : Binds K k1 ["value", "many"] [] := FunD.bindsN F1 fun _ _ _ _ _ _ us hl => match us, hl with | [_, _], _ => rfl
  have D1 : Df K mg "is_below" s_is_below (He.fAd K ("is_below", none)) k1 ["value", "many"] := ⟨funOf (st := s_is_below) F1, He.glo_ok X G (c.fact 1 (f := .glo "is_below") rfl), b1⟩
  have b2 : Binds K k2 ["value"] [] := FunD.bindsN F2 fun _ _ _ _ _ _ us hl => match us, hl with | [_], _ => rfl
  have D2 : Df K mg "is_worths" s_is_worths (He.fAd K ("is_worths", none)) k2 ["value"] := ⟨funOf (st := s_is_worths) F2, He.glo_ok X G (c.fact 2 (f := .glo "is_worths") rfl), b2⟩
  have b3 : Binds K k3 ["value", "worths"] [] := FunD.bindsN F3 fun _ _ _ _ _ _ us hl => match us, hl with | [_, _], _ => rfl
  have D3 : Df K mg "is_answer" s_is_answer (He.fAd K ("is_answer", none)) k3 ["value", "worths"] := ⟨funOf (st := s_is_answer) F3, He.glo_ok X G (c.fact 3 (f := .glo "is_answer") rfl), b3⟩
  have b4 : Binds K k4 ["value"] [] := FunD.bindsN F4 fun _ _ _ _ _ _ us hl => match us, hl with | [_], _ => rfl
  have D4 : Df K mg "is_name" s_is_name (He.fAd K ("is_name", none)) k4 ["value"] := ⟨funOf (st := s_is_name) F4, He.glo_ok X G (c.fact 4 (f := .glo "is_name") rfl), b4⟩
  have b5 : Binds K k5 ["value"] [] := FunD.bindsN F5 fun _ _ _ _ _ _ us hl => match us, hl with | [_], _ => rfl
  have D5 : Df K mg "is_door" s_is_door (He.fAd K ("is_door", none)) k5 ["value"] := ⟨funOf (st := s_is_door) F5, He.glo_ok X G (c.fact 5 (f := .glo "is_door") rfl), b5⟩
  have b6 : Binds K k6 ["value", "size"] [] := FunD.bindsN F6 fun _ _ _ _ _ _ us hl => match us, hl with | [_, _], _ => rfl
  have D6 : Df K mg "is_tuple" s_is_tuple (He.fAd K ("is_tuple", none)) k6 ["value", "size"] := ⟨funOf (st := s_is_tuple) F6, He.glo_ok X G (c.fact 6 (f := .glo "is_tuple") rfl), b6⟩
  have b7 : Binds K k7 ["rows"] [] := FunD.bindsN F7 fun _ _ _ _ _ _ us hl => match us, hl with | [_], _ => rfl
  have D7 : Df K mg "ascends" s_ascends (He.fAd K ("ascends", none)) k7 ["rows"] := ⟨funOf (st := s_ascends) F7, He.glo_ok X G (c.fact 7 (f := .glo "ascends") rfl), b7⟩
  have b8 : Binds K k8 ["word", "many"] [] := FunD.bindsN F8 fun _ _ _ _ _ _ us hl => match us, hl with | [_, _], _ => rfl
  have D8 : Df K mg "number" s_number (He.fAd K ("number", none)) k8 ["word", "many"] := ⟨funOf (st := s_number) F8, He.glo_ok X G (c.fact 8 (f := .glo "number") rfl), b8⟩
  have b9 : Binds K k9 ["worths", "value"] [] := FunD.bindsN F9 fun _ _ _ _ _ _ us hl => match us, hl with | [_, _], _ => rfl
  have D9 : Df K mg "is_pact" s_is_pact (He.fAd K ("is_pact", none)) k9 ["worths", "value"] := ⟨funOf (st := s_is_pact) F9, He.glo_ok X G (c.fact 9 (f := .glo "is_pact") rfl), b9⟩
  have b10 : Binds K k10 ["worths", "many", "value"] [] := FunD.bindsN F10 fun _ _ _ _ _ _ us hl => match us, hl with | [_, _, _], _ => rfl
  have D10 : Df K mg "is_state" s_is_state (He.fAd K ("is_state", none)) k10 ["worths", "many", "value"] := ⟨funOf (st := s_is_state) F10, He.glo_ok X G (c.fact 10 (f := .glo "is_state") rfl), b10⟩
  have b11 : Binds K k11 ["worths", "many", "value"] [] := FunD.bindsN F11 fun _ _ _ _ _ _ us hl => match us, hl with | [_, _, _], _ => rfl
  have D11 : Df K mg "is_row" s_is_row (He.fAd K ("is_row", none)) k11 ["worths", "many", "value"] := ⟨funOf (st := s_is_row) F11, He.glo_ok X G (c.fact 11 (f := .glo "is_row") rfl), b11⟩
  have b12 : Binds K k12 ["worths", "many", "value"] [] := FunD.bindsN F12 fun _ _ _ _ _ _ us hl => match us, hl with | [_, _, _], _ => rfl
  have D12 : Df K mg "is_outcome" s_is_outcome (He.fAd K ("is_outcome", none)) k12 ["worths", "many", "value"] := ⟨funOf (st := s_is_outcome) F12, He.glo_ok X G (c.fact 12 (f := .glo "is_outcome") rfl), b12⟩
  have b13 : Binds K k13 ["pact"] [] := FunD.bindsN F13 fun _ _ _ _ _ _ us hl => match us, hl with | [_], _ => rfl
  have D13 : Df K mg "show_pact" s_show_pact (He.fAd K ("show_pact", none)) k13 ["pact"] := ⟨funOf (st := s_show_pact) F13, He.glo_ok X G (c.fact 13 (f := .glo "show_pact") rfl), b13⟩
  have b14 : Binds K k14 ["outcomes"] [] := FunD.bindsN F14 fun _ _ _ _ _ _ us hl => match us, hl with | [_], _ => rfl
  have T14 : DfT K mg "shown_outcomes" s_shown_outcomes (He.fAd K ("shown_outcomes", none)) k14 (He.codeOf K ("shown_outcomes", none)) ["outcomes"] := ⟨funTOf (st := s_shown_outcomes) (p := ("shown_outcomes", none)) F14, He.glo_ok X G (c.fact 14 (f := .glo "shown_outcomes") rfl), b14⟩
  have b15 : Binds K k15 ["answer"] [] := FunD.bindsN F15 fun _ _ _ _ _ _ us hl => match us, hl with | [_], _ => rfl
  have D15 : Df K mg "shown_answer" s_shown_answer (He.fAd K ("shown_answer", none)) k15 ["answer"] := ⟨funOf (st := s_shown_answer) F15, He.glo_ok X G (c.fact 15 (f := .glo "shown_answer") rfl), b15⟩
  have b16 : Binds K k16 ["worths", "text"] [] := FunD.bindsN F16 fun _ _ _ _ _ _ us hl => match us, hl with | [_, _], _ => rfl
  have D16 : Df K mg "read_pact" s_read_pact (He.fAd K ("read_pact", none)) k16 ["worths", "text"] := ⟨funOf (st := s_read_pact) F16, He.glo_ok X G (c.fact 16 (f := .glo "read_pact") rfl), b16⟩
  have b17 : Binds K k17 ["worths", "text", "doors"] [] := FunD.bindsN F17 fun _ _ _ _ _ _ us hl => match us, hl with | [_, _, _], _ => rfl
  have D17 : Df K mg "pact_of_doors" s_pact_of_doors (He.fAd K ("pact_of_doors", none)) k17 ["worths", "text", "doors"] := ⟨funOf (st := s_pact_of_doors) F17, He.glo_ok X G (c.fact 17 (f := .glo "pact_of_doors") rfl), b17⟩
  have b18 : Binds K k18 ["rows"] [] := FunD.bindsN F18 fun _ _ _ _ _ _ us hl => match us, hl with | [_], _ => rfl
  have D18 : Df K mg "states_told" s_states_told (He.fAd K ("states_told", none)) k18 ["rows"] := ⟨funOf (st := s_states_told) F18, He.glo_ok X G (c.fact 18 (f := .glo "states_told") rfl), b18⟩
  have b19 : Binds K k19 ["lines", "worths", "doors", "many"] [] := FunD.bindsN F19 fun _ _ _ _ _ _ us hl => match us, hl with | [_, _, _, _], _ => rfl
  have T19 : DfT K mg "read_state" s_read_state (He.fAd K ("read_state", none)) k19 (He.codeOf K ("read_state", none)) ["lines", "worths", "doors", "many"] := ⟨funTOf (st := s_read_state) (p := ("read_state", none)) F19, He.glo_ok X G (c.fact 19 (f := .glo "read_state") rfl), b19⟩
  have b20 : Binds K k20 ["lines", "text", "worths", "many"] [] := FunD.bindsN F20 fun _ _ _ _ _ _ us hl => match us, hl with | [_, _, _, _], _ => rfl
  have T20 : DfT K mg "read_outcomes" s_read_outcomes (He.fAd K ("read_outcomes", none)) k20 (He.codeOf K ("read_outcomes", none)) ["lines", "text", "worths", "many"] := ⟨funTOf (st := s_read_outcomes) (p := ("read_outcomes", none)) F20, He.glo_ok X G (c.fact 20 (f := .glo "read_outcomes") rfl), b20⟩
  have b21 : Binds K k21 ["word", "worths"] [] := FunD.bindsN F21 fun _ _ _ _ _ _ us hl => match us, hl with | [_, _], _ => rfl
  have D21 : Df K mg "worths_of" s_worths_of (He.fAd K ("worths_of", none)) k21 ["word", "worths"] := ⟨funOf (st := s_worths_of) F21, He.glo_ok X G (c.fact 21 (f := .glo "worths_of") rfl), b21⟩
  have b22 : Binds K k22 ["word", "worths"] [] := FunD.bindsN F22 fun _ _ _ _ _ _ us hl => match us, hl with | [_, _], _ => rfl
  have D22 : Df K mg "answers_of" s_answers_of (He.fAd K ("answers_of", none)) k22 ["word", "worths"] := ⟨funOf (st := s_answers_of) F22, He.glo_ok X G (c.fact 22 (f := .glo "answers_of") rfl), b22⟩
  have b23 : Binds K k23 ["word", "worths"] [] := FunD.bindsN F23 fun _ _ _ _ _ _ us hl => match us, hl with | [_, _], _ => rfl
  have D23 : Df K mg "answer_of" s_answer_of (He.fAd K ("answer_of", none)) k23 ["word", "worths"] := ⟨funOf (st := s_answer_of) F23, He.glo_ok X G (c.fact 23 (f := .glo "answer_of") rfl), b23⟩
  have b24 : Binds K k24 ["_law_script", "_law_k"] [] := FunD.bindsN F24 fun _ _ _ _ _ _ us hl => match us, hl with | [_, _], _ => rfl
  have D24 : Df K mg "_law_box" s__law_box (He.fAd K ("_law_box", none)) k24 ["_law_script", "_law_k"] := ⟨funOf (st := s__law_box) F24, He.glo_ok X G (c.fact 24 (f := .glo "_law_box") rfl), b24⟩
  have b25 : Binds K k25 ["_law_box_here", "_law_many"] [] := FunD.bindsN F25 fun _ _ _ _ _ _ us hl => match us, hl with | [_, _], _ => rfl
  have D25 : Df K mg "_law_take" sTake (He.fAd K ("_law_take", none)) k25 ["_law_box_here", "_law_many"] := ⟨funOf (st := sTake) F25, He.glo_ok X G (c.fact 25 (f := .glo "_law_take") rfl), b25⟩
  have b26 : Binds K k26 ["_law_box_here", "_law_some_here"] [] := FunD.bindsN F26 fun _ _ _ _ _ _ us hl => match us, hl with | [_, _], _ => rfl
  have D26 : Df K mg "_law_of" s__law_of (He.fAd K ("_law_of", none)) k26 ["_law_box_here", "_law_some_here"] := ⟨funOf (st := s__law_of) F26, He.glo_ok X G (c.fact 26 (f := .glo "_law_of") rfl), b26⟩
  have b27 : Binds K k27 ["_law_box_here", "_law_items", "_law_many"] [] := FunD.bindsN F27 fun _ _ _ _ _ _ us hl => match us, hl with | [_, _, _], _ => rfl
  have D27 : Df K mg "_law_some" s__law_some (He.fAd K ("_law_some", none)) k27 ["_law_box_here", "_law_items", "_law_many"] := ⟨funOf (st := s__law_some) F27, He.glo_ok X G (c.fact 27 (f := .glo "_law_some") rfl), b27⟩
  have b28 : Binds K k28 ["_law_box_here", "_law_worths", "_law_many"] [] := FunD.bindsN F28 fun _ _ _ _ _ _ us hl => match us, hl with | [_, _, _], _ => rfl
  have D28 : Df K mg "_law_outcomes_of" s__law_outcomes_of (He.fAd K ("_law_outcomes_of", none)) k28 ["_law_box_here", "_law_worths", "_law_many"] := ⟨funOf (st := s__law_outcomes_of) F28, He.glo_ok X G (c.fact 28 (f := .glo "_law_outcomes_of") rfl), b28⟩
  have b29 : Binds K k29 ["_law_box_here", "_law_worths"] [] := FunD.bindsN F29 fun _ _ _ _ _ _ us hl => match us, hl with | [_, _], _ => rfl
  have D29 : Df K mg "_law_pact" s__law_pact (He.fAd K ("_law_pact", none)) k29 ["_law_box_here", "_law_worths"] := ⟨funOf (st := s__law_pact) F29, He.glo_ok X G (c.fact 29 (f := .glo "_law_pact") rfl), b29⟩
  have b30 : Binds K k30 ["_law_answer"] [] := FunD.bindsN F30 fun _ _ _ _ _ _ us hl => match us, hl with | [_], _ => rfl
  have D30 : Df K mg "_law_answer_word" s__law_answer_word (He.fAd K ("_law_answer_word", none)) k30 ["_law_answer"] := ⟨funOf (st := s__law_answer_word) F30, He.glo_ok X G (c.fact 30 (f := .glo "_law_answer_word") rfl), b30⟩
  have b31 : Binds K k31 ["_law_pact_here"] [] := FunD.bindsN F31 fun _ _ _ _ _ _ us hl => match us, hl with | [_], _ => rfl
  have D31 : Df K mg "_law_pact_text" s__law_pact_text (He.fAd K ("_law_pact_text", none)) k31 ["_law_pact_here"] := ⟨funOf (st := s__law_pact_text) F31, He.glo_ok X G (c.fact 31 (f := .glo "_law_pact_text") rfl), b31⟩
  have b32 : Binds K k32 ["_law_box_here", "_law_worths", "_law_outcomes"] [] := FunD.bindsN F32 fun _ _ _ _ _ _ us hl => match us, hl with | [_, _, _], _ => rfl
  have D32 : Df K mg "_law_wild_outcomes" s__law_wild_outcomes (He.fAd K ("_law_wild_outcomes", none)) k32 ["_law_box_here", "_law_worths", "_law_outcomes"] := ⟨funOf (st := s__law_wild_outcomes) F32, He.glo_ok X G (c.fact 32 (f := .glo "_law_wild_outcomes") rfl), b32⟩
  have b33 : Binds K k33 ["_law_box_here", "_law_worths", "_law_state"] [] := FunD.bindsN F33 fun _ _ _ _ _ _ us hl => match us, hl with | [_, _, _], _ => rfl
  have D33 : Df K mg "_law_wild_state" s__law_wild_state (He.fAd K ("_law_wild_state", none)) k33 ["_law_box_here", "_law_worths", "_law_state"] := ⟨funOf (st := s__law_wild_state) F33, He.glo_ok X G (c.fact 33 (f := .glo "_law_wild_state") rfl), b33⟩
  have b34 : Binds K k34 ["_law_box_here", "_law_worths", "_law_pact_here"] [] := FunD.bindsN F34 fun _ _ _ _ _ _ us hl => match us, hl with | [_, _, _], _ => rfl
  have D34 : Df K mg "_law_wild_text" s__law_wild_text (He.fAd K ("_law_wild_text", none)) k34 ["_law_box_here", "_law_worths", "_law_pact_here"] := ⟨funOf (st := s__law_wild_text) F34, He.glo_ok X G (c.fact 34 (f := .glo "_law_wild_text") rfl), b34⟩
  have b35 : Binds K k35 ["_law_box_here"] [] := FunD.bindsN F35 fun _ _ _ _ _ _ us hl => match us, hl with | [_], _ => rfl
  have D35 : Df K mg "_law_right" s__law_right (He.fAd K ("_law_right", none)) k35 ["_law_box_here"] := ⟨funOf (st := s__law_right) F35, He.glo_ok X G (c.fact 35 (f := .glo "_law_right") rfl), b35⟩
  have b36 : Binds K k36 ["_law_script"] [] := FunD.bindsN F36 fun _ _ _ _ _ _ us hl => match us, hl with | [_], _ => rfl
  have D36 : Df K mg "law" s_law (He.fAd K ("law", none)) k36 ["_law_script"] := ⟨funOf (st := s_law) F36, He.glo_ok X G (c.fact 36 (f := .glo "law") rfl), b36⟩
  have b37 : Binds K k37 ["self", "value"] [] := FunD.bindsN F37 fun _ _ _ _ _ _ us hl => match us, hl with | [_, _], _ => rfl
  have U37 : Fun K "__init__" "WireError.__init__" s_err (He.fAd K ("WireError", some "__init__")) k37 := funOf (st := s_err) F37
  have b38 : Binds K k38 ["self", "text"] [] := FunD.bindsN F38 fun _ _ _ _ _ _ us hl => match us, hl with | [_, _], _ => rfl
  have U38 : Fun K "__init__" "Lines.__init__" s_Lines___init__ (He.fAd K ("Lines", some "__init__")) k38 := funOf (st := s_Lines___init__) F38
  have b39 : Binds K k39 ["self", "depth"] [] := FunD.bindsN F39 fun _ _ _ _ _ _ us hl => match us, hl with | [_, _], _ => rfl
  have M39 : Mf K (He.ga K "Lines") "words" "Lines.words" s_Lines_words (He.fAd K ("Lines", some "words")) k39 ["self", "depth"] := ⟨funOf (st := s_Lines_words) F39, He.meth_ok (c.fact 65 (f := .meth "Lines" "words") rfl), b39⟩
  have b40 : Binds K k40 ["self"] [] := FunD.bindsN F40 fun _ _ _ _ _ _ us hl => match us, hl with | [_], _ => rfl
  have M40 : Mf K (He.ga K "Lines") "step" "Lines.step" s_Lines_step (He.fAd K ("Lines", some "step")) k40 ["self"] := ⟨funOf (st := s_Lines_step) F40, He.meth_ok (c.fact 66 (f := .meth "Lines" "step") rfl), b40⟩
  have b41 : Binds K k41 ["self", "right"] [] := FunD.bindsN F41 fun _ _ _ _ _ _ us hl => match us, hl with | [_, _], _ => rfl
  have M41 : Mf K (He.ga K "Lines") "need" "Lines.need" s_Lines_need (He.fAd K ("Lines", some "need")) k41 ["self", "right"] := ⟨funOf (st := s_Lines_need) F41, He.meth_ok (c.fact 67 (f := .meth "Lines" "need") rfl), b41⟩
  have b42 : Binds K k42 ["self"] [] := FunD.bindsN F42 fun _ _ _ _ _ _ us hl => match us, hl with | [_], _ => rfl
  have M42 : Mf K (He.ga K "Lines") "need_end" "Lines.need_end" s_Lines_need_end (He.fAd K ("Lines", some "need_end")) k42 ["self"] := ⟨funOf (st := s_Lines_need_end) F42, He.meth_ok (c.fact 68 (f := .meth "Lines" "need_end") rfl), b42⟩
  have CLs : ClL K (He.ga K "Lines") := ⟨He.cls_ok (c.fact 61 (f := .cls "Lines") rfl), He.noat_ok (c.fact 63 (f := .noat "Lines" "rows") rfl), He.noat_ok (c.fact 64 (f := .noat "Lines" "at") rfl)⟩
  have KLines : Mk K (He.ga K "Lines") (He.fAd K ("Lines", some "__init__")) := He.mkr_ok (c.fact 62 (f := .mkr "Lines") rfl)
  have gWireError : mg "WireError" = some (.ref (He.ga K "WireError")) := He.glo_ok X G (c.fact 37 (f := .glo "WireError") rfl)
  have gBadText : mg "BadText" = some (.ref (He.ga K "BadText")) := He.glo_ok X G (c.fact 38 (f := .glo "BadText") rfl)
  have gBadWorths : mg "BadWorths" = some (.ref (He.ga K "BadWorths")) := He.glo_ok X G (c.fact 39 (f := .glo "BadWorths") rfl)
  have gBadPact : mg "BadPact" = some (.ref (He.ga K "BadPact")) := He.glo_ok X G (c.fact 40 (f := .glo "BadPact") rfl)
  have gLines : mg "Lines" = some (.ref (He.ga K "Lines")) := He.glo_ok X G (c.fact 41 (f := .glo "Lines") rfl)
  have W : Gw K mg (He.ga K "ANSWER_WORDS") := ⟨He.glo_ok X G (c.fact 42 (f := .glo "ANSWER_WORDS") rfl), ⟨fun H => He.tupB_ok (all_at e2 4 rfl) H, kdB_ok (all_at e2 5 rfl)⟩⟩
  have G400 : Mg mg := ⟨He.int_ok X G (c.fact 59 (f := .int "MOST_STATES" 400) rfl)⟩
  have ET : Er K mg "BadText" (He.ga K "BadText") (He.fAd K ("WireError", some "__init__")) := er_of X G gBadText eT e2
  have EW : Er K mg "BadWorths" (He.ga K "BadWorths") (He.fAd K ("WireError", some "__init__")) := er_of X G gBadWorths eW e2
  have EP : Er K mg "BadPact" (He.ga K "BadPact") (He.fAd K ("WireError", some "__init__")) := er_of X G gBadPact eP e2
  have G4 : ∃ t, mg "MOST_WORTHS" = some (.int 4 t) := He.int_ok X G (c.fact 60 (f := .int "MOST_WORTHS" 4) rfl)
  refine ⟨_, fun s v => FunD.bindsA (ps := ["_law_script"]) F36 (fun _ _ _ _ _ _ us hl => match us, hl with | [_], _ => rfl) s [v] rfl, fun base XB GB TB1 TB2 TB3 => ?_⟩
  have Gneed := ok_need (P := P) (w := w) (mg := mg) (base := base) CLs M41.F ET U37 b37
  have Gend := ok_need_end (P := P) (w := w) (mg := mg) (base := base) Bt0 CLs M42.F M41 ET U37 b37
  have Gwords := ok_words (P := P) (w := w) (mg := mg) (base := base) Bt0 CLs M39.F
  have Gstep := ok_step (P := P) (w := w) (mg := mg) (base := base) CLs M40.F
  have GLi := ok_Lines_init (P := P) (w := w) (mg := mg) (base := base) Bt0 CLs U38 ET U37 b37
  have Gerr := ok_err (P := P) (w := w) (mg := mg) (base := base) U37
  have Gnum := ok_number (P := P) (w := w) (mg := mg) (base := base) Bt0 D8
  have Gdoor := ok_is_door (P := P) (w := w) (mg := mg) (base := base) Bt0 D5 D4
  have Gisw := ok_is_worths (P := P) (w := w) (mg := mg) (base := base) Bt0 D2 D0
  have Gwo := ok_worths_of (P := P) (w := w) (mg := mg) (base := base) Bt0 D21 D8
  have Gas := ok_answers_of (P := P) (w := w) (mg := mg) (base := base) Bt0 W D22 D21 D23 D8
  have NO : EnO P w K mg base (He.ga K "Lines") (He.ga K "BadText") (He.ga K "ANSWER_WORDS") _ _ _ _ _ _ := ⟨Bt0, (He.free_ok X G (c.fact 57 (f := .free "sorted") rfl)), CLs, M41, Gneed, D22, Gas, D8, Gnum⟩
  have Gou := ok_read_outcomes NO T20.F TB2
  have NS : EnS P w K mg base (He.ga K "Lines") (He.ga K "BadText") (He.cT K ("read_state", none)).2 (He.cT K ("read_outcomes", none)).2 _ _ _ _ _ _ _ _ _ _ _ _ _ := ⟨Bt0, (He.free_ok X G (c.fact 57 (f := .free "sorted") rfl)), CLs, M39, Gwords, M40, Gstep, M41, Gneed, D5, Gdoor, D21, Gwo, T20, Gou⟩
  have Gst := ok_read_state NS T19.F TB1
  have Gtd := ok_states_told (P := P) (w := w) (mg := mg) (base := base) Bt0 G400 D18
  have NP : EnP P w K mg base (He.ga K "Lines") (He.ga K "BadText") (He.cT K ("read_state", none)).2 (He.cT K ("read_outcomes", none)).2 _ _ _ _ _ _ _ _ _ _ _ _ _ := ⟨Bt0, G400, CLs, KLines, gLines, b38, GLi, M39, Gwords, M40, Gstep, M42, Gend, D18, Gtd, T19, Gst⟩
  have Gpd := ok_pact_of_doors NP D17
  have Grp := ok_read_pact EW Gerr b37 D2 Gisw D17 Gpd D16
  have Grow := ok_is_row (P := P) (w := w) (mg := mg) (base := base) Bt0 (He.free_ok X G (c.fact 55 (f := .free "all") rfl)) D11 D6 D3 D1 D0 D5 D4 D12 D7
  have Gste := ok_is_state (P := P) (w := w) (mg := mg) (base := base) Bt0 (He.free_ok X G (c.fact 55 (f := .free "all") rfl)) D10 D11 Grow D7
  have Gisp := ok_is_pact (P := P) (w := w) (mg := mg) (base := base) Bt0 (He.free_ok X G (c.fact 55 (f := .free "all") rfl)) G400 EW Gerr b37 D2 Gisw D10 Gste D9
  have Gsho := ok_shown_outcomes (P := P) (w := w) Bt0 (He.free_ok X G (c.fact 57 (f := .free "sorted") rfl)) Bt0.m_abs W D15 T14.F TB3
  have Gshp := ok_show_pact Bt0 (He.free_ok X G (c.fact 58 (f := .free "enumerate") rfl)) G4 EP Gerr b37 D9 Gisp T14.g T14.F.kp b14 Gsho D13
  have Gwio := ok_wild_outcomes (P := P) (w := w) (mg := mg) (base := base) Bt0 (He.free_ok X G (c.fact 56 (f := .free "set") rfl)) D32 D30 D25 D27
  have Gwis := ok_wild_state (P := P) (w := w) (mg := mg) (base := base) Bt0 (He.free_ok X G (c.fact 56 (f := .free "set") rfl)) (He.free_ok X G (c.fact 57 (f := .free "sorted") rfl)) D33 D32 D25 D27 Gwio
  have Gwit := ok_wild_text (kS := 0) (P := P) (w := w) (mg := mg) (base := base) Bt0 (He.free_ok X G (c.fact 58 (f := .free "enumerate") rfl)) D34 D33 Gwis
  have Gright := ok_right (fTk := 0) Bt0 (He.free_ok X G (c.fact 55 (f := .free "all") rfl)) (He.free_ok X G (c.fact 58 (f := .free "enumerate") rfl)) (He.free_ok X G (c.fact 57 (f := .free "sorted") rfl)) D35 D25 D26 D31 D30 D29 D27 D28 D9 Gisp D13 Gshp D16 Grp D34 Gwit
  have Gbox := ok_box (P := P) (w := w) (mg := mg) (base := base) Bt0 D24
  exact ok_law Bt0 (He.free_ok X G (c.fact 55 (f := .free "all") rfl)) D24 Gbox D35 Gright D36.F
end
end K5
namespace K5
open PySem PySem.Spec PyProof.Rows L2
abbrev R5 : PySem.W.OpenRow := PySem.W.OpenLaw.row PySem.Challenge.rw_truestandins_k08_pacts_written_and_read
def namesL : List Str := (["_wall", "__name__", "WireError", "BadWorths", "BadText", "BadPact", "is_integer", "is_below", "is_worths", "is_answer", "is_name", "is_door"] : List Str) ++ (["is_tuple", "ascends", "Lines", "number", "MOST_STATES", "MOST_WORTHS", "is_pact", "is_state", "is_row", "is_outcome", "ANSWER_WORDS", "show_pact"] : List Str) ++ (["shown_outcomes", "shown_answer", "read_pact", "pact_of_doors", "states_told", "read_state", "read_outcomes", "worths_of", "answers_of", "answer_of"] : List Str) ++ (["_law_box", "_law_take", "_law_of", "_law_some", "_law_outcomes_of", "_law_pact", "_law_answer_word", "_law_pact_text", "_law_wild_outcomes", "_law_wild_state", "_law_wild_text", "_law_right"] : List Str)
abbrev hk5 : PySem.W.Hook := He.hookX 5 faL fnL [] tfL exB
def ob5 (s : PySem.W.SharedT) : He.AlX := He.obsX 5 faL fnL [] tfL exB (HandSHeadRun.getT s)
theorem ob5_eq (s : PySem.W.SharedT) : ob5 s = hk5.obs s.abs := He.obsX_eq (HandSHeadRun.getT_eq s)
theorem run5 (w : World) : HandSHeadRun.RunEq R5 (PySem.W.view R5.prog [51]) hk5 ob5 6000 namesL w := by
  intro os
  kernel_rfl
end K5
namespace K5
open PySem PySem.Spec PyProof.Rows L2
theorem walk5 {q : Program} {loose : List Str} {XP : (Str → Option Value) → Heap → Prop} {d : DefRec} (hn : (PySem.Challenge.rw_truestandins_k08_pacts_written_and_read).most = some 63) (hdf : d.params.defaults = []) (hname : d.name = ("law" : Str)) :
    PySem.W.WalkO q loose XP hk5.says (PySem.W.OpenLaw.row PySem.Challenge.rw_truestandins_k08_pacts_written_and_read).toRowW d [] (fun f vs => PySem.call f vs) := by
  refine Att.attach_callB hn hdf fun w s₀ st mg mb fa o pm cd doc a us ns G Y ho hd hcd hmg arg whole len bits gens => ?_
  obtain ⟨K, KX, c⟩ := Y
  rw [hname] at hmg
  have mem1 : (("read_state", none) : He.Defn) ∈ tfL := by simp
  have mem2 : (("read_outcomes", none) : He.Defn) ∈ tfL := by simp
  have mem3 : (("shown_outcomes", none) : He.Defn) ∈ tfL := by simp
  have all3 : ∀ p ∈ [He.cT K ("read_state", none), He.cT K ("read_outcomes", none), He.cT K ("shown_outcomes", none)], ∃ d ∈ tfL, p = He.cT K d := fun p hp => by
    rcases List.mem_cons.mp hp with e | hp
    · exact ⟨_, mem1, e⟩
    · rcases List.mem_cons.mp hp with e | hp
      · exact ⟨_, mem2, e⟩
      · exact ⟨_, mem3, List.mem_singleton.mp hp⟩
  have p12 : (He.cT K ("read_state", none)).2 ≠ (He.cT K ("read_outcomes", none)).2 := of_decide_eq_true (all_at c.more 6 rfl)
  have p31 : (He.cT K ("shown_outcomes", none)).2 ≠ (He.cT K ("read_state", none)).2 := of_decide_eq_true (all_at c.more 7 rfl)
  have p32 : (He.cT K ("shown_outcomes", none)).2 ≠ (He.cT K ("read_outcomes", none)).2 := of_decide_eq_true (all_at c.more 8 rfl)
  obtain ⟨fd, hb, hF⟩ := all_mk (P := (PySem.Challenge.rw_truestandins_k08_pacts_written_and_read).prog) (w := w) KX G.T.g hmg c.t.d c.more
  have in1 : He.cT K ("read_state", none) ∈ [He.cT K ("read_state", none), He.cT K ("read_outcomes", none), He.cT K ("shown_outcomes", none)] := List.mem_cons_self
  have in2 : He.cT K ("read_outcomes", none) ∈ [He.cT K ("read_state", none), He.cT K ("read_outcomes", none), He.cT K ("shown_outcomes", none)] := List.mem_cons_of_mem _ List.mem_cons_self
  have in3 : He.cT K ("shown_outcomes", none) ∈ [He.cT K ("read_state", none), He.cT K ("read_outcomes", none), He.cT K ("shown_outcomes", none)] := List.mem_cons_of_mem _ (List.mem_cons_of_mem _ (List.mem_singleton.mpr rfl))
  refine law_G (cs := [He.cT K ("read_state", none), He.cT K ("read_outcomes", none), He.cT K ("shown_outcomes", none)]) (x := "_law_script") (lv := 15) KX G.T.g G.T.b G.T.builtins G.T.nolimit gens (fun p hp => ?_) (fun p hp => ?_) (fun p hp => ?_) G.T.bmain arg whole (Nat.le_trans len (by decide)) ⟨rfl, by decide, by decide⟩ (fun base XB GB TB => hF base XB GB (TB _ in1) (TB _ in2) (TB _ in3)) hb (fun H hH hS => ?_) fun H e s2 z => ?_
  · obtain ⟨d, m, rfl⟩ := all3 p hp
    exact c.empty _ m
  · obtain ⟨d, m, rfl⟩ := all3 p hp
    exact c.out _ m
  · obtain ⟨d, m, rfl⟩ := all3 p hp
    exact PySem.W.codeHd_of_K KX (c.hd _ m)
  · have hT1 := hH _ in1
    have hT2 := hH _ in2
    have hT3 := hH _ in3
    have ne : ∀ T : Addr, H T = some (.tbl #[]) → K.lookup T = none → a ≠ T := fun T hT out e => by
      rw [e] at hS
      rcases hS with (h | ⟨u, h⟩) | ⟨u, its, m, lk, _⟩
      · rw [hT] at h
        cases h
      · rw [hT] at h
        cases h
      · rw [out] at lk
        cases lk
    exact ⟨a, ns, rfl, hS, ⟨⟨⟨#[], hT1, trivial⟩, ⟨#[], hT2, trivial⟩⟩, LamX.TabS.nil hT3, p31, p32, p12⟩, ne _ hT1 (c.out _ mem1), ne _ hT2 (c.out _ mem2), ne _ hT3 (c.out _ mem3), fun _ => rfl⟩
  · obtain ⟨_, _, _, _, _, _, _, _, _, _, _, _, z⟩ := z
    exact z.elim
end K5
open PySem PySem.W PySem.Calls PyProof.Rows
theorem PySem.Challenge.cw_truestandins_k08_pacts_written_and_read_holds : PySem.Challenge.rw_truestandins_k08_pacts_written_and_read.Holds := by
  w_on; o_law
  refine HandSHeadRun.head_any (r := K5.R5) (q := view K5.R5.prog [51]) (H := K5.hk5) (ob := K5.ob5) (M := 6000) (loose := K5.namesL) (d := HandSHeadRun.topDef K5.R5.prog 51) (kwd := []) K5.ob5_eq
    (by kernel_rfl) (fun s => by kernel_rfl) K5.run5 (by kernel_rfl) (by kernel_rfl) (by kernel_rfl) (by rfl) (by first | assumption | decide +kernel) (by decide +kernel) ⟨rfl, rfl, rfl, rfl, rfl, by decide +kernel⟩ ?hw ?hc
  case hw => w_witness2
  case hc => exact K5.walk5 rfl (by kernel_rfl) (by kernel_rfl)
