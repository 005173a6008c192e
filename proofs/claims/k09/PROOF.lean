import PyProof.Rows.All
import PyProof.GenCompT
import PyProof.TupleOfGen
import PyProof.CollectWalk
import PyProof.WalksPairs
import HandS.Dict
import HandS.GenOver
import HandS.Nested
import HandS.AnyAll
import Wide.All
import OpenK.AllK
import Wide.FinOn
import HandS.ForMost
import HandS.Wide
import HandS.Steps
import HandS.IsInst
import HandS.StrMore
import HandS.Flow
import HandS.ForExc
import HandS.ExcInit
import HandS.Text
import PyProof.StrLawsChain
import HandS.TupAny
import HandS.Strs
import HandS.Conv
import HandS.More
import HandS.Iter
import KE.SortData
import KE.KDictList
import HandS.FStr
import PyProof.StrLawsIn
import KE.IntTextText
import HandS.Style
import KE.KDictCopyH
import HandS.Walk
import KE.KExcIs
import HandS.ExcField
import HandS.ExcIs
import HandS.CallLocal
import KE.GoesEnum
import KE.GoesMore
import KE.KRevSl
import PyProof.StrLawsTight
import PyProof.Rows.StrCut
import HandS.DictSubView
import PyProof.DictWalks
import HandS.ListItems
import HandS.DictTup
import PyProof.EqAt
import HandS.RaiseMore
import PyProof.ReprRoads
import PyProof.Rows.RegFStrParts
import PyProof.ReprReads
import PyProof.StrBlock2
import HandS.TupMul
import HandS.HeadHook4
import HandS.HeadWalk
import HandS.Head2
import PySem.Challenge.RW_truestandins_k09_texts_that_are_no_pacts
set_option Elab.async false
set_option linter.all false
set_option maxRecDepth 100000
set_option maxHeartbeats 0
/-! generator expressions whose elements are new objects: what they hold stays known -/
namespace GH
open PySem
section
variable {prog : Program} {w : World} {A : Around}
/-- the walk under a generator expression: a thing is drawn, taken apart, bound -/
structure Turns (prog : Program) (w : World) (tgt : Expr) (cenv : Env) (I : Addr) (fp wr : List Addr) (n : Nat) (Bd : Nat → (Str → Option Value) → Prop) (St : Nat → Heap → Prop) : Prop where
  sub : ∀ b ∈ wr, b ∈ fp
  frame : ∀ i g g', St i g → (∀ b ∈ fp, ∀ o, g.get? b = some o → g'.get? b = some o) → St i g'
  there : ∀ i g, St i g → ∀ b ∈ wr, ∃ o, g.get? b = some o
  adv : ∀ (B : Around) (Z : Value → Shared → Prop) (i : Nat) (s : Shared) (m : Str → Option Value), B.handled = none → i < n → St i s.heap → s.heap.Ns cenv.locals m →
    wpAny (model prog w) B (pyNext (.ref I)) (fun ov s1 => ∃ v, ov = some v ∧ wpAny (model prog w) B (letOwnedTupleGo tgt (.ref I) v) (fun _ s2 => wpAny (model prog w) B (assign tgt cenv v) (fun _ s3 =>
      ∃ (g : Heap) (tk : Nat) (m2 : Str → Option Value), s3 = { s with heap := g, toks := tk } ∧ Bd i m2 ∧ g.Ns cenv.locals m2 ∧ St (i + 1) g ∧ ∀ b o, b ≠ cenv.locals → b ∉ wr → s.heap.get? b = some o → g.get? b = some o) Z s2) Z s1) Z s
  done : ∀ (B : Around) (s : Shared) (Q : Option Value → Shared → Prop) (Z : Value → Shared → Prop), B.handled = none → St n s.heap →
    (∀ g tk, (∀ b o, b ∉ wr → s.heap.get? b = some o → g.get? b = some o) → Q none { s with heap := g, toks := tk }) → wpAny (model prog w) B (pyNext (.ref I)) Q Z s
  self : ∀ (B : Around) (i : Nat) (s : Shared) (Q : Value → Shared → Prop) (Z : Value → Shared → Prop), B.handled = none → St i s.heap → Q (.ref I) s → wpAny (model prog w) B (pyIter (.ref I)) Q Z s
/-- an element: a new object of which R tells -/
def Elts (prog : Program) (w : World) (cenv : Env) (elt : Expr) (fp wr : List Addr) (n : Nat) (Bd : Nat → (Str → Option Value) → Prop) (R : Nat → Obj → Prop) (D U : Nat) (href : Heap) : Prop :=
  ∀ (B : Around) (Z : Value → Shared → Prop) (i : Nat) (s : Shared) (m : Str → Option Value), B.handled = none → B.depth ≤ D → B.units ≤ U → i < n → Bd i m → s.heap.Ns cenv.locals m → (∀ b ∈ fp, b ∉ wr → ∀ o, href.get? b = some o → s.heap.get? b = some o) →
    wpAny (model prog w) B (eval elt cenv) (fun y s1 => ∃ (a : Addr) (o : Obj), y = .ref a ∧ s.heap.get? a = none ∧ s1.heap.get? a = some o ∧ R i o ∧ Keeps s s1) Z s
def proto (C : Addr) (fp wr : List Addr) (n : Nat) (R : Nat → Obj → Prop) : Protocol := fun m s0 v s kap =>
  (∃ (i : Nat) (a : Addr) (o : Obj), i = n - 1 - m ∧ v = .ref a ∧ a ∉ C :: wr ∧ s0.heap.get? a = none ∧ s.heap.get? a = some o ∧ R i o) ∧ GenSince C wr s0 s ∧
    ∀ s' : Shared, (∀ b ∈ C :: fp, ∀ o, s.heap.get? b = some o → s'.heap.get? b = some o) → kap (.send .none) s'
theorem since_none {C a : Addr} {wr : List Addr} {s0 s : Shared} (x : GenSince C wr s0 s) (na : a ∉ C :: wr) (h : s.heap.get? a = none) : s0.heap.get? a = none := by
  obtain ⟨g, tk, rfl, k⟩ := x
  cases c : s0.heap.get? a with
  | none => rfl
  | some o =>
    have h2 : g.get? a = none := h
    rw [k a o (fun e => na (by rw [e]; exact List.mem_cons_self ..)) (fun e => na (List.mem_cons_of_mem _ e)) c] at h2
    cases h2
theorem loop {elt tgt iter : Expr} {scope : Scope} {pos : Pos} {I : Addr} {fp wr : List Addr} {n : Nat} {Bd : Nat → (Str → Option Value) → Prop} {St : Nat → Heap → Prop} {cenv : Env} {R : Nat → Obj → Prop} {href : Heap}
    (calm : A.handled = none) (T : Turns prog w tgt cenv I fp wr n Bd St) (co : cenv.scope.isCoroutine = false) (nf : cenv.locals ∉ fp) (hq : Elts prog w cenv elt fp wr n Bd R (A.depth + 1) (A.units + 3) href) :
    ∀ (k i : Nat) (s0 s : Shared) (m : Str → Option Value), n - i = k → i ≤ n → St i s.heap → s.heap.Ns cenv.locals m → GenSince cenv.locals wr s0 s → (∀ b ∈ fp, b ∉ wr → ∀ o, href.get? b = some o → s.heap.get? b = some o) →
      Seg (model prog w) A (fun j s0 r s1 => r = .ok .next ∧ (j = 0 ∧ GenSince cenv.locals wr s0 s1)) (proto cenv.locals fp wr n R) k s0
        (.compLoop (.GeneratorExp elt [⟨tgt, iter, [], 0⟩] scope pos) 0 (.ref I) .none cenv) ((model prog w).den (.compLoop (.GeneratorExp elt [⟨tgt, iter, [], 0⟩] scope pos) 0 (.ref I) .none cenv)) [] s := by
  have calm2 : (A.over (.compLoop (.GeneratorExp elt [⟨tgt, iter, [], 0⟩] scope pos) 0 (.ref I) .none cenv) []).handled = none := calm
  have dep2 : (A.over (.compLoop (.GeneratorExp elt [⟨tgt, iter, [], 0⟩] scope pos) 0 (.ref I) .none cenv) []).depth ≤ A.depth + 1 := Nat.le_of_eq rfl
  have uni2 : (A.over (.compLoop (.GeneratorExp elt [⟨tgt, iter, [], 0⟩] scope pos) 0 (.ref I) .none cenv) []).units ≤ A.units + 3 := Nat.le_of_eq rfl
  have nw : cenv.locals ∉ wr := fun e => nf (T.sub _ e)
  intro k
  induction k with
  | zero =>
    intro i s0 s m hk hi st ns since keep
    obtain rfl : i = n := by omega
    show Seg _ A _ _ _ s0 _ ((compTurn (.GeneratorExp elt [⟨tgt, iter, [], 0⟩] scope pos) 0 (.ref I) .none cenv).onRaise (leaving cenv)) [] s
    rw [compTurn_gen, Sem.onRaise_eq_wrap]
    refine seg_bind_wrap (wpAny_standAt (seg_bind_wrap (T.done _ s _ _ calm2 st fun g tk kp => ?_)))
    exact seg_end (.ok .next) ⟨rfl, rfl, since.step fun b o _ nb e => kp b o nb e⟩
  | succ k ih =>
    intro i s0 s m hk hi st ns since keep
    have lt : i < n := by omega
    show Seg _ A _ _ _ s0 _ ((compTurn (.GeneratorExp elt [⟨tgt, iter, [], 0⟩] scope pos) 0 (.ref I) .none cenv).onRaise (leaving cenv)) [] s
    rw [compTurn_gen, Sem.onRaise_eq_wrap]
    refine seg_bind_wrap (wpAny_standAt (seg_bind_wrap (wpAny_mono (T.adv _ _ i s m calm2 lt st ns) (fun ov s1 h1 => ?_) fun _ _ e => e)))
    obtain ⟨v, rfl, h1⟩ := h1
    refine seg_bind_wrap (wpAny_mono h1 (fun _ s2 h2 => ?_) fun _ _ e => e)
    refine seg_bind_wrap (wpAny_mono h2 (fun _ s3 h3 => ?_) fun _ _ e => e)
    obtain ⟨g, tk, m2, rfl, bd, ns2, st2, kp⟩ := h3
    have keep2 : ∀ b ∈ fp, b ∉ wr → ∀ o, href.get? b = some o → g.get? b = some o := fun b hb nb o e => kp b o (fun z => nf (z ▸ hb)) nb (keep b hb nb o e)
    have since2 : GenSince cenv.locals wr s0 { s with heap := g, toks := tk } := since.step kp
    refine seg_bind_wrap (wpAny_of_eq (a := true) rfl ?_)
    simp only [if_true]
    have yo : ∀ v, yieldOut cenv v = yieldValue v := fun v => by simp only [yieldOut, co, Bool.false_eq_true, if_false]
    simp only [yo]
    rw [Sem.bind_eq_wrap', Sem.bind_eq_wrap', Sem.wrap_wrap, Sem.wrap_wrap]
    refine seg_wrap (wpAny_mono (hq _ _ i _ m2 calm2 dep2 uni2 lt bd ns2 keep2) (fun y s4 h4 => ?_) fun _ _ e => e)
    obtain ⟨a, o, rfl, na, ho, ro, g4, tk4, rfl, kp4⟩ := h4
    have na' : g.get? a = none := na
    have nC : a ∉ cenv.locals :: wr := fun e => by
      rcases List.mem_cons.mp e with e | e
      · obtain ⟨_, _, _, q, _⟩ := ns2
        rw [← e, na'] at q
        cases q
      · obtain ⟨q, hq2⟩ := T.there _ _ st2 a e
        rw [na'] at hq2
        cases hq2
    refine seg_at (seg_yield rfl rfl rfl ⟨⟨i, a, o, by omega, rfl, nC, since_none since2 nC na', ho, ro⟩, since2.step fun b u _ _ e => kp4 b u e, fun s' al => ?_⟩)
    refine seg_again rfl (ih (i + 1) s' s' m2 (by omega) lt (T.frame _ _ _ st2 fun b hb u e => al b (List.mem_cons_of_mem _ hb) u (kp4 b u e)) ((ns2.keeps kp4).at' fun u e => al _ (List.mem_cons_self ..) u e) (GenSince.refl _ _ _) fun b hb nb u e => al b (List.mem_cons_of_mem _ hb) u (kp4 b u (keep2 b hb nb u e)))
theorem start {elt tgt iter : Expr} {scope : Scope} {pos : Pos} {I : Addr} {fp wr : List Addr} {n : Nat} {Bd : Nat → (Str → Option Value) → Prop} {St : Nat → Heap → Prop} {cenv : Env} {R : Nat → Obj → Prop} {href : Heap}
    (calm : A.handled = none) (T : Turns prog w tgt cenv I fp wr n Bd St) (co : cenv.scope.isCoroutine = false) (nf : cenv.locals ∉ fp) (hq : Elts prog w cenv elt fp wr n Bd R (A.depth + 1) (A.units + 3) href)
    {s0 s : Shared} {m : Str → Option Value} (st : St 0 s.heap) (ns : s.heap.Ns cenv.locals m) (since : GenSince cenv.locals wr s0 s) (keep : ∀ b ∈ fp, b ∉ wr → ∀ o, href.get? b = some o → s.heap.get? b = some o) :
    Seg (model prog w) A (fun j s0 r s1 => r = .ok .next ∧ (j = 0 ∧ GenSince cenv.locals wr s0 s1)) (proto cenv.locals fp wr n R) n s0
      (.compStart (.GeneratorExp elt [⟨tgt, iter, [], 0⟩] scope pos) 0 (.ref I) .none cenv) ((model prog w).den (.compStart (.GeneratorExp elt [⟨tgt, iter, [], 0⟩] scope pos) 0 (.ref I) .none cenv)) [] s := by
  have calm2 : (A.over (.compStart (.GeneratorExp elt [⟨tgt, iter, [], 0⟩] scope pos) 0 (.ref I) .none cenv) []).handled = none := calm
  have go := loop (iter := iter) (scope := scope) (pos := pos) calm T co nf hq n 0 s0 s m (Nat.sub_zero n) (Nat.zero_le n) st ns since keep
  show Seg _ A _ _ _ s0 _ ((compStart (.GeneratorExp elt [⟨tgt, iter, [], 0⟩] scope pos) 0 (.ref I) .none cenv).onRaise (leaving cenv)) [] s
  rw [compStart, Sem.onRaise_eq_wrap]
  show Seg _ A _ _ _ s0 _ ((ask >>= _).wrap _ _ _ _) [] s
  refine seg_bind_wrap (wpAny_askSetting ?_)
  split
  · exact seg_again rfl go
  · refine seg_bind_wrap (wpAny_rule ?_)
    show Seg _ A _ _ _ s0 _ ((standAt iter.pos >>= _).wrap _ _ _ _) [] s
    exact seg_bind_wrap (wpAny_standAt (seg_bind_wrap (T.self _ 0 s _ _ calm2 st (seg_again rfl go))))
end
end GH
namespace GH
open PySem
section
variable {prog : Program} {w : World} {A : Around} {Z : Value → Shared → Prop} {s : Shared} {a C : Addr} {g n : Nat} {fp wr : List Addr} {R : Nat → Obj → Prop}
/-- the generator at a has given j things -/
def At (prog : Program) (w : World) (A : Around) (a : Addr) (g : Nat) (C : Addr) (fp wr : List Addr) (n : Nat) (R : Nat → Obj → Prop) (j : Nat) (s : Shared) : Prop :=
  s.heap.IsGen a g ∧ s.heap.NoLimit ∧ ∃ gs, s.gens[g]? = some gs ∧ ∀ s' : Shared, (∀ b ∈ C :: fp, ∀ o, s.heap.get? b = some o → s'.heap.get? b = some o) →
    gs.Goes (model prog w) A.in1 (fun m s0 r s1 => r = .ok .next ∧ (m = 0 ∧ GenSince C wr s0 s1)) (proto C fp wr n R) (n - j) (.send .none) s'
/-- what does not change while it gives -/
structure Set (A : Around) (a C : Addr) (fp wr : List Addr) : Prop where
  calm : A.handled = none
  room : A.depth < recursionLimit
  ac : a ≠ C
  af : a ∉ fp
  sub : ∀ b ∈ wr, b ∈ fp
  cs : cStatics ∈ fp
  cc : cStatics ≠ C
  cw : cStatics ∉ wr
theorem At.frame {j : Nat} {h' : Heap} {tk : Nat} (st : At prog w A a g C fp wr n R j s) (k : ∀ b ∈ a :: C :: fp, ∀ o, s.heap.get? b = some o → h'.get? b = some o) (cs : cStatics ∈ fp) : At prog w A a g C fp wr n R j { s with heap := h', toks := tk } := by
  obtain ⟨⟨o, nm, qn, ho, r⟩, ⟨mc, q1, q2⟩, gs, hg, go⟩ := st
  exact ⟨⟨o, nm, qn, k a (List.mem_cons_self ..) o ho, r⟩, ⟨mc, q1.at' fun o e => k _ (List.mem_cons_of_mem _ (List.mem_cons_of_mem _ cs)) o e, q2⟩, gs, hg, fun s' al => go s' fun b hb o e => al b hb o (k b (List.mem_cons_of_mem _ hb) o e)⟩
theorem At.item {j : Nat} {Q : Option Value → Shared → Prop} (S : Set A a C fp wr) (lt : j < n) (st : At prog w A a g C fp wr n R j s)
    (h : ∀ (b : Addr) (o : Obj) (s' : Shared), b ∉ C :: wr → s.heap.get? b = none → s'.heap.get? b = some o → R j o → At prog w A a g C fp wr n R (j + 1) s' → Moved (C :: wr) (GenOnlyQ g) s s' → Q (some (.ref b)) s') :
    wpAny (model prog w) A (pyNext (.ref a)) Q Z s := by
  obtain ⟨ig, nl, gs, hg, go⟩ := st
  obtain ⟨m, hm⟩ : ∃ m, n - j = m + 1 := ⟨n - j - 1, by omega⟩
  rw [hm] at go
  refine wpAny_with_toks (Nat.le_refl s.toks) ?_
  refine wpAny_pyNext_genexpQ (P := fun m s0 s1 => m = 0 ∧ GenSince C wr s0 s1) S.calm nl S.room ig hg (go _ fun _ _ _ e => e) (fun v s1 gs' bare hv => ?_) (fun s1 hp _ _ => absurd hp.1 (Nat.succ_ne_zero m))
  obtain ⟨⟨i, b, o, hi, rfl, nb, n0, ho, ro⟩, ⟨h1, tk1, rfl, k1⟩, kap⟩ := hv
  obtain rfl : i = j := by omega
  have aw : a ∉ wr := fun e => S.af (S.sub a e)
  intro htk
  refine h b o _ nb n0 ho ro ⟨?_, ?_, gs', setGen_self (gs := .running) (setGen_self hg), fun s' al => ?_⟩ ⟨fun c u nc e => k1 c u (fun z => nc (z ▸ List.mem_cons_self ..)) (fun z => nc (List.mem_cons_of_mem _ z)) e, ?_, rfl, rfl, htk⟩
  · obtain ⟨u, nm, qn, hu, r⟩ := ig
    exact ⟨u, nm, qn, k1 a u S.ac aw hu, r⟩
  · obtain ⟨mc, q1, q2⟩ := nl
    exact ⟨mc, q1.at' fun u e => k1 cStatics u S.cc S.cw e, q2⟩
  · rw [show n - (i + 1) = m by omega]
    exact kap s' al
  · exact GenOnlyQ.of ((GenOnly.setGen s g .running).trans (GenOnly.setGen _ g gs')) (setGen_self (gs := .running) (setGen_self hg)) bare
theorem At.over {Q : Option Value → Shared → Prop} (S : Set A a C fp wr) (st : At prog w A a g C fp wr n R n s) (h : ∀ s', Moved (C :: wr) (GenOnlyQ g) s s' → Q none s') : wpAny (model prog w) A (pyNext (.ref a)) Q Z s := by
  obtain ⟨ig, nl, gs, hg, go⟩ := st
  rw [Nat.sub_self] at go
  refine wpAny_with_toks (Nat.le_refl s.toks) ?_
  refine wpAny_pyNext_genexpQ (P := fun m s0 s1 => m = 0 ∧ GenSince C wr s0 s1) S.calm nl S.room ig hg (go _ fun _ _ _ e => e) (fun v s1 gs' bare hv => ?_) (fun s1 hp h' k => ?_)
  · obtain ⟨_, _, kap⟩ := hv
    exact False.elim (kap s1 fun _ _ _ e => e)
  · obtain ⟨_, h1, tk1, rfl, k1⟩ := hp
    intro htk
    refine h _ ⟨fun c u nc e => k c u (k1 c u (fun z => nc (z ▸ List.mem_cons_self ..)) (fun z => nc (List.mem_cons_of_mem _ z)) e), ?_, rfl, rfl, htk⟩
    exact GenOnlyQ.of ((GenOnly.setGen s g .running).trans (GenOnly.setGen _ g .finished)) (setGen_self (gs := .running) (setGen_self hg)) rfl
/-- what has been given so far: new objects, each its own -/
def Got (h0 : Heap) (bad : List Addr) (R : Nat → Obj → Prop) (acc : Array Value) (i : Nat) (h : Heap) : Prop := acc.size = i ∧ acc.toList.Nodup ∧ ∀ j v, acc[j]? = some v → ∃ b o, v = .ref b ∧ b ∉ bad ∧ h0.get? b = none ∧ h.get? b = some o ∧ R j o
theorem Got.keep {h0 : Heap} {bad : List Addr} {acc : Array Value} {i : Nat} {h h' : Heap} (x : Got h0 bad R acc i h) (k : ∀ b o, b ∉ bad → h.get? b = some o → h'.get? b = some o) : Got h0 bad R acc i h' := ⟨x.1, x.2.1, fun j v e => by
  obtain ⟨b, o, e1, e2, e0, e3, e4⟩ := x.2.2 j v e
  exact ⟨b, o, e1, e2, e0, k b o e2 e3, e4⟩⟩
theorem Got.push {h0 : Heap} {bad : List Addr} {acc : Array Value} {i : Nat} {h h1 : Heap} {b : Addr} {o : Obj} (x : Got h0 bad R acc i h) (nb : b ∉ bad) (n1 : h1.get? b = none) (k0 : ∀ u, h0.get? b = some u → h1.get? b = some u) (k1 : Got h0 bad R acc i h1) (ho : h.get? b = some o) (r : R i o) : Got h0 bad R (acc.push (.ref b)) (i + 1) h := by
  refine ⟨by rw [Array.size_push, x.1], ?_, fun j v e => ?_⟩
  · rw [Array.toList_push]
    refine List.nodup_append.mpr ⟨x.2.1, List.nodup_cons.mpr ⟨List.not_mem_nil, List.nodup_nil⟩, fun u hu v hv e => ?_⟩
    rw [List.mem_singleton] at hv
    obtain ⟨j, hj⟩ := List.getElem?_of_mem hu
    rw [Array.getElem?_toList] at hj
    obtain ⟨b', o', e1, _, _, e3, _⟩ := k1.2.2 j u hj
    rw [e, hv] at e1
    injection e1 with e1
    rw [← e1, n1] at e3
    cases e3
  · rw [Array.getElem?_push] at e
    by_cases c : j = acc.size
    · rw [if_pos c] at e
      rw [← Option.some.inj e, c, x.1]
      refine ⟨b, o, rfl, nb, ?_, ho, r⟩
      cases c0 : h0.get? b with
      | none => rfl
      | some u =>
        rw [k0 u c0] at n1
        cases n1
    · rw [if_neg c] at e
      exact x.2.2 j v e
theorem extend {Y : Result → Shared → Prop} {h0 : Heap} (E : Set A.in1 a C fp wr) (few : n ≤ sizeLine) (S : Addr) (nS : S ∉ a :: C :: fp) (res : Value) :
    ∀ (k i : Nat) (s : Shared) (acc : Array Value) (c : Nat), n - i = k → i ≤ n → At prog w A.in1 a g C fp wr n R i s → s.heap.get? S = some { cls := .type "list", dict := none, data := .seq acc c, slots := #[] } → Got h0 (S :: C :: wr) R acc i s.heap → (∀ b u, b ∉ S :: C :: wr → h0.get? b = some u → s.heap.get? b = some u) →
      (∀ s' acc' c', Moved (S :: C :: wr) (GenOnlyQ g) s s' → s'.heap.get? S = some { cls := .type "list", dict := none, data := .seq acc' c', slots := #[] } → Got h0 (S :: C :: wr) R acc' n s'.heap → Y (.ok (.ret res)) s') →
      codeAny (model prog w) A (.builtin "list.extend.loop" ⟨[.ref S, .ref a, res], []⟩) Y s := by
  have nw : S ∉ C :: wr := fun e => nS (List.mem_cons_of_mem _ (by
    rcases List.mem_cons.mp e with e | e
    · rw [e]; exact List.mem_cons_self ..
    · exact List.mem_cons_of_mem _ (E.sub _ e)))
  have up : ∀ b ∈ C :: wr, b ∈ S :: C :: wr := fun b hb => List.mem_cons_of_mem _ hb
  have gt : ∀ x y z : Array GenState, GenOnlyQ g x y → GenOnlyQ g y z → GenOnlyQ g x z := fun _ _ _ p q => p.trans q
  intro k
  induction k with
  | zero =>
    intro i s acc c hk hi st hS got k0 go
    obtain rfl : i = n := by omega
    refine codeAny_builtin F.entry_extend_loop ?_
    rw [Around.under_plainId F.plain_extend_loop _]
    show wpAny _ A.in1 (pyNext (.ref a) >>= _) _ _ s
    refine wpAny_bind (st.over E fun s' mv => wpAny_pure (go s' acc c (mv.mono up) (mv.heap S _ nw hS) (got.keep fun b o nb e => mv.heap b o (fun z => nb (up b z)) e)))
  | succ k ih =>
    intro i s acc c hk hi st hS got k0 go
    refine codeAny_builtin F.entry_extend_loop ?_
    rw [Around.under_plainId F.plain_extend_loop _]
    show wpAny _ A.in1 (pyNext (.ref a) >>= _) _ _ s
    refine wpAny_bind (st.item E (by omega) fun b o s' nb n0 ho ro st' mv => ?_)
    have hS' := mv.heap S _ nw hS
    have bS : b ≠ S := fun e => by
      rw [e, hS] at n0
      cases n0
    have got' : Got h0 (S :: C :: wr) R acc i s'.heap := got.keep fun b o nb e => mv.heap b o (fun z => nb (up b z)) e
    have oth : ∀ (f : Obj → Obj) b' u, b' ≠ S → s'.heap.get? b' = some u → (s'.heap.update S f).get? b' = some u := fun f b' u nb' e => (Heap.get?_update_other _ _ (Ne.symm nb')).trans e
    show wpAny _ A.in1 (updateSeq S (·.push (.ref b)) >>= _) _ _ _
    refine wpAny_bind ?_
    refine wpAny_updateSeq hS' rfl (wpAny_pure ⟨plainId_quiet F.plain_extend_loop _, ih (i + 1) _ (acc.push (.ref b)) _ (by omega) (by omega) (At.frame (tk := s'.toks) st' (fun b' hb u e => oth _ b' u (fun z => nS (z ▸ hb)) e) E.cs) (Heap.get?_update_self _ hS' rfl) ?_ (fun b' u nb' e => oth _ b' u (fun z => nb' (z ▸ List.mem_cons_self ..)) (mv.heap b' u (fun z => nb' (up b' z)) (k0 b' u nb' e))) fun s'' acc' c' mv2 hS2 got2 => ?_⟩)
      (by rw [got.1]; omega) (by show (acc.push (.ref b)).size ≤ sizeLine + 1; rw [Array.size_push, got.1]; omega)
    · refine Got.keep (h := s'.heap) (got'.push (fun e => ?_) n0 (fun u e => k0 b u (fun e => ?_) e) got ho ro) fun b' u nb' e => oth _ b' u (fun z => nb' (z ▸ List.mem_cons_self ..)) e
      · rcases List.mem_cons.mp e with e | e
        · exact bS e
        · exact nb e
      · rcases List.mem_cons.mp e with e | e
        · exact bS e
        · exact nb e
    · exact go s'' acc' c' (Moved.trans gt ((mv.mono up).then_heap (Nat.le_refl _) fun b' u nb' e => oth _ b' u (fun z => nb' (z ▸ List.mem_cons_self ..)) e) mv2) hS2 got2
end
end GH
namespace GH
open PySem
section
variable {prog : Program} {w : World} {A : Around} {Z : Value → Shared → Prop} {s : Shared} {a C : Addr} {g n : Nat} {fp wr : List Addr} {R : Nat → Obj → Prop}
theorem At.gen {j : Nat} (st : At prog w A a g C fp wr n R j s) : s.TypeIs (.ref a) "generator" := st.1.typeIs
/-- list(g), as the built-ins take it -/
theorem gather {Q : List Value → Shared → Prop} (E : Set A.in1 a C fp wr) (st : At prog w A.in1 a g C fp wr n R 0 s) (low : ∀ b ∈ a :: C :: fp, b < s.heap.objs.size) (few : n ≤ sizeLine)
    (go : ∀ s' acc, Moved (C :: wr) (GenOnlyQ g) s s' → Got s.heap (C :: wr) R acc n s'.heap → Q acc.toList s') : wpAny (model prog w) A (collect (.ref a)) Q Z s := by
  have nS : s.heap.objs.size ∉ a :: C :: fp := fun e => Nat.lt_irrefl _ (low _ e)
  have nI : s.heap.objs.size ≠ a := fun e => nS (e ▸ List.mem_cons_self ..)
  have gt : ∀ x y z : Array GenState, GenOnlyQ g x y → GenOnlyQ g y z → GenOnlyQ g x z := fun _ _ _ p q => p.trans q
  rw [collect]
  refine wpAny_bind (wpAny_runValue (codeAny_builtin F.entry_proto_collect ?_))
  rw [Around.under_plainId F.plain_proto_collect _]
  show wpAny _ A.in1 (newList [] >>= fun l => again (.builtin "list.__iadd__" ⟨[l, .ref a], []⟩)) _ _ s
  refine wpAny_bind (wpAny_newObj_type (wpAny_pure ⟨plainId_quiet F.plain_list_iadd _, codeAny_builtin F.entry_list_iadd ?_⟩))
  rw [Around.under_plainId F.plain_list_iadd _]
  generalize hL : ({ cls := .type "list", data := .seq ([] : List Value).toArray } : Obj) = L
  have st1 : At prog w A.in1 a g C fp wr n R 0 { s with heap := s.heap.push L } := At.frame (tk := s.toks) st (fun b _ o e => Heap.get?_push_of_some _ e) E.cs
  have t1 := st1.gen
  show wpAny _ A.in1 (Builtin.List.listExtendWith (.ref s.heap.objs.size) (.ref a) (.ref s.heap.objs.size)) _ _ _
  rw [Builtin.List.listExtendWith]
  refine wpAny_bind (wpAny_typeOf t1 ?_)
  rw [if_neg (by
    rw [show Builtin.List.listSameRef (.ref s.heap.objs.size) (.ref a) = false by simp [Builtin.List.listSameRef, nI], show (Value.type "generator" == Value.type "list") = false by decide, show (Value.type "generator" == Value.type "tuple") = false by decide]
    decide)]
  refine wpAny_bind (wpAny_pyIter_gen st1.1 (wpAny_bind (wpAny_holding ?_)))
  rw [Builtin.List.listLengthHint]
  refine wpAny_bind (wpAny_specialOf t1 F.gen_no_len ?_)
  show wpAny _ A.in1 (specialOf (Value.ref a) (Str.ofString "__length_hint__") >>= _) _ _ _
  refine wpAny_bind (wpAny_specialOf t1 F.gen_no_hint (wpAny_pure ?_))
  show wpAny _ A.in1 (rule "list.extend.makes-room" >>= fun _ => Builtin.List.listTouch (.ref s.heap.objs.size) >>= fun _ =>
    again (.builtin "list.extend.loop" ⟨[.ref s.heap.objs.size, .ref a, .ref s.heap.objs.size], []⟩)) _ _ _
  have h1 : (s.heap.push L).get? s.heap.objs.size = some { cls := .type "list", dict := none, data := .seq #[] 0, slots := #[] } := by
    rw [← hL]
    exact Heap.get?_push_size _ rfl
  refine wpAny_bind (wpAny_rule (wpAny_bind ?_))
  show wpAny _ A.in1 (updateSeq s.heap.objs.size (·.push .none) >>= fun _ => updateSeq s.heap.objs.size (·.pop)) _ _ _
  refine wpAny_bind (wpAny_updateSeq h1 rfl ?_)
  have h2 := Heap.get?_update_self (Obj.mapSeq (·.push Value.none)) h1 rfl
  refine wpAny_updateSeq h2 rfl ?_
  have h3 := Heap.get?_update_self (Obj.mapSeq (·.pop)) h2 rfl
  generalize hg3 : ((s.heap.push L).update s.heap.objs.size (Obj.mapSeq (·.push Value.none))).update s.heap.objs.size (Obj.mapSeq (·.pop)) = g3 at h3 ⊢
  have oth : ∀ b o, b ≠ s.heap.objs.size → (s.heap.push L).get? b = some o → g3.get? b = some o := fun b o nb e => by
    rw [← hg3]
    exact (Heap.get?_update_other _ _ (Ne.symm nb)).trans ((Heap.get?_update_other _ _ (Ne.symm nb)).trans e)
  have st3 : At prog w A.in1 a g C fp wr n R 0 { s with heap := g3 } := At.frame (s := { s with heap := s.heap.push L }) (h' := g3) (tk := s.toks) st1 (fun b hb o e => oth b o (fun z => nS (z ▸ hb)) e) E.cs
  refine wpAny_pure ⟨plainId_quiet F.plain_extend_loop _, extend (h0 := s.heap) E few s.heap.objs.size nS _ n 0 _ _ _ rfl (Nat.zero_le _) st3 h3 ⟨rfl, List.nodup_nil, fun j v e => by cases e⟩ (fun b u nb e => oth b u (fun z => nb (z ▸ List.mem_cons_self ..)) (Heap.get?_push_of_some _ e)) fun s' acc c mv hS got => ?_⟩
  show wpAny _ A (load s.heap.objs.size >>= _) _ _ s'
  refine wpAny_bind (wpAny_load hS (wpAny_pure (go s' acc (Moved.drop_new (o := L) (tk := s.toks) (Moved.trans gt ((Moved.refl fun _ => .inl rfl).then_heap (Nat.le_refl _) fun b o nb e => ?_) mv) (Nat.le_refl _)) ⟨got.1, got.2.1, fun j v e => ?_⟩)))
  · exact oth b o (fun z => nb (z ▸ List.mem_cons_self ..)) e
  · obtain ⟨b, o, e1, e2, e0, e3, e4⟩ := got.2.2 j v e
    exact ⟨b, o, e1, fun z => e2 (List.mem_cons_of_mem _ z), e0, e3, e4⟩
theorem tuple_new {Q : Value → Shared → Prop} (E : Set A.in1.in1 a C fp wr) (st : At prog w A.in1.in1 a g C fp wr n R 0 s) (low : ∀ b ∈ a :: C :: fp, b < s.heap.objs.size) (few : n ≤ sizeLine)
    (go : ∀ s' acc, Moved (C :: wr) (GenOnlyQ g) s s' → Got s.heap (C :: wr) R acc n s'.heap → Q (.ref s'.heap.objs.size) { s' with heap := s'.heap.push { cls := .type "tuple", data := .seq acc } }) :
    codeAny (model prog w) A (.call (.builtin "tuple.__new__") ⟨[.type "tuple", .ref a], []⟩) (wants Q Z) s := by
  refine codeAny_of_tree ?_
  show wpAny _ A.in1 (checkBuiltinCall "tuple.__new__" ⟨[.type "tuple", .ref a], []⟩ >>= fun _ => again (.builtin "tuple.__new__" ⟨[.type "tuple", .ref a], []⟩)) _ _ s
  refine wpAny_bind (wpAny_of_eq (F.newCall_tuple_1 _) (wpAny_pure ⟨plainId_quiet F.plain_tuple_new _, codeAny_builtin F.entry_tuple_new ?_⟩))
  rw [Around.under_plainId F.plain_tuple_new _]
  have f1 := sub_tuple_self
  have f2 := init_tuple_lookup
  have f3 := madeHere_tuple
  have f4 := st.gen
  wp_walk using wpAny_typeOf f4, gather E st low few
  intro s' acc mv got
  show wpAny _ _ (Builtin.Tuple.tupleExact acc.toList.toArray >>= fun x => ret x) _ _ _
  rw [Builtin.Tuple.tupleExact]
  refine wpAny_bind (wpAny_newObj_type ?_ (by show acc.toList.toArray.size ≤ sizeLine; rw [Array.toArray_toList, got.1]; exact few))
  refine wpAny_pure ?_
  rw [Array.toArray_toList]
  exact go s' acc mv got
/-- tuple(g) -/
theorem call_tuple {Q : Value → Shared → Prop} (E : Set A.in1.in1.in1 a C fp wr) (st : At prog w A.in1.in1.in1 a g C fp wr n R 0 s) (low : ∀ b ∈ a :: C :: fp, b < s.heap.objs.size) (few : n ≤ sizeLine)
    (go : ∀ s' acc, Moved (C :: wr) (GenOnlyQ g) s s' → Got s.heap (C :: wr) R acc n s'.heap → Q (.ref s'.heap.objs.size) { s' with heap := s'.heap.push { cls := .type "tuple", data := .seq acc } }) :
    wpAny (model prog w) A (call (.type "tuple") [.ref a]) Q Z s := by
  refine callType_codes (Q₁ := fun y s1 => s1.TypeIs y "tuple" ∧ Q y s1) F.called_tuple (F.typeCall_tuple_1 _) F.entry_object_init (tuple_new (A := A.in1) E st low few fun s' acc k1 k2 => ⟨⟨_, Heap.get?_push_size _ rfl, rfl⟩, go s' acc k1 k2⟩) fun y s1 z => ?_
  exact ⟨z.1, F.args_object_init_2 y _, object_init_meets F.called_tuple.init.lookup F.called_tuple.made (by decide) prog w A.in1 _ s1 ⟨z.1, rfl, z.2⟩⟩
/-- the generator expression itself: what is made stands ready to give n new objects -/
theorem made {env : Env} {elt tgt iter : Expr} {scope : Scope} {cl : List (Str × Addr)} {pos : Pos} {Q : Value → Shared → Prop}
    (calm : A.handled = none) (hco : scope.isCoroutine = false) (hclos : closureFor scope env = pure cl) (hcell : ∀ y ∈ scope.names, y.2 ≠ .cell) (h0 : scope.names.lookup (".0" : Str) = some NameKind.local) (hkind : scope.kind = .function) (hroom : A.depth < recursionLimit)
    (h : wpAny (model prog w) A (eval iter env) (fun xv s1 => wpAny (model prog w) A (pyIter xv) (fun it s2 => s2.heap.NoLimit ∧
      wpAny (model prog w) A (genexprCode env pos (env.qual ++ "<genexpr>") scope) (fun code s3 => wpAny (model prog w) A (builtinsFor env.globals env.builtins) (fun bi s4 =>
        ∃ (I : Addr) (wr : List Addr) (n : Nat) (Bd : Nat → (Str → Option Value) → Prop) (St : Nat → Heap → Prop) (R : Nat → Obj → Prop), it = .ref I ∧ Turns prog w tgt (genEnv scope cl s4.heap.objs.size code bi env) I (List.range s4.heap.objs.size) wr n Bd St ∧ St 0 s4.heap ∧ s4.heap.NoLimit ∧ cStatics ∉ wr ∧
          (∀ href : Heap, (∀ b o, s4.heap.get? b = some o → href.get? b = some o) → Elts prog w (genEnv scope cl s4.heap.objs.size code bi env) elt (List.range s4.heap.objs.size) wr n Bd R (A.depth + 1) (A.units + 8) href) ∧
          (∀ a h5 tk gs, gs.bare = true → s4.heap.objs.size < a → h5.objs.size = a + 1 → (∀ b o, s4.heap.get? b = some o → h5.get? b = some o) → Set A.in1.in1.in1 a s4.heap.objs.size (List.range s4.heap.objs.size) wr →
            At prog w A.in1.in1.in1 a s4.gens.size s4.heap.objs.size (List.range s4.heap.objs.size) wr n R 0 { s4 with gens := s4.gens.push gs, toks := tk, heap := h5 } →
            Q (.ref a) { s4 with gens := s4.gens.push gs, toks := tk, heap := h5 })) Z s3) Z s2) Z s1) Z s)
    (hs : ∀ x, genFold iter env x = pure x) : wpAny (model prog w) A (eval (.GeneratorExp elt [⟨tgt, iter, [], 0⟩] scope pos) env) Q Z s := by
  refine wpAny_GeneratorExp_make hco hclos hcell h0 hkind hroom (wpAny_mono h (fun xv s1 h1 => wpAny_mono h1 (fun it s2 h2 => ⟨h2.1, wpAny_mono h2.2 (fun code s3 h3 => wpAny_mono h3 (fun bi s4 h4 => ?_) fun _ _ e => e) fun _ _ e => e⟩) fun _ _ e => e) fun _ _ e => e) hs
  obtain ⟨I, wr, n, Bd, St, R, rfl, T, st, nl, cw, hq, go⟩ := h4
  have clt : cStatics < s4.heap.objs.size := let ⟨_, hn, _⟩ := nl; hn.lt
  intro h' ns sb
  have sz : h'.objs.size = s4.heap.objs.size + 1 := by rw [sb.1, Heap.size_push]
  have keep : ∀ b o, s4.heap.get? b = some o → h'.get? b = some o := fun b o e => sb.extBut b o (Nat.ne_of_lt (Heap.lt_size e)) (Heap.get?_push_of_some _ e)
  generalize hgo : ({ cls := .type "generator", data := .fields #[.int s4.gens.size 0, .str "<genexpr>" (s4.toks + 1), .str (env.qual ++ "<genexpr>") (s4.toks + 1 + 1)] } : Obj) = go_
  have keep5 : ∀ b o, s4.heap.get? b = some o → (h'.push go_).get? b = some o := fun b o e => Heap.get?_push_of_some _ (keep b o e)
  have nC : s4.heap.objs.size ∉ List.range s4.heap.objs.size := fun e => Nat.lt_irrefl _ (List.mem_range.mp e)
  have E : Set A.in1.in1.in1 h'.objs.size s4.heap.objs.size (List.range s4.heap.objs.size) wr := ⟨calm, hroom, by rw [sz]; exact Nat.succ_ne_self _, fun e => by have := List.mem_range.mp e; omega, T.sub, List.mem_range.mpr clt, Nat.ne_of_lt clt, cw⟩
  refine go _ _ _ _ rfl (by omega) (by rw [Heap.size_push]) keep5 E ⟨?_, nl.keeps keep5, _, Array.getElem?_push_size .., fun s' al => ⟨rfl, ?_⟩⟩
  · rw [← hgo]
    exact ⟨_, _, _, Heap.get?_push_size _ rfl, rfl, rfl, rfl⟩
  · have q := start (A := A.in1.in1.in1.in1) (iter := iter) (scope := scope) (pos := pos) (elt := elt) (R := R) (href := s4.heap) (s0 := s') (s := s') (m := fun y => if y = ".0" then some (.ref I) else none) calm T (by simp [genEnv, hco]) nC (fun B Z i s m b1 b2 b3 => hq s4.heap (fun _ _ e => e) B Z i s m b1 b2 (Nat.le_trans b3 (by show A.units + 1 + 1 + 1 + 1 + 3 ≤ A.units + 8; omega)))
      (T.frame _ _ _ st fun b hb o e => al b (List.mem_cons_of_mem _ hb) o (keep5 b o e)) ((ns.push go_).at' fun o e => al _ (List.mem_cons_self ..) o e) (GenSince.refl _ _ _) (fun b hb _ o e => al b (List.mem_cons_of_mem _ hb) o (keep5 b o e))
    exact q
end
end GH
namespace GH
open PySem
section
variable {prog : Program} {w : World} {cenv : Env} {I ax : Addr} {fp : List Addr} {items : Array Value}
/-- for x in a list -/
theorem Turns.name {x : Str} {px : Pos} (hx : cenv.kindOf x = some .local) (hp : (cenv.scope.kind == .class || (cenv.scope.kind == .module && cenv.locals != cenv.globals)) = false) (hI : I ∈ fp) (ha : ax ∈ fp) (ne : ax ≠ I) (nf : cenv.locals ∉ fp) :
    Turns prog w (.Name x px) cenv I fp [I] items.size (fun i m => ∃ v, items[i]? = some v ∧ m x = some v) (fun i h => h.IsListIter I ax i ∧ h.IsList ax items) where
  sub := fun b hb => by
    rw [List.mem_singleton.mp hb]
    exact hI
  frame := fun i g g' st k => ⟨st.1.at fun o e => k I hI o e, st.2.at fun o e => k ax ha o e⟩
  there := fun i g st b hb => by
    rw [List.mem_singleton.mp hb]
    obtain ⟨o, ho, _⟩ := st.1
    exact ⟨o, ho⟩
  adv := fun B Z i s m calm lt st ns => by
    have nI : cenv.locals ≠ I := fun e => nf (e ▸ hI)
    have na : cenv.locals ≠ ax := fun e => nf (e ▸ ha)
    refine (Walks.list calm I ax ne items).item i s _ _ lt st fun v h1 tk1 hv st1 k1 => ⟨v, rfl, wpAny_of_eq (a := ()) rfl ?_⟩
    refine wpAny_assign_Name (wpAny_storeName_local hx (ns.at' fun o e => k1 _ o (fun z => nI (List.mem_singleton.mp z)) e) (fun h2 ns2 sb => ?_) hp)
    refine ⟨h2, _, _, rfl, ⟨v, hv, by simp⟩, ns2, ⟨st1.1.at fun o e => sb.extBut _ o nI.symm e, st1.2.at fun o e => sb.extBut _ o na.symm e⟩, fun b o nb nw e => sb.extBut b o nb (k1 b o nw e)⟩
  done := fun B s Q Z calm st go => (Walks.list calm I ax ne items).done s Q Z st go
  self := fun B i s Q Z calm st go => (Walks.list calm I ax ne items).self i s Q Z st go
/-- for x, y in a list of pairs -/
theorem Turns.pair {xa xb : Str} {pa pb pt : Pos} {kt : Nat} (hxa : cenv.kindOf xa = some .local) (hxb : cenv.kindOf xb = some .local) (ab : xa ≠ xb) (hp : (cenv.scope.kind == .class || (cenv.scope.kind == .module && cenv.locals != cenv.globals)) = false) (hI : I ∈ fp) (ha : ax ∈ fp) (ne : ax ≠ I) (nf : cenv.locals ∉ fp)
    (Ts : Nat → Addr) (va vb : Nat → Value) (hit : ∀ j, j < items.size → items[j]? = some (.ref (Ts j))) (hT : ∀ j, j < items.size → Ts j ≠ I ∧ Ts j ∈ fp) :
    Turns prog w (.Tuple [.Name xa pa, .Name xb pb] kt pt) cenv I fp [I] items.size (fun i m => m xa = some (va i) ∧ m xb = some (vb i)) (fun i h => h.IsListIter I ax i ∧ h.IsList ax items ∧ ∀ k, k < items.size → h.IsTuple (Ts k) #[va k, vb k]) where
  sub := fun b hb => by
    rw [List.mem_singleton.mp hb]
    exact hI
  frame := fun i g g' st k => ⟨st.1.at fun o e => k I hI o e, st.2.1.at fun o e => k ax ha o e, fun j lt => (st.2.2 j lt).at fun o e => k _ (hT j lt).2 o e⟩
  there := fun i g st b hb => by
    rw [List.mem_singleton.mp hb]
    obtain ⟨o, ho, _⟩ := st.1
    exact ⟨o, ho⟩
  adv := fun B Z i s m calm lt st ns => by
    have nI : cenv.locals ≠ I := fun e => nf (e ▸ hI)
    have na : cenv.locals ≠ ax := fun e => nf (e ▸ ha)
    have W := WalksU.listOfTuples (prog := prog) (w := w) calm I ax ne items Ts (fun j => #[va j, vb j]) hit fun j lt => (hT j lt).1
    refine W.item i s _ _ lt st fun T vals h1 tk1 hv tT mid k1 => ⟨.ref T, rfl, ?_⟩
    subst hv
    refine W.go _ _ _ i T _ _ _ mid fun h2 st2 k2 => ?_
    have tT2 : h2.IsTuple T #[va i, vb i] := by
      obtain ⟨o, e, r⟩ := tT
      exact ⟨o, k2 _ o (W.apart i T _ mid) e, r⟩
    refine wpAny_assign_Tuple calm tT2 rfl rfl fun h3 x3 => ?_
    have x3 : Heap.ExtBut h2.objs.size h2 h3 := x3
    have old : ∀ b o, h2.get? b = some o → h3.get? b = some o := fun b o e => x3 b o (Nat.ne_of_lt (Heap.lt_size e)) e
    have nI' : cenv.locals ∉ [I] := fun z => nI (List.mem_singleton.mp z)
    show wpAny _ _ (do holding [vb i] (assign (.Name xa pa) cenv (va i)); do holding [] (assign (.Name xb pb) cenv (vb i)); pure ()) _ _ _
    refine wpAny_bind (wpAny_holding (wpAny_assign_Name (wpAny_storeName_local hxa (ns.at' fun o e => old _ o (k2 _ o nI' (k1 _ o nI' e))) (fun h4 ns4 sb4 => ?_) hp)))
    have sb4 : Heap.SameBut cenv.locals h3 h4 := sb4
    refine wpAny_bind (wpAny_holding (wpAny_assign_Name (wpAny_storeName_local hxb ns4 (fun h5 ns5 sb5 => wpAny_pure ?_) hp)))
    have sb5 : Heap.SameBut cenv.locals h4 h5 := sb5
    have up : ∀ b o, b ≠ cenv.locals → h2.get? b = some o → h5.get? b = some o := fun b o nb e => sb5.extBut b o nb (sb4.extBut b o nb (old b o e))
    refine ⟨h5, _, _, rfl, ⟨by simp [ab], by simp⟩, ns5, ⟨st2.1.at fun o e => up _ o nI.symm e, st2.2.1.at fun o e => up _ o na.symm e, fun j lt => (st2.2.2 j lt).at fun o e => up _ o (fun z => nf (z ▸ (hT j lt).2)) e⟩, fun b o nb nw e => up b o nb (k2 b o nw (k1 b o nw e))⟩
  done := fun B s Q Z calm st go => (WalksU.listOfTuples (prog := prog) (w := w) calm I ax ne items Ts (fun j => #[va j, vb j]) hit fun j lt => (hT j lt).1).done s Q Z st go
  self := fun B i s Q Z calm st go => (WalksU.listOfTuples (prog := prog) (w := w) calm I ax ne items Ts (fun j => #[va j, vb j]) hit fun j lt => (hT j lt).1).self i s Q Z st go
end
end GH
namespace GL
open PySem PySem.Spec PyProof.Rows L2
section
variable {X : Cx} {pins : List (Addr × Obj)} {σ : L2.St} {H : Hp} {s sB : Shared} {A : Around} {Z : Value → Shared → Prop} {cenv : Env}
/-- a captured name is read -/
theorem ld_free {y : Str} {i : Nat} {v : V} {Q : Value → Shared → Prop} (I : Inv X pins σ H sB) (eh : sB.heap = s.heap) (hk : cenv.scope.kind = .function) (hl : (y, NameKind.free) ∈ cenv.scope.names) (hl2 : cenv.kindOf y = some .free)
    (hcl : cenv.cells = cloFrom X.env.cells cenv.scope.names []) (hfree : ∀ z ∈ cenv.scope.names, z.2 = .free → ∃ c, X.env.cells.lookup z.1 = some c) (hi : X.N[i]? = some y) (hσ : σ[i]? = some (some v)) (hX : X.env.scope.names.lookup y = some .cell)
    (nc : (y == ("__classdict__" : Str)) = false) (h : ∀ u, RelV v u → Q u s) : wpAny (model X.prog X.w) A (loadName cenv y) Q Z s := by
  obtain ⟨m, hn, hl'⟩ := I.loc
  obtain ⟨u, r, l⟩ := hl' i y v hi hσ (.inr (.inl hX))
  rcases l with ⟨z, _⟩ | ⟨_, c, hc, hcell⟩
  · have z' : X.env.scope.names.lookup y = some .local := z
    rw [hX] at z'
    cases z'
  · exact wpAny_loadName_free hk hl2 (by rw [hcl]; exact NdefX.clo_has hfree hl hc) (by rw [← eh]; exact hcell) (h u r) nc
/-- what an element is: a new tuple -/
def IsNew (vs : List V) (o : Obj) : Prop := ∃ us : List Value, Vals vs us ∧ o = { cls := .type "tuple", data := .seq us.toArray }
def NewT (vs : List V) (s : Shared) (y : Value) (s1 : Shared) : Prop := ∃ (a : Addr) (o : Obj), y = .ref a ∧ s.heap.get? a = none ∧ s1.heap.get? a = some o ∧ IsNew vs o ∧ Keeps s s1
theorem keeps_tk (s : Shared) (k : Nat) : Keeps s { s with toks := k } := ⟨s.heap, k, rfl, fun _ _ e => e⟩
/-- the tuple (x, d[x]) -/
theorem elt_pair {x d : Str} {p1 p2 p3 p4 p5 : Pos} {kt i : Nat} {k : Key} {v : V} {a : Addr} {kvs : List (Key × V)} {u0 : Value} {m : Str → Option Value} (I : Inv X pins σ H sB) (eh : sB.heap = s.heap)
    (hk : cenv.scope.kind = .function) (hx : cenv.kindOf x = some .local) (hl : (d, NameKind.free) ∈ cenv.scope.names) (hl2 : cenv.kindOf d = some .free)
    (hcl : cenv.cells = cloFrom X.env.cells cenv.scope.names []) (hfree : ∀ z ∈ cenv.scope.names, z.2 = .free → ∃ c, X.env.cells.lookup z.1 = some c) (hi : X.N[i]? = some d) (hσ : σ[i]? = some (some (.ref a))) (hX : X.env.scope.names.lookup d = some .cell)
    (nc : (d == ("__classdict__" : Str)) = false) (ndx : (x == ("__debug__" : Str)) = false) (ndd : (d == ("__debug__" : Str)) = false)
    (hd : H a = some (.dK kvs)) (hv : valV kvs k = some v) (ns : s.heap.Ns cenv.locals m) (mx : m x = some u0) (r0 : RelV (kV k) u0) :
    wpAny (model X.prog X.w) A (eval (.Tuple [.Name x p1, .Subscript (.Name d p2) (.Name x p3) p4] kt p5) cenv) (NewT [kV k, v] s) Z s := by
  refine wpAny_Tuple_spliced ?_
  show wpAny _ _ (spliced ((false, eval (.Name x p1) cenv) :: backTo p5 (starEach [.Subscript (.Name d p2) (.Name x p3) p4] cenv))) _ _ s
  refine Calls.spliced_cons (wpAny_Name (wpAny_loadName_local hk hx ns mx ?_) ndx)
  show wpAny _ _ (spliced ((false, eval (.Subscript (.Name d p2) (.Name x p3) p4) cenv) :: backTo p5 (starEach [] cenv))) _ _ s
  refine Calls.spliced_cons (subD_of PySem.F.slot_dict_getitem.lookup (fun _ _ => rfl) (wpAny_Name (ld_free I eh hk hl hl2 hcl hfree hi hσ hX nc fun u ru => ?_) ndd))
  obtain rfl : u = Value.ref a := ru
  refine wpAny_Name (wpAny_loadName_local hk hx ns mx ?_) ndx
  obtain ⟨z, lo, vs, rel, dd⟩ := dk_of I.hok hd
  rw [eh] at dd
  obtain ⟨w', hw, rw'⟩ := RelO.some_of (v := v) (o := valueAt vs k) (by rw [← hv]; exact rel.val k)
  refine ⟨dd.typeIs, wpAny_getItem_of (kV_is r0) dd.mapOf hw ?_⟩
  refine Calls.spliced_nil ⟨(by show 2 ≤ sizeLine; decide), _, _, rfl, Heap.get?_none_of_le (Nat.le_refl _), Heap.get?_push_size _ rfl, ⟨[u0, w'], .cons r0 (.cons rw' .nil), rfl⟩, ⟨_, s.toks + 1, rfl, fun b o e => Heap.get?_push_of_some _ e⟩⟩
/-- the tuple (x, y, d[x, y]) -/
theorem elt_triple {x y d : Str} {p1 p2 p3 p4 p5 p6 p7 p8 : Pos} {kt kt2 i : Nat} {k l : Key} {v : V} {a : Addr} {kvs : List (List Key × V)} {u0 u1 : Value} {m : Str → Option Value} (hu : A.units + 40 < cLine) (I : Inv X pins σ H sB) (eh : sB.heap = s.heap)
    (hk : cenv.scope.kind = .function) (hx : cenv.kindOf x = some .local) (hy : cenv.kindOf y = some .local) (hl : (d, NameKind.free) ∈ cenv.scope.names) (hl2 : cenv.kindOf d = some .free)
    (hcl : cenv.cells = cloFrom X.env.cells cenv.scope.names []) (hfree : ∀ z ∈ cenv.scope.names, z.2 = .free → ∃ c, X.env.cells.lookup z.1 = some c) (hi : X.N[i]? = some d) (hσ : σ[i]? = some (some (.ref a))) (hX : X.env.scope.names.lookup d = some .cell)
    (nc : (d == ("__classdict__" : Str)) = false) (ndx : (x == ("__debug__" : Str)) = false) (ndy : (y == ("__debug__" : Str)) = false) (ndd : (d == ("__debug__" : Str)) = false)
    (hd : H a = some (.dT kvs)) (hv : valV kvs [k, l] = some v) (ns : s.heap.Ns cenv.locals m) (mx : m x = some u0) (my : m y = some u1) (r0 : RelV (kV k) u0) (r1 : RelV (kV l) u1) :
    wpAny (model X.prog X.w) A (eval (.Tuple [.Name x p1, .Name y p2, .Subscript (.Name d p3) (.Tuple [.Name x p4, .Name y p5] kt2 p6) p7] kt p8) cenv) (NewT [kV k, kV l, v] s) Z s := by
  refine wpAny_Tuple_spliced ?_
  show wpAny _ _ (spliced ((false, eval (.Name x p1) cenv) :: backTo p8 (starEach [.Name y p2, .Subscript (.Name d p3) (.Tuple [.Name x p4, .Name y p5] kt2 p6) p7] cenv))) _ _ s
  refine Calls.spliced_cons (wpAny_Name (wpAny_loadName_local hk hx ns mx ?_) ndx)
  show wpAny _ _ (spliced ((false, eval (.Name y p2) cenv) :: backTo p8 (starEach [.Subscript (.Name d p3) (.Tuple [.Name x p4, .Name y p5] kt2 p6) p7] cenv))) _ _ s
  refine Calls.spliced_cons (wpAny_Name (wpAny_loadName_local hk hy ns my ?_) ndy)
  show wpAny _ _ (spliced ((false, eval (.Subscript (.Name d p3) (.Tuple [.Name x p4, .Name y p5] kt2 p6) p7) cenv) :: backTo p8 (starEach [] cenv))) _ _ s
  refine Calls.spliced_cons (subD_of PySem.F.slot_dict_getitem.lookup (fun _ _ => rfl) (wpAny_Name (ld_free I eh hk hl hl2 hcl hfree hi hσ hX nc fun u ru => ?_) ndd))
  obtain rfl : u = Value.ref a := ru
  refine wpAny_Tuple_spliced ?_
  show wpAny _ _ (spliced ((false, eval (.Name x p4) cenv) :: backTo p6 (starEach [.Name y p5] cenv))) _ _ s
  refine Calls.spliced_cons (wpAny_Name (wpAny_loadName_local hk hx ns mx ?_) ndx)
  show wpAny _ _ (spliced ((false, eval (.Name y p5) cenv) :: backTo p6 (starEach [] cenv))) _ _ s
  refine Calls.spliced_cons (wpAny_Name (wpAny_loadName_local hk hy ns my ?_) ndy)
  refine Calls.spliced_nil ⟨(by show 2 ≤ sizeLine; decide), ?_⟩
  have J : Inv X pins σ (upd H sB.heap.objs.size (.tup [kV k, kV l])) { sB with heap := sB.heap.push { cls := .type "tuple", data := .seq #[u0, u1] } } :=
    I.laid (t' := sB.toks) (fun c o e => Heap.get?_push_of_some _ e) (Nat.le_refl _) ⟨(by show 2 ≤ sizeLine; decide), [u0, u1], .cons r0 (.cons r1 .nil), IsTup.new _ _⟩
  have hd2 : upd H sB.heap.objs.size (.tup [kV k, kV l]) a = some (.dT kvs) := by
    rw [upd_ne (ne_of_none hd (I.hok.fresh (Nat.le_refl _)))]
    exact hd
  obtain ⟨z, lo, xs, rel, dd⟩ := dt_of J.hok hd2
  have dd : (sB.heap.push { cls := .type "tuple", data := .seq #[u0, u1] }).DictOfH (tupleKind (mixKind X.prog X.w)) a xs := dd
  have kk : (tupleKind (mixKind X.prog X.w)).is (sB.heap.push { cls := .type "tuple", data := .seq #[u0, u1] }) [k, l] sB.heap.objs.size := key_of (ks := [k, l]) J.hok upd_same
  obtain ⟨w', hw, rw'⟩ := RelO.some_of (v := v) (o := (atKey xs [k, l]).map (·.2)) (by rw [← hv]; exact rel.val [k, l])
  obtain ⟨p, hp, hp2⟩ := Option.map_eq_some_iff.mp hw
  rw [eh] at dd kk
  refine ⟨dd.typeIs, wpAny_getItem_heap (tupleKind_room_in1 (by omega)) kk dd hp ?_⟩
  rw [hp2]
  refine Calls.spliced_nil ⟨(by show 3 ≤ sizeLine; decide), _, _, rfl, ?_, Heap.get?_push_size _ rfl, ⟨[u0, u1, w'], .cons r0 (.cons r1 (.cons rw' .nil)), rfl⟩, ⟨_, _, rfl, fun b o e => Heap.get?_push_of_some _ (Heap.get?_push_of_some _ e)⟩⟩
  refine Heap.get?_none_of_le ?_
  rw [Heap.size_push]
  exact Nat.le_succ _
end
end GL
namespace GL
open PySem PySem.Spec PyProof.Rows L2
section
variable {X : Cx} {pins : List (Addr × Obj)} {σ : L2.St} {H : Hp} {s : Shared}
theorem there {P : Program} {w : World} {H : Hp} {h : Heap} {a : Addr} {o : HO} (x : ObjOk P w H h a o) : ∃ u, h.get? a = some u := by
  cases o with
  | lst xs => obtain ⟨_, _, _, _, e⟩ := x; exact ⟨_, e⟩
  | tup xs => obtain ⟨_, _, _, _, e, _⟩ := x; exact ⟨_, e⟩
  | dK kvs => obtain ⟨_, _, _, _, o, _, _, e, _⟩ := x; exact ⟨_, e⟩
  | dT kvs => obtain ⟨_, _, _, _, o, _, _, e, _⟩ := x; exact ⟨_, e⟩
  | set S n => obtain ⟨o, _, _, _, e, _⟩ := x; exact ⟨_, e⟩
  | ins C dx fs => obtain ⟨_, _, _, e, _⟩ := x; exact ⟨_, e⟩
  | own y => exact x
  | xd fs => obtain ⟨_, ⟨_, _, _, e, _⟩, _⟩ := x; exact ⟨_, e⟩
  | rng lo hi => obtain ⟨_, _, _, e⟩ := x; exact ⟨_, e⟩
  | frz ob u => obtain ⟨e, _⟩ := x; exact ⟨_, e⟩
  | tbl ps => exact ⟨_, show h.get? a = some _ from x⟩
  | met f y => exact ⟨_, show h.get? a = some _ from x⟩
  | ext φ => obtain ⟨_, e, _⟩ := x; exact e
/-- a heap in which all of H1 stands, the table at P grown -/
def Kp (X : Cx) (pins : List (Addr × Obj)) (σ : L2.St) (H1 : Hp) (P : Addr) (g : Heap) : Prop := ∃ (H2 : Hp) (sB : Shared), GxR.Tabbed P H1 H2 ∧ sB.heap = g ∧ Inv X pins σ H2 sB
/-- how the things of the list us become rows -/
def Prov (X : Cx) (pins : List (Addr × Obj)) (σ : L2.St) (P : Addr) (scope : Scope) (tgt elt : Expr) (us : List V) (rows : List (List V)) (H1 : Hp) : Prop :=
  ∀ (its : List Value) (yl I : Addr) (cenv : Env) (hC : Heap), Vals us its → cenv.scope = scope → cenv.cells = cloFrom X.env.cells scope.names [] → cenv.locals = hC.objs.size → I < hC.objs.size → yl < hC.objs.size → yl ≠ I → hC.IsListIter I yl 0 → hC.IsList yl its.toArray → H1 I = none → Kp X pins σ H1 P hC →
    ∃ (Bd : Nat → (Str → Option Value) → Prop) (St : Nat → Heap → Prop), GH.Turns X.prog X.w tgt cenv I (List.range hC.objs.size) [I] us.length Bd St ∧ St 0 hC ∧
      ∀ (B : Around) (Z : Value → Shared → Prop) (i : Nat) (s : Shared) (m : Str → Option Value), B.handled = none → B.units + 40 < cLine → i < us.length → Bd i m → s.heap.Ns cenv.locals m → Kp X pins σ H1 P s.heap → wpAny (model X.prog X.w) B (eval elt cenv) (NewT (rows.getD i []) s) Z s
/-- the generator stands ready -/
def ReadyN (X : Cx) (pins : List (Addr × Obj)) (σ : L2.St) (H1 : Hp) (P : Addr) (n : Nat) (rows : List (List V)) (a : Addr) (s5 : Shared) : Prop :=
  ∃ (g : Nat) (C I : Addr) (fp : List Addr) (sA : Shared), GH.Set X.A.in1.in1.in1 a C fp [I] ∧ GH.At X.prog X.w X.A.in1.in1.in1 a g C fp [I] n (fun i o => IsNew (rows.getD i []) o) 0 s5 ∧ (∀ b ∈ a :: C :: fp, b < s5.heap.objs.size) ∧
    Inv X pins σ H1 sA ∧ (∀ b, s5.heap.get? b = none → sA.heap.get? b = none) ∧ ∀ s', Moved [C, I] (GenOnlyQ g) s5 s' → ∃ H2, GxR.Tabbed P H1 H2 ∧ Inv X pins σ H2 s' ∧ ∀ b u, H2 b = some u → ∃ o, s5.heap.get? b = some o
theorem gen_new {c P : Addr} {elt tgt iter : Expr} {gpos : Pos} {scope : Scope} {te : TE} {k : Nat} {Z : Value → Shared → Prop} {Pr : L2.St → List V → List (List V) → Hp → Prop} {R : List V → List (List V) → Hp → Prop}
    (pr : ∀ us rows H1, Pr σ us rows H1 → GxR.TabG H1 P → Prov X pins σ P scope tgt elt us rows H1) (hr : Room k X.A) (TB : GxR.TabB X.base X.mg c P) (code1 : X.env.code = .ref c) (kind : scope.kind = .function) (co : scope.isCoroutine = false) (cell : ∀ y ∈ scope.names, y.2 ≠ .cell) (dot : scope.names.lookup (".0" : Str) = some NameKind.local)
    (free : ∀ y ∈ scope.names, y.2 = .free → ∃ c, X.env.cells.lookup y.1 = some c) (it : PE X iter te)
    (fold : ∀ v, genFold iter X.env v = pure v) (I : Inv X pins σ H s) (h : te σ H fun v H1 => ∃ (yl : Addr) (us : List V) (rows : List (List V)), v = .ref yl ∧ H1 yl = some (.lst us) ∧ us.length ≤ 100000 ∧ GxR.TabG H1 P ∧ Pr σ us rows H1 ∧ R us rows H1)
    (go : ∀ us rows H1 a s5, us.length ≤ 100000 → R us rows H1 → ReadyN X pins σ H1 P us.length rows a s5 → Z (.ref a) s5) :
    wpAny (model X.prog X.w) X.A (eval (.GeneratorExp elt [⟨tgt, iter, [], 0⟩] scope gpos) X.env) Z X.xe s := by
  refine GH.made hr.hd co (closure_ok free) cell dot kind (by have := hr.dp; omega) ?_ fold
  refine thn (it.run pins s σ H _ I h) fun xv sA ⟨v, H1, IA, r1, q1⟩ => ?_
  obtain ⟨yl, us, rows, rfl, hy, few, ⟨tb0, hP, ht⟩, prov, q1⟩ := q1
  have prov := pr us rows H1 prov ⟨tb0, hP, ht⟩
  obtain rfl : xv = Value.ref yl := r1
  obtain ⟨its, rv, pl, hz⟩ := IA.list (SqL.of hy)
  have pl := pl.isList
  have ylt : yl < sA.heap.objs.size := let ⟨_, e, _⟩ := pl; Heap.lt_size e
  have lits : us.length = its.length := rv.length
  refine wpAny_pyIter_list pl ?_
  generalize ho : ({ cls := .type "list_iterator", data := .fields #[.ref yl, .int 0 0] } : Obj) = o
  have itr : (sA.heap.push o).IsListIter sA.heap.objs.size yl 0 := by
    subst ho
    exact ⟨_, Heap.get?_push_size _ rfl, rfl, rfl⟩
  have tabS : sA.heap.get? P = some { cls := .none, data := .fields tb0 } := IA.hok P _ hP
  have Plt : P < sA.heap.objs.size := Heap.lt_size tabS
  have tabS2 : (sA.heap.push o).get? P = some { cls := .none, data := .fields tb0 } := Heap.get?_push_of_some _ tabS
  have cdh : PySem.W.CodeHd (sA.heap.push o) c P := TB.code.keeps fun b u e => Heap.get?_push_of_some _ (IA.bk b u e)
  have limA : (sA.heap.push o).NoLimit := IA.nolimit.push o
  refine ⟨limA, ?_⟩
  have goOn : ∀ (code : Value) (hC : Heap) (tk : Nat) (tb1 : Array Value), Heap.ExtBut P (sA.heap.push o) hC → (sA.heap.push o).objs.size ≤ hC.objs.size → hC.get? P = some { cls := .none, data := .fields tb1 } → (∃ more, tb1 = tb0 ++ more) → TriplesOk tb1.toList →
      wpAny (model X.prog X.w) X.A (builtinsFor X.env.globals X.env.builtins) (fun bi s4 =>
        ∃ (I : Addr) (wr : List Addr) (n : Nat) (Bd : Nat → (Str → Option Value) → Prop) (St : Nat → Heap → Prop) (R : Nat → Obj → Prop), Value.ref sA.heap.objs.size = .ref I ∧ GH.Turns X.prog X.w tgt (genEnv scope (cloFrom X.env.cells scope.names []) s4.heap.objs.size code bi X.env) I (List.range s4.heap.objs.size) wr n Bd St ∧ St 0 s4.heap ∧ s4.heap.NoLimit ∧ cStatics ∉ wr ∧
          (∀ href : Heap, (∀ b o, s4.heap.get? b = some o → href.get? b = some o) → GH.Elts X.prog X.w (genEnv scope (cloFrom X.env.cells scope.names []) s4.heap.objs.size code bi X.env) elt (List.range s4.heap.objs.size) wr n Bd R (X.A.depth + 1) (X.A.units + 8) href) ∧
          (∀ a h5 tk gs, gs.bare = true → s4.heap.objs.size < a → h5.objs.size = a + 1 → (∀ b o, s4.heap.get? b = some o → h5.get? b = some o) → GH.Set X.A.in1.in1.in1 a s4.heap.objs.size (List.range s4.heap.objs.size) wr →
            GH.At X.prog X.w X.A.in1.in1.in1 a s4.gens.size s4.heap.objs.size (List.range s4.heap.objs.size) wr n R 0 { s4 with gens := s4.gens.push gs, toks := tk, heap := h5 } →
            Z (.ref a) { s4 with gens := s4.gens.push gs, toks := tk, heap := h5 })) X.xe { sA with heap := hC, toks := tk } := by
    intro code hC tk tb1 hx hsz tabC moreP triC
    obtain ⟨more, eM⟩ := moreP
    obtain ⟨mm, mo, e1, e2, e3, q4, q5, e6, e7, e8⟩ := TB.bm
    have nP : cStatics ≠ P := fun e => by
      obtain ⟨_, nsx, _⟩ := IA.nolimit
      obtain ⟨o', es, ep, ho, hd, _⟩ := nsx
      rw [e, tabS] at ho
      cases ho
      cases hd
    have stl : cStatics < sA.heap.objs.size := let ⟨_, nsx, _⟩ := IA.nolimit; nsx.lt
    have szA : (sA.heap.push o).objs.size = sA.heap.objs.size + 1 := Heap.size_push ..
    have kC : ∀ b u, b ≠ P → sA.heap.get? b = some u → hC.get? b = some u := fun b u inb e => hx b u inb (Heap.get?_push_of_some _ e)
    have mkI : ∀ (h' : Heap) (g' : Array GenState) (d' : Drawn) (t' : Nat), AllBare g' → (∀ b u, b ≠ P → sA.heap.get? b = some u → h'.get? b = some u) → h'.get? P = some { cls := .none, data := .fields tb1 } →
        GxR.Tabbed P H1 (upd H1 P (.tbl (tb0 ++ more))) ∧ Inv X pins σ (upd H1 P (.tbl (tb0 ++ more))) { sA with heap := h', gens := g', drawn := d', toks := t' } := fun h' g' d' t' bg k1 k2 =>
      ⟨⟨⟨tb0 ++ more, upd_same, by rw [← eM]; exact triC⟩, fun b nb => upd_ne nb⟩, GxR.inv_tab (more := more) IA hP k1 (by rw [← eM]; exact k2) bg⟩
    have kpOf : ∀ g : Heap, (∀ b u, b ≠ P → sA.heap.get? b = some u → g.get? b = some u) → g.get? P = some { cls := .none, data := .fields tb1 } → Kp X pins σ H1 P g := fun g k1 k2 => by
      obtain ⟨z1, z2⟩ := mkI g sA.gens sA.drawn sA.toks IA.bare k1 k2
      exact ⟨_, _, z1, rfl, z2⟩
    refine wpAny_builtinsFor (m := X.mg) (by rw [IA.ok.glob]; exact ((IA.mod.glob.keeps IA.bk).push o).extBut hx TB.gP) e1 e2 (kC _ _ q4 (IA.bk _ _ q5)) e6 e7 e8 ?_
    have nyP : yl ≠ P := fun e => by
      rw [e, hP] at hy
      cases hy
    have itr3 : hC.IsListIter sA.heap.objs.size yl 0 := itr.at fun u e => hx _ u (Nat.ne_of_gt Plt) e
    have pl3 : hC.IsList yl its.toArray := pl.at fun u e => kC _ u nyP e
    have Ilt : sA.heap.objs.size < hC.objs.size := by omega
    obtain ⟨Bd, St, T, st0, el⟩ := prov its yl sA.heap.objs.size (genEnv scope (cloFrom X.env.cells scope.names []) hC.objs.size code builtinsNs X.env) hC rv rfl rfl rfl Ilt (Nat.lt_trans ylt Ilt) (Nat.ne_of_lt ylt) itr3 pl3 (IA.hok.fresh (Nat.le_refl _)) (kpOf hC kC tabC)
    refine ⟨sA.heap.objs.size, [sA.heap.objs.size], us.length, Bd, St, fun i o => IsNew (rows.getD i []) o, rfl, T, st0, limA.extBut hx nP, fun z => Nat.ne_of_lt stl (List.mem_singleton.mp z), fun href kh => ?_, fun g hD tkD gN bareG ltG szD kpD E atG => ?_⟩
    · intro B Zb i sS m calm _ unit lt bd ns al
      have inr : ∀ b, b < hC.objs.size → b ∈ List.range hC.objs.size := fun b z => List.mem_range.mpr z
      have al2 : ∀ b u, b ≠ sA.heap.objs.size → hC.get? b = some u → sS.heap.get? b = some u := fun b u nb e => al b (inr b (Heap.lt_size e)) (fun z => nb (List.mem_singleton.mp z)) u (kh b u e)
      refine el B Zb i sS m calm (by have := hr.un; omega) lt bd ns (kpOf sS.heap (fun b u nb e => al2 b u (Nat.ne_of_lt (Heap.lt_size e)) (kC b u nb e)) (al2 P _ (Nat.ne_of_lt Plt) tabC))
    · refine go us rows H1 g _ few q1 ⟨_, _, _, _, sA, E, atG, fun b hb => ?_, IA, fun b e => ?_, fun s' mv => ?_⟩
      · show b < hD.objs.size
        have y8 : hC.objs.size < g := ltG
        have y5 : hD.objs.size = g + 1 := szD
        rw [y5]
        rcases List.mem_cons.mp hb with z | z
        · rw [z]
          exact Nat.lt_succ_self g
        · rcases List.mem_cons.mp z with z | z
          · rw [z]
            exact Nat.lt_succ_of_lt y8
          · have y7 : b < hC.objs.size := List.mem_range.mp z
            exact Nat.lt_succ_of_lt (Nat.lt_trans y7 y8)
      · have e : hD.get? b = none := e
        cases q : sA.heap.get? b with
        | none => rfl
        | some u =>
          by_cases nb : b = P
          · rw [nb] at e
            rw [kpD P _ tabC] at e
            cases e
          · rw [kpD b u (kC b u nb q)] at e
            cases e
      · have nowr : ∀ b u, sA.heap.get? b = some u → b ∉ hC.objs.size :: [sA.heap.objs.size] := fun b u e inb => by
          have hl := Heap.lt_size e
          rcases List.mem_cons.mp inb with z | z
          · rw [z] at hl
            exact Nat.lt_irrefl _ (Nat.lt_trans hl Ilt)
          · rcases List.mem_cons.mp z with z | z
            · rw [z] at hl
              exact Nat.lt_irrefl _ hl
            · cases z
        obtain ⟨z1, z2⟩ := mkI s'.heap s'.gens s'.drawn s'.toks (AllBare.movedS (IA.bare.push bareG) mv) (fun b u nb e => mv.heap b u (nowr b u e) (kpD b u (kC b u nb e))) (mv.heap P _ (nowr P _ tabS) (kpD P _ tabC))
        rw [GxR.sh_eta sA s' mv.os] at z2
        refine ⟨_, z1, z2, fun b u e => ?_⟩
        by_cases nb : b = P
        · rw [nb]
          exact ⟨_, kpD P _ tabC⟩
        · rw [z1.2 b nb] at e
          obtain ⟨o2, h2⟩ := there (IA.hok b u e)
          exact ⟨o2, kpD b _ (kC b _ nb h2)⟩
  cases hf : codeAmong gpos tb0.toList with
  | none =>
    refine wpAny_genexprCodeX code1 (cdh.code tabS2 ht) (cdh.tab tabS2) hf fun c' h' tk hx hge hlt cob _ ctab _ => ?_
    obtain ⟨o1, vs, f1, tf, fl, tg, inq, tx, tt, op, _, _, _, _, _, _, _, _, _, trp, _⟩ := cob
    exact goOn _ h' tk _ hx (Nat.le_trans hge (Nat.le_of_lt hlt)) ctab.2 ⟨_, rfl⟩ trp
  | some cv =>
    refine wpAny_genexprCode_hit code1 (cdh.code tabS2 ht) hf ?_
    exact goOn cv (sA.heap.push o) sA.toks tb0 (Heap.ExtBut.refl _ _) (Nat.le_refl _) tabS2 ⟨#[], by simp⟩ ht
end
end GL
namespace K5
open PySem PySem.Spec PyProof.Rows L2
def topS (i : Nat) : Stmt := PySem.Challenge.pw_truestandins_k09_texts_that_are_no_pacts.main.body.getD (i + 1) (.Pass ⟨0, 0, 0, 0⟩)
/-! ### values that leave the heap as it is -/
section
variable {X : Cx} {K : PySem.W.Frag} {σ : L2.St} {H : Hp} {ta tb : TE} {i j : Int} {p : Addr} {xs : List V} {v : V}
theorem val_ixL (ha : Val ta σ H (.ref p)) (hb : Val tb σ H (.int i)) (hS : SqL K H p xs) (h : atI xs i = some v) : Val (tOp (rIxL K) ta tb) σ H v :=
  val_op ha hb fun Q q => ⟨p, xs, i, v, rfl, rfl, hS, h, q⟩
theorem val_i0 {g : Int → Int → Int} (ha : Val ta σ H (.int i)) (hb : Val tb σ H (.int j)) : Val (tOp (rI0 fun i j => .int (g i j)) ta tb) σ H (.int (g i j)) :=
  val_op ha hb fun Q q => ⟨i, j, rfl, rfl, q⟩
theorem val_iC {C : Int → Int → Prop} {g : Int → Int → Int} (ha : Val ta σ H (.int i)) (hb : Val tb σ H (.int j)) (hc : C i j) : Val (tOp (rI C fun i j => .int (g i j)) ta tb) σ H (.int (g i j)) :=
  val_op ha hb fun Q q => ⟨i, j, rfl, rfl, hc, q⟩
def rInt1 : List V → Hp → VK → Prop := fun xs H Q => (∃ i, xs = [.int i] ∧ Q (.int i) H) ∨ ∃ k, xs = [.bl k] ∧ Q (.int (if k then 1 else 0)) H
theorem pe_toInt {e : Expr} {te : TE} {p pos : Pos} (hg : Gl X "int") (hm : X.mg "int" = none) (h : PE X e te)
    (he : starEach (e :: []) X.env = (false, eval e X.env) :: starEach [] X.env := by rfl) (hpl : (backTo pos (starEach [] X.env)).any (·.1) = false := by rfl) : PE X (.Call (.Name "int" p) [e] [] pos) (tCB rInt1 (tCons te tNil)) :=
  pe_callTy call_int1 hg hm PyProof.Rows.boot_int (pa_cons h pa_nil he) (he := he) (hpl := hpl)
theorem val_toInt (h : Val ta σ H (.int i)) : Val (tCB rInt1 (tCons ta tNil)) σ H (.int i) := fun Q q => h _ (.inl ⟨i, rfl, q⟩)
theorem val_toIntB {b : Bool} (h : Val ta σ H (.bl b)) : Val (tCB rInt1 (tCons ta tNil)) σ H (.int (if b then 1 else 0)) := fun Q q => h _ (.inr ⟨b, rfl, q⟩)
end
/-! ### the box of draws -/
def bx (p q n : Int) : List V := [.int p, .int q, .int n]
structure Box (p q n : Int) : Prop where
  p0 : 0 ≤ p
  q0 : 0 ≤ q
  q1 : q < 2305843009213693921
  n0 : 0 ≤ n
  n1 : n ≤ 1000000
abbrev sTake : Stmt := topS 25
theorem scTake : FnScope ["_law_box_here", "_law_many", "_law_digit", "_law_big"] ["_law_box_here", "_law_many"] (defScope sTake) := ⟨rfl, rfl, rfl, by decide +kernel, rfl, by decide +kernel, by decide +kernel⟩
/-- a draw: the box goes on, at most one more is counted -/
def spTake : Sp := fun vs H Q _ => ∃ (b : Addr) (m p q n : Int), vs = [.ref b, .int m] ∧ H b = some (.lst (bx p q n)) ∧ Box p q n ∧ n < 1000000 ∧ 0 < m ∧ m < 1000000 ∧
  ∀ d p' n' : Int, 0 ≤ d → d < m → Box p' q n' → n' ≤ n + 1 → Q (.int d) (upd H b (.lst (bx p' q n')))
section
variable {P : Program} {w : World} {K : PySem.W.Frag} {mg : Str → Option Value} {base : Heap}
theorem ok_take {f : Addr} {fd : FuncData} {CX : CXT} (F : Fun K "_law_take" "_law_take" sTake f fd) (mI : mg "int" = none) : FnOk P w K mg base CX0 1 f fd ["_law_box_here", "_law_many"] spTake := by
  refine F.ok scTake (fun vs H Q E h => ?_) (fun cdv A outer s H vs Q E hr h => ?_)
  · obtain ⟨b, m, p, q, n, rfl, _⟩ := h
    rfl
  · obtain ⟨b, m, p, q, n, rfl, hb, B, hn, m0, m1, k⟩ := h
    refine ⟨_, pss_cons (ps_if (pt_cmpR op_gt (pe_ix ix_list (pv 0) pe_int (fun _ _ => rfl)) pe_int (nomark _))
        (pss_cons (ps_set (i := 2) scTake.nd rfl (.inl rfl) (pe_op op_mod (pe_toInt (by rfl) mI (pe_ix ix_list (pv 0) pe_int (fun _ _ => rfl))) (pv 1)))
        (pss_cons (ps_asg (pe_op op_fdiv (pe_ix ix_list (pv 0) pe_int (fun _ _ => rfl)) (pv 1)) (pg_sub (pv 0) pe_int set_list))
        (pss_one (ps_ret (pv 2))))) pss_nil)
      (pss_cons (ps_asg (pe_op op_add (pe_ix ix_list (pv 0) pe_int (fun _ _ => rfl)) pe_int) (pg_sub (pv 0) pe_int set_list))
      (pss_cons (ps_set (i := 3) scTake.nd rfl (.inl rfl) (pe_op op_mod (pe_toInt (by rfl) mI (pe_op op_mul (pe_op op_add (pe_op op_add (pe_ix ix_list (pv 0) pe_int (fun _ _ => rfl)) (pe_op op_mul (pe_op op_mul pe_int (pe_ix ix_list (pv 0) pe_int (fun _ _ => rfl))) (pe_ix ix_list (pv 0) pe_int (fun _ _ => rfl)))) pe_int) pe_int)) pe_int))
      (pss_cons (ps_set (i := 3) scTake.nd rfl (.inl rfl) (pe_op op_mod (pe_toInt (by rfl) mI (pe_op op_mul (pv 3) (pe_op op_add (pe_op op_mod (pe_toInt (by rfl) mI (pv 3)) pe_int) (pe_op op_mul pe_int (pe_ix ix_list (pv 0) pe_int (fun _ _ => rfl)))))) pe_int))
      (pss_one (ps_ret (pe_op op_mod (pe_toInt (by rfl) mI (pe_op op_add (pe_op op_fdiv (pv 3) pe_int) (pe_op op_fdiv (pv 3) pe_int))) (pv 1))))))), ?_⟩
    have hS : SqL K H b (bx p q n) := SqL.of hb
    refine (val_ixL (val_var rfl) val_c hS (atI_nat (j := 0) rfl)) _ ?_
    refine ⟨_, _, rfl, rfl, _, rfl, ite2 (fun e => ?_) (fun e => ?_)⟩
    · refine (val_iC (val_toInt (val_ixL (val_var rfl) val_c hS (atI_nat (j := 0) rfl))) (val_var rfl) m0) _ ?_
      refine (val_iC (val_ixL (val_var rfl) val_c hS (atI_nat (j := 0) rfl)) (val_var rfl) ⟨m0, by omega⟩) _ ?_
      refine ⟨_, rfl, b, _, 0, 0, rfl, rfl, hb, rfl, ?_⟩
      refine ⟨_, rfl, ?_⟩
      have hp : 0 < p := of_decide_eq_true e
      exact k _ _ _ (Int.emod_nonneg _ (by omega)) (Int.emod_lt_of_pos _ m0) ⟨Int.ediv_nonneg B.p0 (by omega), B.q0, B.q1, B.n0, B.n1⟩ (by omega)
    · refine (val_i0 (val_ixL (val_var rfl) val_c hS (atI_nat (j := 2) rfl)) val_c) _ ?_
      refine ⟨_, rfl, b, _, 2, 2, rfl, rfl, hb, rfl, ?_⟩
      have h1 : (upd H b (.lst (bx p q (n + 1)))) b = some (.lst (bx p q (n + 1))) := upd_same
      have hS1 : SqL K (upd H b (.lst (bx p q (n + 1)))) b (bx p q (n + 1)) := SqL.of h1
      refine (val_iC (val_toInt (val_iC (val_i0 (val_i0 (val_ixL (val_var rfl) val_c hS1 (atI_nat (j := 1) rfl)) (val_iC (val_iC val_c (val_ixL (val_var rfl) val_c hS1 (atI_nat (j := 2) rfl)) ?_) (val_ixL (val_var rfl) val_c hS1 (atI_nat (j := 2) rfl)) ?_)) val_c) val_c ?_)) val_c ?_) _ ?_
      · exact .inl ⟨by decide, by decide⟩
      · exact .inr ⟨by have := B.n0; omega, by omega⟩
      · exact .inr ⟨by decide, by decide⟩
      · show (0 : Int) < 2305843009213693921
        decide
      generalize hz : (q + 65543 * (n + 1) * (n + 1) + 41) * 48271 % 2305843009213693921 = z
      have z0 : 0 ≤ z := by rw [← hz]; exact Int.emod_nonneg _ (by decide)
      have z1 : z < 2305843009213693921 := by rw [← hz]; exact Int.emod_lt_of_pos _ (by decide)
      refine (val_iC (val_toInt (val_iC (val_var rfl) (val_i0 (val_iC (val_toInt (val_var rfl)) val_c ?_) (val_iC val_c (val_ixL (val_var rfl) val_c hS1 (atI_nat (j := 2) rfl)) ?_)) ?_)) val_c ?_) _ ?_
      · show (0 : Int) < 1000003
        decide
      · exact .inl ⟨by decide, by decide⟩
      · exact .inl ⟨by omega, by omega⟩
      · show (0 : Int) < 2305843009213693907
        decide
      refine (val_iC (val_toInt (val_i0 (val_iC (val_var rfl) val_c ⟨by decide, by decide⟩) (val_iC (val_var rfl) val_c ⟨by decide, by decide⟩))) (val_var rfl) m0) _ ?_
      exact k _ _ _ (Int.emod_nonneg _ (by omega)) (Int.emod_lt_of_pos _ m0) ⟨B.p0, B.q0, B.q1, by have := B.n0; omega, by omega⟩ (by omega)
end
end K5
namespace K5
open PySem PySem.Spec PyProof.Rows L2
/-- the built-ins' names still are the built-ins' -/
structure Bt (mg : Str → Option Value) : Prop where
  m_int : mg "int" = none
  m_len : mg "len" = none
  m_abs : mg "abs" = none
  m_max : mg "max" = none
  m_min : mg "min" = none
  m_list : mg "list" = none
  m_str : mg "str" = none
  m_bool : mg "bool" = none
  m_range : mg "range" = none
  m_isinstance : mg "isinstance" = none
  m_tuple : mg "tuple" = none
  m_repr : mg "repr" = none
/-- a def of the top -/
structure Df (K : PySem.W.Frag) (mg : Str → Option Value) (x : Str) (st : Stmt) (f : Addr) (fd : FuncData) (ps : List Str) : Prop where
  F : Fun K x x st f fd
  g : mg x = some (.ref f)
  b : Binds K fd ps []
/-- a method -/
structure Mf (K : PySem.W.Frag) (C : Addr) (x qual : Str) (st : Stmt) (f : Addr) (fd : FuncData) (ps : List Str) : Prop where
  F : Fun K x qual st f fd
  m : Meth K C x f
  b : Binds K fd ps []
/-! ### heaps -/
theorem same_upd {H : Hp} {p : Addr} {o : HO} (h : H p = none) : Same H (upd H p o) := fun b x e => by
  rw [upd_ne (ne_of_none e h)]
  exact e
/-- all that was tracked is as it was, but the list at b -/
def SameBut (b : Addr) (H H' : Hp) : Prop := ∀ a o, a ≠ b → H a = some o → H' a = some o
theorem SameBut.of_same {b : Addr} {H H' : Hp} (e : Same H H') : SameBut b H H' := fun a o _ h => e a o h
theorem SameBut.trans {b : Addr} {H H1 H2 : Hp} (x : SameBut b H H1) (y : SameBut b H1 H2) : SameBut b H H2 := fun a o n h => y a o n (x a o n h)
theorem SameBut.upd (b : Addr) (H : Hp) (o : HO) : SameBut b H (upd H b o) := fun a u n h => by
  rw [upd_ne n]
  exact h
/-! ### numbers -/
def CPowB (i j : Int) : Prop := 0 ≤ j ∧ (Builtin.Int.intBits i : Int) * j ≤ 2 ^ 27
theorem op_powB {X : Cx} : OpR X (binaryOp .Pow) (rI CPowB fun i j => .int (i ^ j.toNat)) := opI fun _ _ _ _ _ _ _ hc q => pow_int hc.1 hc.2 q
section
variable {X : Cx} {K : PySem.W.Frag} {σ : L2.St} {H : Hp} {ta tb : TE} {i j : Int} {p : Addr} {xs : List V} {v : V}
theorem val_i0b {g : Int → Int → Bool} (ha : Val ta σ H (.int i)) (hb : Val tb σ H (.int j)) : Val (tOp (rI0 fun i j => .bl (g i j)) ta tb) σ H (.bl (g i j)) :=
  val_op ha hb fun Q q => ⟨i, j, rfl, rfl, q⟩
def rAbs : List V → Hp → VK → Prop := fun xs H Q => ∃ i, xs = [.int i] ∧ Q (.int (if i < 0 then -i else i)) H
theorem val_abs (h : Val ta σ H (.int i)) : Val (tCB rAbs (tCons ta tNil)) σ H (.int (if i < 0 then -i else i)) := fun Q q => h _ ⟨i, rfl, q⟩
def rLenSq (K : PySem.W.Frag) : List V → Hp → VK → Prop := fun xs H Q => ∃ p ys, xs = [.ref p] ∧ (SqL K H p ys ∨ SqT K H p ys) ∧ Q (.int ys.length) H
theorem val_lenL (h : Val ta σ H (.ref p)) (hS : SqL K H p xs) : Val (tCB (rLenSq K) (tCons ta tNil)) σ H (.int xs.length) := fun Q q => h _ ⟨p, xs, rfl, .inl hS, q⟩
end
theorem b01 (b : Bool) : -(2 ^ 64) < (if b = true then (1 : Int) else 0) ∧ (if b = true then (1 : Int) else 0) < 2 ^ 64 := by cases b <;> exact ⟨by decide, by decide⟩
theorem b0 (b : Bool) : 0 ≤ (if b = true then (1 : Int) else 0) := by cases b <;> decide
theorem step_int {te : TE} {σ : L2.St} {H : Hp} {Q : VK} (h : ∃ z : Int, Val te σ H (.int z)) (k : ∀ z : Int, Q (.int z) H) : te σ H Q := by
  obtain ⟨z, hz⟩ := h
  exact hz Q (k z)
/-! ### a fresh box -/
abbrev s__law_box : Stmt := topS 24
theorem sc__law_box : FnScope ["_law_script", "_law_k", "_law_first", "_law_own"] ["_law_script", "_law_k"] (defScope s__law_box) := ⟨rfl, rfl, rfl, by decide +kernel, rfl, by decide +kernel, by decide +kernel⟩
def spBox (K : PySem.W.Frag) : Sp := fun vs H Q _ => ∃ (a : Addr) (ns : List Int) (k : Int), vs = [.ref a, .int k] ∧ SqL K H a (ns.map V.int) ∧ 0 ≤ k ∧ k < 100 ∧
  ∀ (b : Addr) (p q : Int), H b = none → Box p q 0 → Q (.ref b) (upd H b (.lst (bx p q 0)))
section
variable {P : Program} {w : World} {K : PySem.W.Frag} {mg : Str → Option Value} {base : Heap}
theorem ok_box {f : Addr} {fd : FuncData} (B : Bt mg) (D : Df K mg "_law_box" s__law_box f fd ["_law_script", "_law_k"]) : FnOk P w K mg base CX0 1 f fd ["_law_script", "_law_k"] (spBox K) := by
  refine D.F.ok sc__law_box (fun vs H Q E h => ?_) (fun cdv A outer s H vs Q E hr h => ?_)
  · obtain ⟨a, ns, k, rfl, _⟩ := h
    rfl
  · obtain ⟨a, ns, k, rfl, hS, k0, k1, kk⟩ := h
    have S := sc__law_box
    refine ⟨_, (pss_cons (ps_set (i := 2) S.nd rfl (.inl rfl) (pe_ifExp (pt_cmpR op_lt (pv 1) (pe_callB call_len_seq (by rfl) B.m_len PySem.boot_len (pa_cons (pv 0) pa_nil)) (nomark _)) (pe_ix ix_list (pv 0) (pv 1) (fun _ _ => rfl)) (pe_op op_add (pe_op op_mul pe_int (pv 1)) pe_int)))
      (pss_cons (ps_set (i := 3) S.nd rfl (.inl rfl) (pe_op op_mul (pe_op op_mod (pe_toInt (by rfl) B.m_int (pe_callB call_abs (by rfl) B.m_abs PyProof.Rows.boot_abs (pa_cons (pv 2) pa_nil))) (pe_op op_powB (pe_op op_pow pe_int pe_int) pe_int)) (pe_toInt (by rfl) B.m_int (pe_cmpR op_ge (pe_callB call_abs (by rfl) B.m_abs PyProof.Rows.boot_abs (pa_cons (pv 2) pa_nil)) (pe_op op_pow pe_int pe_int) (nomark _)))))
      (pss_one (ps_ret (pe_lst (pa_cons (pv 3) (pa_cons (pe_op op_mod (pe_toInt (by rfl) B.m_int (pe_op op_add (pe_op op_add (pe_op op_mul (pe_op op_mod (pe_toInt (by rfl) B.m_int (pv 2)) pe_int) pe_int) (pe_op op_mul (pe_op op_mul pe_int (pv 1)) (pv 1))) pe_int)) pe_int) (pa_cons pe_int pa_nil)))))))), ?_⟩
    show tIf _ _ _ _ _ _
    refine step_int ?_ fun z => ?_
    · by_cases hk : k < (ns.map V.int).length
      · have hk' : k.toNat < ns.length := by
          rw [List.length_map] at hk
          omega
        refine ⟨ns[k.toNat], fun Q q => ?_⟩
        refine (val_i0b (val_var rfl) (val_lenL (val_var rfl) hS)) _ ⟨_, rfl, ?_⟩
        rw [decide_eq_true hk]
        refine iteT ((val_ixL (val_var rfl) (val_var rfl) hS (at_of (j := k.toNat) (by omega) ?_)) _ q)
        rw [List.getElem?_map, List.getElem?_eq_getElem hk']
        rfl
      · refine ⟨37 * k + 11, fun Q q => ?_⟩
        refine (val_i0b (val_var rfl) (val_lenL (val_var rfl) hS)) _ ⟨_, rfl, ?_⟩
        rw [decide_eq_false hk]
        exact iteF ((val_i0 (val_iC val_c (val_var rfl) (.inl ⟨by decide, by decide⟩)) val_c) _ q)
    · refine (val_iC (val_iC (val_toInt (val_abs (val_var rfl))) (val_iC (val_iC val_c val_c ⟨by decide, by decide, by decide⟩) val_c ⟨by decide, by decide +kernel⟩) ?_) (val_toIntB (val_i0b (val_abs (val_var rfl)) (val_iC val_c val_c ⟨by decide, by decide, by decide⟩))) ?_) _ ?_
      · show (0 : Int) < (10 ^ (60 : Int).toNat) ^ (4 : Int).toNat
        decide +kernel
      · exact .inr (b01 _)
      generalize hp : (if z < 0 then -z else z) % (10 ^ (60 : Int).toNat) ^ (4 : Int).toNat * (if decide (10 ^ (18 : Int).toNat ≤ if z < 0 then -z else z) = true then 1 else 0) = p
      have p0 : 0 ≤ p := by
        rw [← hp]
        exact Int.mul_nonneg (Int.emod_nonneg _ (by decide +kernel)) (b0 _)
      refine ⟨_, rfl, ?_⟩
      have m1 : 0 ≤ z % 2305843009213693951 := Int.emod_nonneg _ (by decide)
      have m2 : z % 2305843009213693951 < 2305843009213693951 := Int.emod_lt_of_pos _ (by decide)
      refine (val_iC (val_toInt (val_i0 (val_i0 (val_iC (val_iC (val_toInt (val_var rfl)) val_c ?_) val_c ?_) (val_iC (val_iC val_c (val_var rfl) ?_) (val_var rfl) ?_)) val_c)) val_c ?_) _ ?_
      · show (0 : Int) < 2305843009213693951
        decide
      · exact .inr ⟨by decide, by decide⟩
      · exact .inl ⟨by decide, by decide⟩
      · exact .inr ⟨by omega, by omega⟩
      · show (0 : Int) < 2305843009213693921
        decide
      refine ⟨by show 3 ≤ sizeLine; decide, fun b hb => ?_⟩
      exact kk b _ _ hb ⟨p0, Int.emod_nonneg _ (by decide), Int.emod_lt_of_pos _ (by decide), by decide, by decide⟩
end
end K5
namespace GL
open PySem PySem.Spec PyProof.Rows L2 K5
section
variable {X : Cx} {pins : List (Addr × Obj)} {σ σ' : L2.St} {H H' : Hp} {s sI : Shared}
/-- what came since J may be laid on the ledger -/
theorem track {a : Addr} {o : HO} (I : Inv X pins σ H s) (J : Inv X pins σ' H' sI) (new : sI.heap.get? a = none) (hx : X.ex = []) (hn : H a = none) (nL : a ≠ X.env.locals) (ok : ObjOk X.prog X.w (upd H a o) s.heap a o) : Inv X pins σ (upd H a o) s := by
  have old : ∀ b u, X.s_0.heap.get? b = some u → b ≠ a := fun b u e z => by
    obtain ⟨u2, e2⟩ := J.base.there b u e (by rw [hx]; exact List.not_mem_nil)
    rw [z, new] at e2
    cases e2
  have kp : ∀ b u, H b = some u → upd H a o b = some u := fun b u e => by
    rw [upd_ne (ne_of_none e hn)]
    exact e
  refine ⟨I.ok, I.os, I.bare, ⟨I.base.keep, I.base.slot, fun b u e n x => ?_, I.base.there, fun b xs e => kp _ _ (I.base.tups b xs e), fun b u v e => kp _ _ (I.base.frzs b u v e), fun b ps e => ?_⟩, I.loc, I.cell, ?_, fun x c e => ?_, fun p hp => ?_, fun b u e => ?_, I.len⟩
  · rw [upd_ne (old b u e)]
    exact I.base.free b u e n x
  · obtain ⟨more, e2⟩ := I.base.tbls b ps e
    exact ⟨more, kp _ _ e2⟩
  · rw [upd_ne nL.symm]
    exact I.free
  · have nc : c ≠ a := fun z => by
      obtain ⟨v, hv⟩ := J.cell x c e
      rw [z] at hv
      obtain ⟨ob, h1, _⟩ := hv
      rw [new] at h1
      cases h1
    rw [upd_ne nc]
    exact I.freeC x c e
  · obtain ⟨e1, e2, e3⟩ := I.pin p hp
    have np : p.1 ≠ a := fun z => by
      obtain ⟨q1, _⟩ := J.pin p hp
      rw [z, new] at q1
      cases q1
    rw [upd_ne np]
    exact ⟨e1, e2, e3⟩
  · by_cases c : b = a
    · subst c
      rw [upd_same] at e
      cases e
      exact ok
    · rw [upd_ne c] at e
      exact (I.hok b u e).stay (fun c v _ q => q) (fun c q => kp _ _ q) fun c xs q => kp _ _ q
end
section
variable {X : Cx} {pins : List (Addr × Obj)} {σ : L2.St} {H : Hp} {s : Shared}
/-- the new things are laid on the ledger one after another -/
theorem lay_all {sA s1 : Shared} {H1 : Hp} (IA : Inv X pins σ H1 sA) (hx : X.ex = []) : ∀ (vs : List Value) (rows : List (List V)) (H2 : Hp), vs.length = rows.length → (∀ r ∈ rows, r.length ≤ sizeLine) → Inv X pins σ H2 s1 → vs.Nodup →
    (∀ j v, vs[j]? = some v → ∃ b o, v = .ref b ∧ sA.heap.get? b = none ∧ s1.heap.get? b = some o ∧ IsNew (rows.getD j []) o ∧ H2 b = none) →
    ∃ (ts : List Addr) (H3 : Hp), Inv X pins σ H3 s1 ∧ Same H2 H3 ∧ vs = ts.map Value.ref ∧ Paired (fun t r => H3 t = some (.tup r)) ts rows := by
  intro vs
  induction vs with
  | nil =>
    intro rows H2 el _ I2 _ _
    obtain rfl : rows = [] := List.eq_nil_of_length_eq_zero el.symm
    exact ⟨[], H2, I2, fun b o e => e, rfl, .nil⟩
  | cons v vs ih =>
    intro rows H2 el few I2 nd hv
    cases rows with
    | nil => cases el
    | cons r rows =>
      obtain ⟨b, o, rfl, nA, ho, ⟨us, rv, rfl⟩, nb⟩ := hv 0 v rfl
      have nL : b ≠ X.env.locals := fun z => by
        obtain ⟨_, ⟨_, _, _, q, _⟩, _⟩ := IA.loc
        rw [← z, nA] at q
        cases q
      have I3 := track (o := .tup r) I2 IA nA hx nb nL ⟨few r (List.mem_cons_self ..), us, rv, ⟨_, ho, rfl, 0, rfl⟩⟩
      have nd2 := List.nodup_cons.mp nd
      obtain ⟨ts, H3, I4, sm, rfl, pr⟩ := ih rows _ (Nat.succ.inj el) (fun q hq => few q (List.mem_cons_of_mem _ hq)) I3 nd2.2 fun j u e => by
        obtain ⟨b2, o2, e1, e2, e3, e4, e5⟩ := hv (j + 1) u e
        refine ⟨b2, o2, e1, e2, e3, e4, ?_⟩
        rw [upd_ne (fun z => nd2.1 (by rw [← z, ← e1]; exact List.mem_of_getElem? e))]
        exact e5
      exact ⟨b :: ts, H3, I4, fun c u e => sm c u (by rw [upd_ne (ne_of_none e nb)]; exact e), rfl, .cons (sm b _ upd_same) pr⟩
theorem vals_refs : ∀ ts : List Addr, Vals (ts.map V.ref) (ts.map Value.ref)
  | [] => .nil
  | t :: r => .cons rfl (vals_refs r)
theorem paired_imp' {α β : Type} {R S : α → β → Prop} {l : List α} {m : List β} (h : Paired R l m) (f : ∀ a b, R a b → S a b) : Paired S l m := by
  induction h with
  | nil => exact .nil
  | cons a b ih => exact .cons (f _ _ a) ih
/-- tuple(elt for tgt in te), elt a tuple -/
def tTupNew (P : Addr) (Pr : L2.St → List V → List (List V) → Hp → Prop) (te : TE) : TE := fun σ H Q => te σ H fun v H1 => ∃ (yl : Addr) (us : List V) (rows : List (List V)), v = .ref yl ∧ H1 yl = some (.lst us) ∧ us.length ≤ 100000 ∧ GxR.TabG H1 P ∧ Pr σ us rows H1 ∧
  rows.length = us.length ∧ (∀ r ∈ rows, r.length ≤ 10) ∧ ∀ (H2 H3 : Hp) (p : Addr) (ts : List Addr), GxR.Tabbed P H1 H2 → Same H2 H3 → Paired (fun t r => H3 t = some (.tup r)) ts rows → H3 p = some (.tup (ts.map V.ref)) → Q (.ref p) H3
theorem pe_tupNew {c P : Addr} {elt tgt iter : Expr} {gpos p pos : Pos} {scope : Scope} {te : TE} {k : Nat} {Pr : L2.St → List V → List (List V) → Hp → Prop}
    (hr : Room k X.A) (TB : GxR.TabB X.base X.mg c P) (code1 : X.env.code = .ref c) (kind : scope.kind = .function) (co : scope.isCoroutine = false) (cell : ∀ y ∈ scope.names, y.2 ≠ .cell) (dot : scope.names.lookup (".0" : Str) = some NameKind.local)
    (free : ∀ y ∈ scope.names, y.2 = .free → X.env.scope.names.lookup y.1 = some .cell) (it : PE X iter te) (pr : ∀ pins σ us rows H1, Pr σ us rows H1 → GxR.TabG H1 P → Prov X pins σ P scope tgt elt us rows H1)
    (hx : X.ex = []) (hg : Gl X "tuple") (hm : X.mg "tuple" = none) (fold : ∀ v, genFold iter X.env v = pure v := by exact fun _ => rfl)
    (star1 : starEach [.GeneratorExp elt [⟨tgt, iter, [], 0⟩] scope gpos] X.env = (false, eval (.GeneratorExp elt [⟨tgt, iter, [], 0⟩] scope gpos) X.env) :: starEach [] X.env := by rfl) :
    PE X (.Call (.Name "tuple" p) [.GeneratorExp elt [⟨tgt, iter, [], 0⟩] scope gpos] [] pos) (tTupNew P Pr te) := by
  refine ⟨fun pins s σ H Q I hh0 => ?_⟩
  refine wpAny_Call_Name_kw (ld_blt I hg hm boot_tuple ?_)
  refine PyProof.Rows.callWith_type1 ?_ star1 rfl
  rw [star1]
  show wpAny _ _ (spliced ((false, eval (.GeneratorExp elt [⟨tgt, iter, [], 0⟩] scope gpos) X.env) :: backTo pos (starEach [] X.env))) _ _ s
  refine Calls.spliced_cons (gen_new (pr pins σ) (R := fun us rows H1 => rows.length = us.length ∧ (∀ r ∈ rows, r.length ≤ 10) ∧ ∀ (H2 H3 : Hp) (p : Addr) (ts : List Addr), GxR.Tabbed P H1 H2 → Same H2 H3 → Paired (fun t r => H3 t = some (.tup r)) ts rows → H3 p = some (.tup (ts.map V.ref)) → Q (.ref p) H3) hr TB code1 kind co cell dot (fun y hy e => I.ok.has _ (.inl (free y hy e))) it fold I
    hh0 fun us rows H1 a s5 few hR hG => ?_)
  refine Calls.spliced_nil ?_
  obtain ⟨g, C, I0, fp, sA, E, st, low, IA, gone, mvd⟩ := hG
  obtain ⟨lr, sm, q⟩ := hR
  have few2 : us.length ≤ sizeLine := Nat.le_trans few (by decide)
  refine GH.call_tuple E st low few2 fun s' acc mv got => ?_
  obtain ⟨H2, tb, J, al⟩ := mvd s' mv
  obtain ⟨g1, g2, g3⟩ := got
  obtain ⟨ts, H3, J3, sm3, ev, prs⟩ := lay_all IA hx acc.toList rows H2 (by rw [Array.length_toList, g1, lr]) (fun r hr => Nat.le_trans (sm r hr) (by decide)) J g2 fun j v e => by
    obtain ⟨b, o, e1, e2, e0, e3, e4⟩ := g3 j v (by rw [← Array.getElem?_toList]; exact e)
    refine ⟨b, o, e1, gone b e0, e3, e4, ?_⟩
    cases q2 : H2 b with
    | none => rfl
    | some u =>
      obtain ⟨o2, h2⟩ := al b u q2
      rw [e0] at h2
      cases h2
  have nf : H3 s'.heap.objs.size = none := J3.hok.fresh (Nat.le_refl _)
  have lt : ts.length ≤ sizeLine := by rw [Paired.length prs, lr]; exact few2
  have new : Inv X pins σ (upd H3 s'.heap.objs.size (.tup (ts.map V.ref))) { s' with heap := s'.heap.push { cls := .type "tuple", data := .seq acc } } := by
    refine J3.laid (t' := s'.toks) (fun c o e => Heap.get?_push_of_some _ e) (Nat.le_refl _) ⟨by rw [List.length_map]; exact lt, ts.map Value.ref, vals_refs ts, ?_⟩
    rw [← ev, Array.toArray_toList]
    exact IsTup.new _ _
  exact ⟨.ref s'.heap.objs.size, _, new, rfl, q H2 _ _ ts tb (fun b o e => by rw [upd_ne (ne_of_none (sm3 b o e) nf)]; exact sm3 b o e) (paired_imp' prs fun t r e => by rw [upd_ne (ne_of_none e nf)]; exact e) upd_same⟩
end
end GL
namespace GL
open PySem PySem.Spec PyProof.Rows L2 K5
section
variable {X : Cx} {pins : List (Addr × Obj)} {σ : L2.St} {H1 : Hp} {P : Addr} {scope : Scope} {us : List V} {rows : List (List V)}
/-- rows (x, d[x]), the dict d in the slot i -/
def PrN (i : Nat) : L2.St → List V → List (List V) → Hp → Prop := fun σ us rows H1 => ∃ (a : Addr) (kvs : List (Key × V)) (ks : List Key), σ[i]? = some (some (.ref a)) ∧ H1 a = some (.dK kvs) ∧ us = ks.map kV ∧
  ∀ (j : Nat) (k : Key), ks[j]? = some k → ∃ v, valV kvs k = some v ∧ rows[j]? = some [kV k, v]
/-- rows (x, y, d[x, y]) -/
def PrT (i : Nat) : L2.St → List V → List (List V) → Hp → Prop := fun σ us rows H1 => ∃ (a : Addr) (kvs : List (List Key × V)) (ts : List Addr) (ks : List (Key × Key)), σ[i]? = some (some (.ref a)) ∧ H1 a = some (.dT kvs) ∧ us = ts.map V.ref ∧
  Paired (fun t k => H1 t = some (.tup [kV k.1, kV k.2])) ts ks ∧ ∀ (j : Nat) (k : Key × Key), ks[j]? = some k → ∃ v, valV kvs [k.1, k.2] = some v ∧ rows[j]? = some [kV k.1, kV k.2, v]
theorem vals_at : ∀ {xs : List V} {us : List Value} {j : Nat} {x : V} {u : Value}, Vals xs us → xs[j]? = some x → us[j]? = some u → RelV x u
  | _, _, 0, _, _, .cons a _, e1, e2 => by
    cases e1
    cases e2
    exact a
  | _, _, j + 1, _, _, .cons _ r, e1, e2 => vals_at (j := j) r e1 e2
  | _, _, 0, _, _, .nil, e1, _ => by cases e1
  | _, _, _ + 1, _, _, .nil, e1, _ => by cases e1
theorem vals_ref_map : ∀ {ts : List Addr} {us : List Value}, Vals (ts.map V.ref) us → us = ts.map Value.ref
  | [], _, .nil => rfl
  | t :: r, _, .cons a b => by
    rw [vals_ref_map b, show _ = Value.ref t from a]
    rfl
theorem paired_get {α β : Type} {R : α → β → Prop} : ∀ {l : List α} {m : List β} {j : Nat} {a : α}, Paired R l m → l[j]? = some a → ∃ b, m[j]? = some b ∧ R a b
  | _, _, 0, _, .cons r _, e => by
    cases e
    exact ⟨_, rfl, r⟩
  | _, _, j + 1, _, .cons _ t, e => paired_get (j := j) t e
  | _, _, 0, _, .nil, e => by cases e
  | _, _, _ + 1, _, .nil, e => by cases e
theorem getD_of {rows : List (List V)} {j : Nat} {r : List V} (h : rows[j]? = some r) : rows.getD j [] = r := by
  rw [List.getD_eq_getElem?_getD, h]
  rfl
theorem prov_name {x d : Str} {p1 p2 p3 p4 p5 p6 : Pos} {kt i : Nat} (kind : scope.kind = .function) (hx : scope.names.lookup x = some .local) (hl : (d, NameKind.free) ∈ scope.names) (hl2 : scope.names.lookup d = some .free)
    (free : ∀ y ∈ scope.names, y.2 = .free → X.env.scope.names.lookup y.1 = some .cell) (hi : X.N[i]? = some d)
    (nc : (d == ("__classdict__" : Str)) = false) (ndx : (x == ("__debug__" : Str)) = false) (ndd : (d == ("__debug__" : Str)) = false) (h : PrN i σ us rows H1) (tab : GxR.TabG H1 P) :
    Prov X pins σ P scope (.Name x p6) (.Tuple [.Name x p1, .Subscript (.Name d p2) (.Name x p3) p4] kt p5) us rows H1 := by
  obtain ⟨a, kvs, ks, hσ, hd, rfl, hv⟩ := h
  intro its yl I cenv hC rv hs hc hloc Ilt ylt ne itr pl nI kp
  have el : (ks.map kV).length = its.toArray.size := by rw [List.size_toArray]; exact rv.length
  have T := GH.Turns.name (prog := X.prog) (w := X.w) (cenv := cenv) (I := I) (ax := yl) (fp := List.range hC.objs.size) (items := its.toArray) (x := x) (px := p6) (show cenv.scope.names.lookup x = some .local by rw [hs]; exact hx) (by rw [hs, kind]; rfl) (List.mem_range.mpr Ilt) (List.mem_range.mpr ylt) ne (fun z => by rw [hloc] at z; exact Nat.lt_irrefl _ (List.mem_range.mp z))
  rw [← el] at T
  refine ⟨_, _, T, ⟨itr, pl⟩, fun B Z j s m calm unit lt bd ns kp2 => ?_⟩
  obtain ⟨u0, hu0, mu0⟩ := bd
  obtain ⟨H2, sB, tb, eh, IB⟩ := kp2
  have na : a ≠ P := fun z => by
    obtain ⟨ps, h1, _⟩ := tab
    rw [← z, hd] at h1
    cases h1
  have lt2 : j < ks.length := by rw [List.length_map] at lt; exact lt
  have ek : ks[j]? = some ks[j] := List.getElem?_eq_getElem lt2
  obtain ⟨v, e1, e2⟩ := hv j _ ek
  rw [getD_of e2]
  have r0 : RelV (kV ks[j]) u0 := vals_at rv (by rw [List.getElem?_map, ek]; rfl) (by rw [← List.getElem?_toArray]; exact hu0)
  exact elt_pair IB eh (by rw [hs]; exact kind) (show cenv.scope.names.lookup x = some .local by rw [hs]; exact hx) (by rw [hs]; exact hl) (show cenv.scope.names.lookup d = some .free by rw [hs]; exact hl2) (by rw [hs]; exact hc) (by rw [hs]; exact fun z hz e => IB.ok.has _ (.inl (free z hz e))) hi hσ (free _ hl rfl) nc ndx ndd (by rw [tb.2 a na]; exact hd) e1 ns mu0 r0
theorem prov_pair {x y d : Str} {p1 p2 p3 p4 p5 p6 p7 p8 p9 p10 p11 : Pos} {kt kt2 kt3 i : Nat} (kind : scope.kind = .function) (hx : scope.names.lookup x = some .local) (hy : scope.names.lookup y = some .local) (xy : x ≠ y) (hl : (d, NameKind.free) ∈ scope.names) (hl2 : scope.names.lookup d = some .free)
    (free : ∀ y ∈ scope.names, y.2 = .free → X.env.scope.names.lookup y.1 = some .cell) (hi : X.N[i]? = some d)
    (nc : (d == ("__classdict__" : Str)) = false) (ndx : (x == ("__debug__" : Str)) = false) (ndy : (y == ("__debug__" : Str)) = false) (ndd : (d == ("__debug__" : Str)) = false) (h : PrT i σ us rows H1) (tab : GxR.TabG H1 P) :
    Prov X pins σ P scope (.Tuple [.Name x p9, .Name y p10] kt3 p11) (.Tuple [.Name x p1, .Name y p2, .Subscript (.Name d p3) (.Tuple [.Name x p4, .Name y p5] kt2 p6) p7] kt p8) us rows H1 := by
  obtain ⟨a, kvs, ts, ks, hσ, hd, rfl, prs, hv⟩ := h
  intro its yl I cenv hC rv hs hc hloc Ilt ylt ne itr pl nI kp
  have ev : its = ts.map Value.ref := vals_ref_map rv
  subst ev
  have el : (ts.map V.ref).length = (ts.map Value.ref).toArray.size := by rw [List.size_toArray, List.length_map, List.length_map]
  have lts : ts.length = ks.length := Paired.length prs
  have sz : (ts.map Value.ref).toArray.size = ts.length := by rw [List.size_toArray, List.length_map]
  obtain ⟨HC, sC, tbC, ehC, IC⟩ := kp
  have tat : ∀ j, j < ts.length → ∃ (k : Key × Key) (u0 u1 : Value), ks[j]? = some k ∧ RelV (kV k.1) u0 ∧ RelV (kV k.2) u1 ∧ hC.IsTuple (ts.getD j 0) #[u0, u1] ∧ H1 (ts.getD j 0) = some (.tup [kV k.1, kV k.2]) := fun j lt => by
    have e1 : ts[j]? = some ts[j] := List.getElem?_eq_getElem lt
    obtain ⟨k, e2, e3⟩ := paired_get prs e1
    have ed : ts.getD j 0 = ts[j] := by rw [List.getD_eq_getElem?_getD, e1]; rfl
    have np : ts[j] ≠ P := fun z => by
      obtain ⟨ps, h1, _⟩ := tab
      rw [← z, e3] at h1
      cases h1
    obtain ⟨us, r2, p2, _⟩ := IC.tuple (SqT.of (show HC ts[j] = some (.tup [kV k.1, kV k.2]) by rw [tbC.2 _ np]; exact e3))
    cases r2 with
    | cons ra rb =>
      cases rb with
      | cons rb rc =>
        cases rc
        rw [ehC] at p2
        obtain ⟨o, q1, q2, q3, q4⟩ := p2
        exact ⟨k, _, _, e2, ra, rb, by rw [ed]; exact ⟨o, q1, q2, q3, q4⟩, by rw [ed]; exact e3⟩
  classical
  have T := GH.Turns.pair (prog := X.prog) (w := X.w) (cenv := cenv) (I := I) (ax := yl) (fp := List.range hC.objs.size) (items := (ts.map Value.ref).toArray) (xa := x) (xb := y) (pa := p9) (pb := p10) (pt := p11) (kt := kt3) (show cenv.scope.names.lookup x = some .local by rw [hs]; exact hx) (show cenv.scope.names.lookup y = some .local by rw [hs]; exact hy) xy (by rw [hs, kind]; rfl) (List.mem_range.mpr Ilt) (List.mem_range.mpr ylt) ne (fun z => by rw [hloc] at z; exact Nat.lt_irrefl _ (List.mem_range.mp z))
    (fun j => ts.getD j 0) (fun j => if lt : j < ts.length then (tat j lt).choose_spec.choose else .none) (fun j => if lt : j < ts.length then (tat j lt).choose_spec.choose_spec.choose else .none) (fun j lt => by
      rw [sz] at lt
      rw [List.getElem?_toArray, List.getElem?_map, List.getElem?_eq_getElem lt, List.getD_eq_getElem?_getD, List.getElem?_eq_getElem lt]
      rfl) (fun j lt => by
      rw [sz] at lt
      obtain ⟨k, u0, u1, _, _, _, t1, t2⟩ := tat j lt
      exact ⟨(fun z => by
        have t3 := t2
        rw [show ts.getD j 0 = I from z, nI] at t3
        cases t3), List.mem_range.mpr (let ⟨_, e, _⟩ := t1; Heap.lt_size e)⟩)
  rw [← el] at T
  refine ⟨_, _, T, ⟨itr, pl, fun j lt => ?_⟩, fun B Z j s m calm unit lt bd ns kp2 => ?_⟩
  · have lt : j < ts.length := by rw [List.length_map] at lt; exact lt
    have q := (tat j lt).choose_spec.choose_spec.choose_spec.2.2.2.1
    simp only [lt, dif_pos]
    exact q
  · have lt2 : j < ts.length := by rw [List.length_map] at lt; exact lt
    obtain ⟨b0, b1⟩ := bd
    simp only [lt2, dif_pos] at b0 b1
    have w := (tat j lt2).choose_spec.choose_spec.choose_spec
    obtain ⟨e2, r0, r1, _, _⟩ := w
    obtain ⟨H2, sB, tb, eh, IB⟩ := kp2
    have na : a ≠ P := fun z => by
      obtain ⟨ps, h1, _⟩ := tab
      rw [← z, hd] at h1
      cases h1
    obtain ⟨v, g1, g2⟩ := hv j _ e2
    rw [getD_of g2]
    exact elt_triple unit IB eh (by rw [hs]; exact kind) (show cenv.scope.names.lookup x = some .local by rw [hs]; exact hx) (show cenv.scope.names.lookup y = some .local by rw [hs]; exact hy) (by rw [hs]; exact hl) (show cenv.scope.names.lookup d = some .free by rw [hs]; exact hl2) (by rw [hs]; exact hc) (by rw [hs]; exact fun z hz e => IB.ok.has _ (.inl (free z hz e))) hi hσ (free _ hl rfl) nc ndx ndy ndd (by rw [tb.2 a na]; exact hd) g1 ns b0 b1 r0 r1
end
end GL
namespace K5
open PySem PySem.Spec PyProof.Rows L2
abbrev s__law_some : Stmt := topS 27
theorem sc__law_some : FnScope ["_law_box_here", "_law_items", "_law_many", "_law_left", "_law_found", "_law_turn"] ["_law_box_here", "_law_items", "_law_many"] (defScope s__law_some) := ⟨rfl, rfl, rfl, by decide +kernel, rfl, by decide +kernel, by decide +kernel⟩
/-- so many of some items, in a drawn sequence: a new list; the box goes on -/
def spSome (K : PySem.W.Frag) : Sp := fun vs H Q _ => ∃ (b l : Addr) (xs : List V) (m : Nat) (p q n : Int), vs = [.ref b, .ref l, .int m] ∧ H b = some (.lst (bx p q n)) ∧ Box p q n ∧ SqL K H l xs ∧ m ≤ xs.length ∧ xs.length ≤ 1000 ∧ n + m < 1000000 ∧
  ∀ (H' : Hp) (r : Addr) (ys rest : List V) (p' n' : Int), SameBut b H H' → H r = none → H' r = some (.lst ys) → H' b = some (.lst (bx p' q n')) → Box p' q n' → n' ≤ n + m → ys.length = m → (ys ++ rest).Perm xs → Q (.ref r) H'
theorem seqIndex_in {n : Nat} {d : Int} (h0 : 0 ≤ d) (h1 : d < n) : seqIndex? d n = some d.toNat := by
  unfold seqIndex?
  simp only []
  split <;> simp_all <;> omega
theorem erase_perm {α : Type} : ∀ {l : List α} {j : Nat} (h : j < l.length), (l[j] :: l.eraseIdx j).Perm l
  | _ :: _, 0, _ => List.Perm.refl _
  | a :: l, j + 1, h => by
    have hj : j < l.length := Nat.lt_of_succ_lt_succ h
    have ih := erase_perm (l := l) (j := j) hj
    show (l[j] :: a :: l.eraseIdx j).Perm (a :: l)
    exact (List.Perm.swap _ _ _).trans (List.Perm.cons a ih)
theorem perm_pick {ys xs l : List V} {j : Nat} {y : V} (h : (ys ++ l).Perm xs) (hj : l[j]? = some y) : (ys ++ [y] ++ l.eraseIdx j).Perm xs := by
  refine List.Perm.trans ?_ h
  rw [List.append_assoc]
  refine List.Perm.append_left ys ?_
  show (y :: l.eraseIdx j).Perm l
  obtain ⟨hl, e⟩ := List.getElem?_eq_some_iff.mp hj
  rw [← e]
  exact erase_perm hl
section
variable {P : Program} {w : World} {K : PySem.W.Frag} {mg : Str → Option Value} {base : Heap}
theorem ok_some {f fT : Addr} {fd fdT : FuncData} (B : Bt mg) (D : Df K mg "_law_some" s__law_some f fd ["_law_box_here", "_law_items", "_law_many"]) (D__law_take : Df K mg "_law_take" sTake fT fdT ["_law_box_here", "_law_many"]) :
    FnOk P w K mg base CX0 2 f fd ["_law_box_here", "_law_items", "_law_many"] (spSome K) := by
  have G__law_take : FnOk P w K mg base CX0 1 fT fdT ["_law_box_here", "_law_many"] spTake := ok_take (CX := CX0) D__law_take.F B.m_int
  refine D.F.ok sc__law_some (fun vs H Q E h => ?_) (fun cdv A outer s H vs Q E hr h => ?_)
  · obtain ⟨b, l, xs, m, p, q, n, rfl, _⟩ := h
    rfl
  · obtain ⟨b, l, xs, m, p, q, n, rfl, hb, Bx, hS, hm, hx, hn, k⟩ := h
    have S := sc__law_some
    refine ⟨_, (pss_cons (ps_par (i := 3) (j := 4) (by rfl) S.nd rfl rfl (by decide) rfl rfl (pa_cons (pe_callTy call_list_of (by rfl) B.m_list PyProof.Rows.boot_list (pa_cons (pv 1) pa_nil)) (pa_cons (pe_lst pa_nil) pa_nil)) (by rfl))
      (pss_cons (ps_for PassesOwn.never rfl (pi_range1 (by rfl) B.m_range (pa_cons (pv 2) pa_nil)) (pg_name (i := 5) S.nd rfl (.inl rfl))
        (pss_one (ps_expr (pe_bm PySem.F.plainAttrs_list PySem.F.slot_list_append PySem.F.type_list_append mt_append (pv 4) (pa_cons (pe_bm PySem.F.plainAttrs_list PySem.F.slot_list_pop PySem.F.type_list_pop mt_popAt (pv 3) (pa_cons (pe_call G__law_take (hr.mono (by decide)) (by rfl) D__law_take.g D__law_take.F.kp D__law_take.b .nil pass0 (pa_cons (pv 0) (pa_cons (pe_callB call_len_seq (by rfl) B.m_len PySem.boot_len (pa_cons (pv 3) pa_nil)) pa_nil))) pa_nil)) pa_nil)))))
      (pss_one (ps_ret (pv 4))))), ?_⟩
    -- left, found
    refine ⟨.ref l, rfl, l, xs, rfl, .inl hS, fun a na => ?_⟩
    refine ⟨Nat.zero_le _, fun r nr => ?_⟩
    have nra : r ≠ a := fun e => by rw [e, upd_same] at nr; cases nr
    have nba : b ≠ a := ne_of_none hb na
    have s1 : Same H (upd H a (.lst xs)) := same_upd na
    have s2 : Same (upd H a (.lst xs)) (upd (upd H a (.lst xs)) r (.lst [])) := same_upd nr
    have nr0 : H r = none := s1.free nr
    refine ⟨_, _, rfl, ?_⟩
    refine ⟨.int m, rfl, m, rfl, by omega, by omega, ?_⟩
    show ∃ W : Nat → Nat → L2.St → Hp → Prop, _
    refine for_range (lo := 0) (n := (m : Int).toNat) (fun i σ H' => ∃ (ys left : List V) (p' n' : Int) (t : Option V), σ = [some (.ref b), some (.ref l), some (.int m), some (.ref a), some (.ref r), t] ∧
        SameBut b H H' ∧ H' b = some (.lst (bx p' q n')) ∧ Box p' q n' ∧ n' ≤ n + i ∧ H' a = some (.lst left) ∧ H' r = some (.lst ys) ∧ ys.length = i ∧ (ys ++ left).Perm xs) ?_ ?_ ?_
    · refine ⟨[], xs, p, n, none, rfl, (SameBut.of_same s1).trans (SameBut.of_same s2), s2 _ _ (s1 _ _ hb), Bx, by omega, ?_, upd_same, rfl, List.Perm.refl _⟩
      rw [upd_ne nra.symm, upd_same]
    · rintro i σ H' hi ⟨ys, left, p', n', t, rfl, sb, hb', Bx', hn', ha', hr', hy, hp⟩
      have hlen : ys.length + left.length = xs.length := by
        have z := hp.length_eq
        rw [List.length_append] at z
        exact z
      have hi' : i < m := by omega
      refine ⟨.ref r, rfl, .inl ⟨rfl, _, SqL.of hr'⟩, .ref a, rfl, .inl ⟨rfl, _, SqL.of ha'⟩, ?_⟩
      refine ⟨.ref b, rfl, .ref a, rfl, a, left, rfl, .inl (SqL.of ha'), ?_⟩
      refine ⟨b, left.length, p', q, n', rfl, hb', Bx', by omega, by omega, by omega, fun d p'' n'' d0 d1 B2 hn2 => ?_⟩
      have nab : a ≠ b := fun e => nba e.symm
      have nrb : r ≠ b := fun e => by rw [e, hb] at nr0; cases nr0
      have ha2 : (upd H' b (.lst (bx p'' q n''))) a = some (.lst left) := by rw [upd_ne nab]; exact ha'
      have hj : d.toNat < left.length := by omega
      refine ⟨a, left, d, d.toNat, left[d.toNat], rfl, rfl, ha2, by omega, by omega, seqIndex_in d0 (by omega), List.getElem?_eq_getElem hj, ?_⟩
      refine ⟨r, ys, left[d.toNat], rfl, rfl, ?_, ?_, ?_⟩
      · rw [upd_ne nra, upd_ne nrb]
        exact hr'
      · exact small1000 (by omega)
      · refine ⟨ys ++ [left[d.toNat]], left.eraseIdx d.toNat, p'', n'', _, rfl, ?_, ?_, B2, by omega, ?_, upd_same, ?_, perm_pick hp (List.getElem?_eq_getElem hj)⟩
        · intro c o nc hc
          have n1 : c ≠ r := ne_of_none hc nr0
          have n2 : c ≠ a := ne_of_none hc na
          rw [upd_ne n1, upd_ne n2, upd_ne nc]
          exact sb c o nc hc
        · rw [upd_ne nrb.symm, upd_ne nba, upd_same]
        · rw [upd_ne nra.symm, upd_same]
        · rw [List.length_append, hy]
          rfl
    · rintro σ H' ⟨ys, left, p', n', t, rfl, sb, hb', Bx', hn', ha', hr', hy, hp⟩
      exact ⟨.ref r, rfl, k H' r ys left p' n' sb nr0 hr' hb' Bx' (by omega) (by omega) hp⟩
end
end K5
namespace K5
open PySem PySem.Spec PyProof.Rows L2
/-! ### kinds of values -/
inductive Kd (H : Hp) : V → String → Prop
  | non : Kd H .non "NoneType"
  | bl (b : Bool) : Kd H (.bl b) "bool"
  | int (i : Int) : Kd H (.int i) "int"
  | str (x : Str) : Kd H (.str x) "str"
  | lst {a : Addr} {xs : List V} (h : H a = some (.lst xs)) : Kd H (.ref a) "list"
  | tup {a : Addr} {xs : List V} (h : H a = some (.tup xs)) : Kd H (.ref a) "tuple"
  | dK {a : Addr} {kvs : List (Key × V)} (h : H a = some (.dK kvs)) : Kd H (.ref a) "dict"
theorem Kd.ty {K : PySem.W.Frag} {H : Hp} {x : V} {T : String} (h : Kd H x T) : TyX K H x (.type T) := by
  cases h with
  | non => exact .base .non
  | bl b => exact .base (.bl b)
  | int i => exact .base (.int i)
  | str x => exact .base (.str x)
  | lst h => exact .base (.lst h)
  | tup h => exact .base (.tup h)
  | dK h => exact .base (.dK h)
theorem Kd.mono {H H' : Hp} {x : V} {T : String} (h : Kd H x T) (e : Same H H') : Kd H' x T := by
  cases h with
  | non => exact .non
  | bl b => exact .bl b
  | int i => exact .int i
  | str x => exact .str x
  | lst h => exact .lst (e _ _ h)
  | tup h => exact .tup (e _ _ h)
  | dK h => exact .dK (e _ _ h)
def isI : V → Bool
  | .int _ => true
  | _ => false
def isIB : V → Bool
  | .int _ => true
  | .bl _ => true
  | _ => false
def isB : V → Bool
  | .bl _ => true
  | _ => false
def isS : V → Bool
  | .str _ => true
  | _ => false
theorem Kd.int_ {H : Hp} {x : V} {T : String} (h : Kd H x T) : kitB T "int" = some (isIB x) := by cases h <;> (simp only [isIB, isB, isS]; decide +kernel)
theorem Kd.bool_ {H : Hp} {x : V} {T : String} (h : Kd H x T) : kitB T "bool" = some (isB x) := by cases h <;> (simp only [isIB, isB, isS]; decide +kernel)
theorem Kd.str_ {H : Hp} {x : V} {T : String} (h : Kd H x T) : kitB T "str" = some (isS x) := by cases h <;> (simp only [isIB, isB, isS]; decide +kernel)
section
variable {X : Cx} {K : PySem.W.Frag} {σ : L2.St} {H : Hp} {ta tb tc : TE} {i j k : Int} {p : Addr} {xs : List V} {v x : V} {a b : Bool}
theorem val_isi {T C : String} (ha : Val ta σ H x) (hx : Kd H x T) (h : kitB T C = some b) : Val (tCB (rIsi K) (tCons ta (tCons (tC (.ty C)) tNil))) σ H (.bl b) := fun Q q =>
  ha _ ⟨x, .ty C, .type T, .type C, b, rfl, .ty C, hx.ty, kit_ty h, q⟩
theorem val_andV (ha : Val ta σ H (.bl a)) (hb : a = true → Val tb σ H (.bl b)) : Val (tAndV ta tb) σ H (.bl (a && b)) := fun Q q => ha _ ⟨a, rfl, by
  cases a with
  | true => exact iteT (hb rfl _ q)
  | false => exact iteF q⟩
theorem val_notV (ha : Val ta σ H (.bl a)) : Val (tNotV ta) σ H (.bl (!a)) := fun Q q => ha _ ⟨a, rfl, q⟩
theorem val_chain {g1 g2 : Int → Int → Bool} (ha : Val ta σ H (.int i)) (hb : Val tb σ H (.int j)) (hc : Val tc σ H (.int k)) :
    Val (tChain (rI0 fun i j => .bl (g1 i j)) (rI0 fun i j => .bl (g2 i j)) ta tb tc) σ H (.bl (g1 i j && g2 j k)) := fun Q q =>
  ha _ (hb _ ⟨i, j, rfl, rfl, g1 i j, rfl, by
    cases e : g1 i j with
    | true =>
      rw [e] at q
      exact iteT (hc _ ⟨j, k, rfl, rfl, q⟩)
    | false =>
      rw [e] at q
      exact iteF q⟩)
theorem pe_tyN {n : String} {y : Str} {pos : Pos} (hv : bootBuiltins y = some (.type n)) (hg : Gl X y) (hm : X.mg y = none) (hn : y ≠ "__name__" := by decide) (hdb : (y == ("__debug__" : Str)) = false := by decide) : PE X (.Name y pos) (tC (.ty n)) := pe_bltn hg hm hv rfl (hn := hn) (hd := hdb)
theorem bt_int : bootBuiltins "int" = some (.type "int") := by decide +kernel
theorem bt_bool : bootBuiltins "bool" = some (.type "bool") := by decide +kernel
theorem bt_str : bootBuiltins "str" = some (.type "str") := by decide +kernel
theorem val_call {sp : Sp} {E : XK} {t : TA} {vs : List V} (h : ∀ Q : List V → Hp → Prop, Q vs H → t σ H Q) (hs : ∀ Q : VK, Q v H → sp vs H Q E) : Val (tCall sp [] E t) σ H v := fun Q q =>
  h _ (by rw [List.append_nil]; exact hs Q q)
theorem va_nil : ∀ Q : List V → Hp → Prop, Q [] H → tNil σ H Q := fun _ q => q
theorem va_cons {t : TA} {vs : List V} (ha : Val ta σ H v) (ht : ∀ Q : List V → Hp → Prop, Q vs H → t σ H Q) : ∀ Q : List V → Hp → Prop, Q (v :: vs) H → tCons ta t σ H Q := fun Q q => ha _ (ht _ q)
def rLenS : List V → Hp → VK → Prop := fun xs H Q => ∃ z, xs = [.str z] ∧ z.length ≤ sizeLine ∧ Q (.int z.length) H
theorem val_lenS {z : Str} (h : Val ta σ H (.str z)) (hz : z.length ≤ sizeLine) : Val (tCB rLenS (tCons ta tNil)) σ H (.int z.length) := fun Q q => h _ ⟨z, rfl, hz, q⟩
theorem val_sb0 {g : Str → Bool} {z : Str} (h : Val ta σ H (.str z)) : Val (tBM0 K "str" (fun x xs H Q => ∃ a, x = .str a ∧ xs = [] ∧ True ∧ Q (.bl (g a)) H) ta) σ H (.bl (g z)) := fun Q q =>
  h _ ⟨rfl, z, rfl, rfl, True.intro, q⟩
end
/-! ### forms -/
def worthsOk : V → Bool
  | .int i => decide (2 ≤ i) && decide (i ≤ 4)
  | _ => false
def isName (z : Str) : Bool := (decide ((1 : Int) ≤ (z.length : Int)) && decide ((z.length : Int) ≤ 8)) && (Txt.isascii z && (Txt.isalpha z && Txt.islower z))
def isDoor (z : Str) : Bool := isName z && !decide (V.str z = V.str "any")
def spIsInt : Sp := fun vs H Q _ => ∃ (x : V) (T : String), vs = [x] ∧ Kd H x T ∧ Q (.bl (isI x)) H
def spIsWorths : Sp := fun vs H Q _ => ∃ (x : V) (T : String), vs = [x] ∧ Kd H x T ∧ Q (.bl (worthsOk x)) H
def spIsName : Sp := fun vs H Q _ => ∃ z : Str, vs = [.str z] ∧ z.length ≤ 10000000 ∧ Q (.bl (isName z)) H
def spIsDoor : Sp := fun vs H Q _ => ∃ z : Str, vs = [.str z] ∧ z.length ≤ 10000000 ∧ Q (.bl (isDoor z)) H
abbrev s_is_integer : Stmt := topS 5
theorem sc_is_integer : FnScope ["value"] ["value"] (defScope s_is_integer) := ⟨rfl, rfl, rfl, by decide +kernel, rfl, by decide +kernel, by decide +kernel⟩
abbrev s_is_worths : Stmt := topS 6
theorem sc_is_worths : FnScope ["value"] ["value"] (defScope s_is_worths) := ⟨rfl, rfl, rfl, by decide +kernel, rfl, by decide +kernel, by decide +kernel⟩
abbrev s_is_name : Stmt := topS 7
theorem sc_is_name : FnScope ["value"] ["value"] (defScope s_is_name) := ⟨rfl, rfl, rfl, by decide +kernel, rfl, by decide +kernel, by decide +kernel⟩
abbrev s_is_door : Stmt := topS 8
theorem sc_is_door : FnScope ["value"] ["value"] (defScope s_is_door) := ⟨rfl, rfl, rfl, by decide +kernel, rfl, by decide +kernel, by decide +kernel⟩
theorem big_size {n : Nat} (h : n ≤ 10000000) : n ≤ sizeLine := Nat.le_trans h (by decide)
section
variable {P : Program} {w : World} {K : PySem.W.Frag} {mg : Str → Option Value} {base : Heap}
theorem ok_is_integer {f : Addr} {fd : FuncData} (B : Bt mg) (D : Df K mg "is_integer" s_is_integer f fd ["value"]) : FnOk P w K mg base CX0 1 f fd ["value"] spIsInt := by
  refine D.F.ok sc_is_integer (fun vs H Q E h => ?_) (fun cdv A outer s H vs Q E hr h => ?_)
  · obtain ⟨x, T, rfl, _⟩ := h
    rfl
  · obtain ⟨x, T, rfl, hx, k⟩ := h
    have S := sc_is_integer
    refine ⟨_, (pss_one (ps_ret (pe_and (pe_callB call_isi (by rfl) B.m_isinstance PyProof.Rows.boot_isinstance (pa_cons (pv 0) (pa_cons (pe_tyN bt_int (by rfl) B.m_int) pa_nil))) (pe_one (pe_not (pe_callB call_isi (by rfl) B.m_isinstance PyProof.Rows.boot_isinstance (pa_cons (pv 0) (pa_cons (pe_tyN bt_bool (by rfl) B.m_bool) pa_nil)))))))), ?_⟩
    refine (val_andV (val_isi (val_var rfl) hx hx.int_) fun _ => val_notV (val_isi (val_var rfl) hx hx.bool_)) _ ?_
    have e : (isIB x && !isB x) = isI x := by cases x <;> rfl
    rw [e]
    exact k
theorem ok_is_worths {f fI : Addr} {fd fdI : FuncData} (B : Bt mg) (D : Df K mg "is_worths" s_is_worths f fd ["value"]) (D_is_integer : Df K mg "is_integer" s_is_integer fI fdI ["value"]) : FnOk P w K mg base CX0 2 f fd ["value"] spIsWorths := by
  have G_is_integer : FnOk P w K mg base CX0 1 fI fdI ["value"] spIsInt := ok_is_integer B D_is_integer
  refine D.F.ok sc_is_worths (fun vs H Q E h => ?_) (fun cdv A outer s H vs Q E hr h => ?_)
  · obtain ⟨x, T, rfl, _⟩ := h
    rfl
  · obtain ⟨x, T, rfl, hx, k⟩ := h
    have S := sc_is_worths
    refine ⟨_, (pss_one (ps_ret (pe_and (pe_call G_is_integer (hr.mono (by decide)) (by rfl) D_is_integer.g D_is_integer.F.kp D_is_integer.b .nil pass0 (pa_cons (pv 0) pa_nil)) (pe_one (pe_chain op_le op_le pe_int (pv 0) pe_int))))), ?_⟩
    refine (val_call (va_cons (val_var rfl) va_nil) fun Q q => ⟨x, T, rfl, hx, q⟩) _ ⟨_, rfl, ?_⟩
    cases hx with
    | int i => exact iteT ((val_chain val_c (val_var rfl) val_c) _ k)
    | _ => exact iteF k
theorem ok_is_name {f : Addr} {fd : FuncData} (B : Bt mg) (D : Df K mg "is_name" s_is_name f fd ["value"]) : FnOk P w K mg base CX0 1 f fd ["value"] spIsName := by
  refine D.F.ok sc_is_name (fun vs H Q E h => ?_) (fun cdv A outer s H vs Q E hr h => ?_)
  · obtain ⟨z, rfl, _⟩ := h
    rfl
  · obtain ⟨z, rfl, hz, k⟩ := h
    have S := sc_is_name
    refine ⟨_, (pss_cons (ps_if (pt_not (pt_val (pe_callB call_isi (by rfl) B.m_isinstance PyProof.Rows.boot_isinstance (pa_cons (pv 0) (pa_cons (pe_tyN bt_str (by rfl) B.m_str) pa_nil)))))
        (pss_one (ps_ret pe_bl))
        pss_nil)
      (pss_one (ps_ret (pe_and (pe_chain op_le op_le pe_int (pe_callB call_len_str (by rfl) B.m_len PySem.boot_len (pa_cons (pv 0) pa_nil)) pe_int) (pe_and (pe_bm0 PySem.F.plainAttrs_str PySem.F.slot_str_isascii PySem.F.type_str_isascii mt_isascii (pv 0)) (pe_and (pe_bm0 PySem.F.plainAttrs_str PySem.F.slot_str_isalpha PySem.F.type_str_isalpha mt_isalpha (pv 0)) (pe_one (pe_bm0 PySem.F.plainAttrs_str PySem.F.slot_str_islower PySem.F.type_str_islower mt_islower (pv 0))))))))), ?_⟩
    refine (val_isi (val_var rfl) (.str z) (Kd.str_ (H := H) (.str z))) _ ⟨_, rfl, ?_⟩
    refine iteF ?_
    exact (val_andV (val_chain val_c (val_lenS (val_var rfl) (big_size hz)) val_c) fun _ => val_andV (val_sb0 (val_var rfl)) fun _ => val_andV (val_sb0 (val_var rfl)) fun _ => val_sb0 (val_var rfl)) _ k
theorem ok_is_door {f fN : Addr} {fd fdN : FuncData} (B : Bt mg) (D : Df K mg "is_door" s_is_door f fd ["value"]) (D_is_name : Df K mg "is_name" s_is_name fN fdN ["value"]) : FnOk P w K mg base CX0 2 f fd ["value"] spIsDoor := by
  have G_is_name : FnOk P w K mg base CX0 1 fN fdN ["value"] spIsName := ok_is_name B D_is_name
  refine D.F.ok sc_is_door (fun vs H Q E h => ?_) (fun cdv A outer s H vs Q E hr h => ?_)
  · obtain ⟨z, rfl, _⟩ := h
    rfl
  · obtain ⟨z, rfl, hz, k⟩ := h
    have S := sc_is_door
    refine ⟨_, (pss_one (ps_ret (pe_and (pe_call G_is_name (hr.mono (by decide)) (by rfl) D_is_name.g D_is_name.F.kp D_is_name.b .nil pass0 (pa_cons (pv 0) pa_nil)) (pe_one (pe_cmpR op_ne (pv 0) pe_str (nomark _)))))), ?_⟩
    exact (val_andV (val_call (va_cons (val_var rfl) va_nil) fun Q q => ⟨z, rfl, hz, q⟩) fun _ => val_op (val_var rfl) val_c fun Q q => ⟨rfl, q⟩) _ k
end
end K5
namespace K5
open PySem PySem.Spec PyProof.Rows L2
/-! ### numbers as words -/
theorem dec_range : ∀ c : Nat, c < 128 → Unicode.isDecimal c = true → 48 ≤ c ∧ c < 58 := by
  have h : ∀ c : Fin 128, Unicode.isDecimal c.val = true → 48 ≤ c.val ∧ c.val < 58 := by decide +kernel
  exact fun c hc => h ⟨c, hc⟩
def okNum (z : Str) : Bool := match PySem.intText? z with
  | some n => decide (0 ≤ n ∧ n ≤ 999)
  | none => false
theorem okNum_spec {z : Str} (h : okNum z = true) : ∃ n, PySem.intText? z = some n ∧ 0 ≤ n ∧ n ≤ 999 := by
  unfold okNum at h
  cases e : PySem.intText? z with
  | none => rw [e] at h; cases h
  | some n =>
    rw [e] at h
    exact ⟨n, rfl, of_decide_eq_true h⟩
theorem ok1 : ∀ a : Fin 10, okNum ⟨#[48 + a.val]⟩ = true := by decide +kernel
theorem ok2 : ∀ a b : Fin 10, okNum ⟨#[48 + a.val, 48 + b.val]⟩ = true := by decide +kernel
theorem ok3 : ∀ a b c : Fin 10, okNum ⟨#[48 + a.val, 48 + b.val, 48 + c.val]⟩ = true := by decide +kernel
theorem digits3 {z : Str} (h3 : z.length ≤ 3) (ha : Txt.isascii z = true) (hd : Txt.isdecimal z = true) : okNum z = true := by
  obtain ⟨⟨l⟩⟩ := z
  have hall : ∀ c ∈ l, 48 ≤ c ∧ c < 58 := by
    intro c hc
    unfold Txt.isascii at ha
    unfold Txt.isdecimal at hd
    rw [Bool.and_eq_true] at hd
    have h1 := hd.2
    rw [List.all_toArray, List.all_eq_true] at h1 ha
    exact dec_range c (of_decide_eq_true (ha c hc)) (h1 c hc)
  have hl : 0 < l.length := by
    unfold Txt.isdecimal at hd
    rw [Bool.and_eq_true] at hd
    exact of_decide_eq_true hd.1
  have hl3 : l.length ≤ 3 := h3
  match l, hl, hl3, hall with
  | [a], _, _, hall =>
    have q := hall a (by simp)
    have z := ok1 ⟨a - 48, by omega⟩
    rw [show 48 + (a - 48) = a by omega] at z
    exact z
  | [a, b], _, _, hall =>
    have q1 := hall a (by simp)
    have q2 := hall b (by simp)
    have z := ok2 ⟨a - 48, by omega⟩ ⟨b - 48, by omega⟩
    rw [show 48 + (a - 48) = a by omega, show 48 + (b - 48) = b by omega] at z
    exact z
  | [a, b, c], _, _, hall =>
    have q1 := hall a (by simp)
    have q2 := hall b (by simp)
    have q3 := hall c (by simp)
    have z := ok3 ⟨a - 48, by omega⟩ ⟨b - 48, by omega⟩ ⟨c - 48, by omega⟩
    rw [show 48 + (a - 48) = a by omega, show 48 + (b - 48) = b by omega, show 48 + (c - 48) = c by omega] at z
    exact z
def numV (z : Str) : Int := (PySem.intText? z).getD 0
def numOf (z : Str) (many : Int) : Int :=
  if (decide ((3 : Int) < (z.length : Int)) || !(Txt.isascii z && Txt.isdecimal z)) = true then -1
  else if (decide (V.str (toString (numV z)) = V.str z) && decide (numV z < many)) = true then numV z else -1
section
variable {X : Cx} {K : PySem.W.Frag} {σ : L2.St} {H : Hp} {ta tb tc : TE} {t u : TT} {i j k : Int} {p : Addr} {xs : List V} {v x : V} {a b : Bool}
theorem ans_or2 (h1 : Ans t σ H a) (h2 : a = false → Ans u σ H b) : Ans (tOr t u) σ H (a || b) := by
  intro Q q
  refine h1 _ ?_
  cases a with
  | true => exact iteT q
  | false => exact iteF (h2 rfl Q q)
theorem ans_and3 (h1 : Ans t σ H a) (h2 : a = true → Ans u σ H b) : Ans (tAnd t u) σ H (a && b) := by
  intro Q q
  refine h1 _ ?_
  cases a with
  | true => exact iteT (h2 rfl Q q)
  | false => exact iteF q
theorem ans_i0 {g : Int → Int → Bool} (ha : Val ta σ H (.int i)) (hb : Val tb σ H (.int j)) : Ans (tTest (tOp (rI0 fun i j => .bl (g i j)) ta tb)) σ H (g i j) := fun Q q =>
  (val_i0b ha hb) _ ⟨_, rfl, q⟩
theorem ans_eq2 (ha : Val ta σ H x) (hb : Val tb σ H v) (hs : scal x v = true) : Ans (tTest (tOp rEq ta tb)) σ H (decide (x = v)) := ans_eq ha hb hs rfl
theorem val_ite (ht : Ans t σ H a) (h1 : a = true → Val ta σ H x) (h2 : a = false → Val tb σ H v) : Val (tIf t ta tb) σ H (if a = true then x else v) := fun Q q => ht _ (by
  cases a with
  | true => exact iteT (h1 rfl Q q)
  | false => exact iteF (h2 rfl Q q))
theorem val_neg (h : Val ta σ H (.int i)) : Val (tUn (rU fun i => .int (-i)) ta) σ H (.int (-i)) := fun Q q => h _ ⟨i, rfl, q⟩
theorem val_intS {z : Str} {n : Int} (h : Val ta σ H (.str z)) (hn : PySem.intText? z = some n) (hl : z.length ≤ 640) : Val (tCB (fun xs H Q => ∃ a n, xs = [.str a] ∧ PySem.intText? a = some n ∧ a.length ≤ 640 ∧ Q (.int n) H) (tCons ta tNil)) σ H (.int n) := fun Q q => h _ ⟨z, n, rfl, hn, hl, q⟩
theorem val_strI {n : Int} (h : Val ta σ H (.int n)) (hl : n.natAbs.log2 < 1920) : Val (tCB (fun xs H Q => ∃ i, xs = [.int i] ∧ i.natAbs.log2 < 1920 ∧ Q (.str (toString i)) H) (tCons ta tNil)) σ H (.str (toString n)) := fun Q q => h _ ⟨n, rfl, hl, q⟩
end
def spNumber : Sp := fun vs H Q _ => ∃ (z : Str) (m : Int), vs = [.str z, .int m] ∧ z.length ≤ 10000000 ∧ Q (.int (numOf z m)) H
abbrev s_number : Stmt := topS 11
theorem sc_number : FnScope ["word", "many", "worth"] ["word", "many"] (defScope s_number) := ⟨rfl, rfl, rfl, by decide +kernel, rfl, by decide +kernel, by decide +kernel⟩
theorem log_small {n : Nat} (h : n ≤ 999) : n.log2 < 1920 := by
  by_cases h0 : n = 0
  · rw [h0]; decide
  · exact Nat.lt_of_lt_of_le ((Nat.log2_lt h0).mpr (show n < 2 ^ 10 by omega)) (by decide)
section
variable {P : Program} {w : World} {K : PySem.W.Frag} {mg : Str → Option Value} {base : Heap}
theorem ok_number {f : Addr} {fd : FuncData} (B : Bt mg) (D : Df K mg "number" s_number f fd ["word", "many"]) : FnOk P w K mg base CX0 1 f fd ["word", "many"] spNumber := by
  refine D.F.ok sc_number (fun vs H Q E h => ?_) (fun cdv A outer s H vs Q E hr h => ?_)
  · obtain ⟨z, m, rfl, _⟩ := h
    rfl
  · obtain ⟨z, m, rfl, hz, k⟩ := h
    have S := sc_number
    refine ⟨_, (pss_cons (ps_if (PW.pt (pw_or (pt_cmpR op_gt (pe_callB call_len_str (by rfl) B.m_len PySem.boot_len (pa_cons (pv 0) pa_nil)) pe_int (nomark _)) (pw_or1 (pt_not (PW.pt (pw_and (pt_val (pe_bm0 PySem.F.plainAttrs_str PySem.F.slot_str_isascii PySem.F.type_str_isascii mt_isascii (pv 0))) (pw_and1 (pt_val (pe_bm0 PySem.F.plainAttrs_str PySem.F.slot_str_isdecimal PySem.F.type_str_isdecimal mt_isdecimal (pv 0))))))))))
        (pss_one (ps_ret (pe_un un_neg pe_int)))
        pss_nil)
      (pss_cons (ps_set (i := 2) S.nd rfl (.inl rfl) (pe_callTy call_int_str (by rfl) B.m_int PyProof.Rows.boot_int (pa_cons (pv 0) pa_nil)))
      (pss_one (ps_ret (pe_ifExp (PW.pt (pw_and (pt_cmpR op_eq (pe_callTy call_str_int (by rfl) B.m_str (by decide +kernel) (pa_cons (pv 2) pa_nil)) (pv 0) (nomark _)) (pw_and1 (pt_cmpR op_lt (pv 2) (pv 1) (nomark _))))) (pv 2) (pe_un un_neg pe_int)))))), ?_⟩
    refine (ans_or2 (ans_i0 (val_lenS (val_var rfl) (big_size hz)) val_c) fun _ => ans_not (ans_and3 (ans_val (val_sb0 (val_var rfl))) fun _ => ans_val (val_sb0 (val_var rfl)))) _ ?_
    by_cases c : (decide ((3 : Int) < (z.length : Int)) || !(Txt.isascii z && Txt.isdecimal z)) = true
    · rw [c]
      refine iteT ((val_neg val_c) _ ?_)
      have e : numOf z m = -1 := if_pos c
      rw [e] at k
      exact k
    · have e : numOf z m = if (decide (V.str (toString (numV z)) = V.str z) && decide (numV z < m)) = true then numV z else -1 := if_neg c
      rw [Bool.not_eq_true] at c
      rw [c]
      rw [Bool.or_eq_false_iff, Bool.not_eq_false', Bool.and_eq_true] at c
      obtain ⟨c1, c2, c3⟩ := c
      have h3 : z.length ≤ 3 := by
        have := of_decide_eq_false c1
        omega
      obtain ⟨n, hn, n0, n1⟩ := okNum_spec (digits3 h3 c2 c3)
      have en : numV z = n := by
        unfold numV
        rw [hn]
        rfl
      refine iteF ?_
      dsimp only [tNext, tSeq, tAsg]
      refine (val_intS (val_var rfl) hn (by omega)) _ ?_
      refine (val_ite (ans_and3 (ans_eq2 (val_strI (val_var rfl) (log_small (by omega))) (val_var rfl) rfl) fun _ => ans_i0 (val_var rfl) (val_var rfl)) (fun _ => val_var rfl) fun _ => val_neg val_c) _ ?_
      rw [en] at e
      rw [e] at k
      cases q : (decide (V.str (toString n) = V.str z) && decide (n < m)) with
      | true =>
        rw [q, if_pos rfl] at k
        rw [if_pos rfl]
        exact k
      | false =>
        rw [q, if_neg Bool.false_ne_true] at k
        rw [if_neg Bool.false_ne_true]
        exact k
end
end K5
namespace K5
open PySem PySem.Spec PyProof.Rows L2
/-! ### errors -/
/-- the error x's class at C, its __init__ at fI -/
structure Er (K : PySem.W.Frag) (mg : Str → Option Value) (x : Str) (C fI : Addr) : Prop where
  O : OexC K C
  g : mg x = some (.ref C)
  iC : PySem.W.findIn K (.ref C) "__init__" = some (some (.ref fI))
  tI : PySem.W.typeIn K (.ref fI) = some (.type "function")
  nv : PySem.W.findIn K (.ref C) "value" = some none
/-- an error of the class at C with this value lies behind H -/
def ErrK (C : Addr) (v : V) (H : Hp) (E : XK) : Prop := ∀ (d : Addr) (H' : Hp), Same H H' → H d = none → H' d = some (.xd [(("value" : Str), v)]) → E (.ref C) (some d) H'
theorem ErrK.mono {C : Addr} {v : V} {H H1 : Hp} {E : XK} (h : ErrK C v H E) (e : Same H H1) : ErrK C v H1 E := fun d H' e2 nd hd => h d H' (e.trans e2) (e.free nd) hd
def spErr (K : PySem.W.Frag) : Sp := fun vs H Q _ => ∃ (a C : Addr) (v : V), vs = [.ref a, v] ∧ OexC K C ∧ PySem.W.findIn K (.ref C) "value" = some none ∧ H a = some (exo a C none) ∧
  ∀ dx, H dx = none → dx ≠ a → Q .non (upd (upd H dx (exd dx [(("value" : Str), v)])) a (exo a C (some dx)))
abbrev s_err : Stmt := inClass (topS 1) 0
theorem sc_err : FnScope ["self", "value"] ["self", "value"] (defScope s_err) := ⟨rfl, rfl, rfl, by decide +kernel, rfl, by decide +kernel, by decide +kernel⟩
section
variable {P : Program} {w : World} {K : PySem.W.Frag} {mg : Str → Option Value} {base : Heap}
theorem ok_err {f : Addr} {fd : FuncData} (F : Fun K "__init__" "WireError.__init__" s_err f fd) : FnOk P w K mg base CX0 1 f fd ["self", "value"] (spErr K) := by
  refine F.ok sc_err (fun vs H Q E h => ?_) (fun cdv A outer s H vs Q E hr h => ?_)
  · obtain ⟨a, C, v, rfl, _⟩ := h
    rfl
  · obtain ⟨a, C, v, rfl, T, hn, ha, k⟩ := h
    refine ⟨_, pss_one (ps_ost (pv 0) (pv 1)), ?_⟩
    exact ⟨v, rfl, .ref a, rfl, a, C, rfl, T, hn, .inl ⟨ha, fun dx nd ne => k dx nd ne⟩⟩
end
/-- raise X(e), the value of e known -/
theorem raise_run {K : PySem.W.Frag} {C : Addr} {ta : TE} {σ : L2.St} {H : Hp} {v : V} {Q : XK} (T : OexC K C) (hn : PySem.W.findIn K (.ref C) "value" = some none) (hv : Val ta σ H v) (h : ErrK C v H Q) :
    tMkO C (spErr K) [] (tCons ta tNil) σ H Q := by
  refine hv _ ⟨by show 1 ≤ 1000; decide, fun a na => ?_⟩
  refine ⟨a, C, v, rfl, T, hn, upd_same, fun dx nd ne => ⟨rfl, dx, [(("value" : Str), v)], upd_same, ?_, ?_, ?_⟩⟩
  · rw [upd_ne ne, upd_same]
  · rw [upd_ne ne] at nd
    exact nd
  · have nd' : H dx = none := by
      rw [upd_ne ne] at nd
      exact nd
    refine h dx _ (fun b o e => ?_) nd' upd_same
    have n1 : b ≠ dx := ne_of_none e nd'
    have n2 : b ≠ a := ne_of_none e na
    rw [upd_ne n1, del_ne n2, upd_ne n2, upd_ne n1, upd_ne n2]
    exact e
/-! ### texts -/
def rRepS : R2 := fun x y H Q => ∃ z n, x = .str z ∧ y = .int n ∧ MulOk z n ∧ Q (.str (Txt.mul z n)) H
theorem op_repS {X : Cx} : OpR X (binaryOp .Mult) rRepS := by
  intro pins s σ H x y v u Q I rx ry h
  obtain ⟨z, n, rfl, rfl, hc, q⟩ := h
  obtain ⟨t, rfl⟩ := rx
  obtain ⟨t', rfl⟩ := ry
  exact SB.mul hc fun t' k => ⟨.str _, H, I.tok _, ⟨_, rfl⟩, q⟩
/-! ### lines -/
theorem lk_hd {f : Str} {v : V} {r : List (Str × V)} : List.lookup f ((f, v) :: r) = some v := by simp [List.lookup]
theorem lk_tl {f g : Str} {v : V} {r : List (Str × V)} (h : ¬ f = g) : List.lookup f ((g, v) :: r) = List.lookup f r := by
  have e : (f == g) = false := by simpa using h
  simp [List.lookup, e]
theorem put_hd {f : Str} {v x : V} {r : List (Str × V)} : putF f v ((f, x) :: r) = (f, v) :: r := by
  unfold putF
  rw [if_pos rfl]
theorem put_tl {f g : Str} {v x : V} {r : List (Str × V)} (h : ¬ g = f) : putF f v ((g, x) :: r) = (g, x) :: putF f v r := by
  show (if g = f then _ else _) = _
  rw [if_neg h]
structure ClL (K : PySem.W.Frag) (C : Addr) : Prop where
  cl : Cls K C
  nr : NoAttr K C "rows"
  na : NoAttr K C "at"
def lf (r : Addr) (n : Int) : List (Str × V) := [("rows", .ref r), ("at", .int n)]
theorem lf_rows {r : Addr} {n : Int} : (lf r n).lookup ("rows" : Str) = some (.ref r) := lk_hd
theorem lf_at {r : Addr} {n : Int} : (lf r n).lookup ("at" : Str) = some (.int n) := (lk_tl (by decide +kernel)).trans lk_hd
theorem lf_no {r : Addr} {n : Int} {m : Str} (h1 : ¬ m = "rows") (h2 : ¬ m = "at") : (lf r n).lookup m = none := (lk_tl h1).trans (lk_tl h2)
theorem lf_put {r : Addr} {n k : Int} : putF "at" (.int k) (lf r n) = lf r k := (put_tl (by decide +kernel)).trans (congrArg _ put_hd)
/-- a reader of these rows, at a line -/
structure LinesAt (C : Addr) (H : Hp) (l dx r : Addr) (rows : List Str) (n : Nat) : Prop where
  o : H l = some (.ins C dx (lf r n))
  r : H r = some (.lst (rows.map V.str))
  le : n ≤ rows.length
theorem LinesAt.mono {C : Addr} {H H' : Hp} {l dx r : Addr} {rows : List Str} {n : Nat} (h : LinesAt C H l dx r rows n) (e : Same H H') : LinesAt C H' l dx r rows n := ⟨e _ _ h.o, e _ _ h.r, h.le⟩
/-- sizes that are never met -/
structure Sz (rows : List Str) : Prop where
  len : rows.length ≤ 14001
  row : ∀ z ∈ rows, z.length ≤ 14000
  ok : ∀ z ∈ rows, PyData.strOk z = true
/-! ### what stands in the parts of a text -/
theorem cps_append (x y : Str) : (x ++ y).cps.toList = x.cps.toList ++ y.cps.toList := by
  show (x.cps ++ y.cps).toList = _
  exact Array.toList_append
theorem join_mem {y p : Str} {c : Nat} : ∀ {ps : List Str}, p ∈ ps → c ∈ p.cps.toList → c ∈ (Str.join y ps).cps.toList
  | [x], hp, hc => by
    have e : p = x := by simpa using hp
    rw [← e]
    exact hc
  | x :: z :: r, hp, hc => by
    show c ∈ (x ++ y ++ Str.join y (z :: r)).cps.toList
    rw [cps_append, cps_append]
    rcases List.mem_cons.mp hp with e | e
    · rw [e] at hc
      exact List.mem_append_left _ (List.mem_append_left _ hc)
    · exact List.mem_append_right _ (join_mem e hc)
theorem join_len {y p : Str} : ∀ {ps : List Str}, p ∈ ps → p.length ≤ (Str.join y ps).length
  | [x], hp => by
    have e : p = x := by simpa using hp
    rw [← e]
    exact Nat.le_refl _
  | x :: z :: r, hp => by
    have e0 : (Str.join y (x :: z :: r)).length = x.length + y.length + (Str.join y (z :: r)).length := by
      show (x.cps ++ y.cps ++ (Str.join y (z :: r)).cps).size = _
      rw [Array.size_append, Array.size_append]
      rfl
    rw [e0]
    rcases List.mem_cons.mp hp with e | e
    · rw [e]
      omega
    · have := join_len (y := y) e
      omega
theorem join_many {y : Str} (hy : 1 ≤ y.length) : ∀ {ps : List Str}, ps.length ≤ (Str.join y ps).length + 1
  | [] => Nat.zero_le _
  | [x] => Nat.le_add_left _ _
  | x :: z :: r => by
    have ih := join_many hy (ps := z :: r)
    have e0 : (Str.join y (x :: z :: r)).length = x.length + y.length + (Str.join y (z :: r)).length := by
      show (x.cps ++ y.cps ++ (Str.join y (z :: r)).cps).size = _
      rw [Array.size_append, Array.size_append]
      rfl
    rw [e0, List.length_cons]
    omega
theorem split_len {x y p : Str} (h : p ∈ Txt.split x y) : p.length ≤ x.length := by
  have := join_len (y := y) h
  rw [StrLaws.join_split] at this
  exact this
theorem split_ok {x y p : Str} (h : p ∈ Txt.split x y) (hx : PyData.strOk x = true) : PyData.strOk p = true := by
  unfold PyData.strOk at hx ⊢
  rw [Array.all_eq_true'] at hx ⊢
  intro c hc
  have := join_mem (y := y) h (Array.mem_toList_iff.mpr hc)
  rw [StrLaws.join_split] at this
  exact hx c (Array.mem_toList_iff.mp this)
theorem cut_ok {x : Str} {lo hi : Option Int} (hx : PyData.strOk x = true) : PyData.strOk (cutS x lo hi) = true := by
  unfold PyData.strOk at hx ⊢
  rw [Array.all_eq_true'] at hx ⊢
  intro c hc
  refine hx c (Array.mem_toList_iff.mp ?_)
  have h1 : c ∈ (cutS x lo hi).cps.toList := Array.mem_toList_iff.mpr hc
  have h2 : c ∈ (x.cps.toList.drop (HT.sIx x.length 0 lo)).take (HT.sIx x.length x.length hi - HT.sIx x.length 0 lo) := h1
  exact List.mem_of_mem_drop (List.mem_of_mem_take h2)
theorem sz_rows {z : Str} (hz : z.length ≤ 14000) (ho : PyData.strOk z = true) : Sz (Txt.split z "\n") where
  len := by
    have := join_many (y := "\n") (by decide +kernel) (ps := Txt.split z "\n")
    rw [StrLaws.join_split] at this
    omega
  row := fun p hp => Nat.le_trans (split_len hp) hz
  ok := fun p hp => split_ok hp ho
def margin (dp : Nat) : Str := Txt.mul "  " (dp : Int)
def cleanWords (ws : List Str) : List Str := if inV (.str "") (ws.map V.str) = true then [] else ws
def restWords (row : Str) (dp : Nat) : List Str := Txt.split (cutS row (some ((margin dp).length : Int)) none) " "
def rowWords (row : Str) (dp : Nat) : List Str := if Txt.startswith row (margin dp) = true then cleanWords (restWords row dp) else []
def wordsAt (rows : List Str) (n dp : Nat) : List Str := match rows[n]? with
  | none => []
  | some row => rowWords row dp
theorem words_ok {rows : List Str} {n dp : Nat} (sz : Sz rows) : ∀ z ∈ wordsAt rows n dp, PyData.strOk z = true ∧ z.length ≤ 14000 := by
  intro z hz
  unfold wordsAt at hz
  cases e : rows[n]? with
  | none =>
    rw [e] at hz
    cases hz
  | some row =>
    rw [e] at hz
    have hr : row ∈ rows := List.mem_of_getElem? e
    have h2 : z ∈ restWords row dp := by
      unfold rowWords cleanWords at hz
      dsimp only at hz
      split at hz
      · split at hz
        · cases hz
        · exact hz
      · cases hz
    exact ⟨split_ok h2 (cut_ok (sz.ok _ hr)), Nat.le_trans (split_len h2) (Nat.le_trans (cutS_length _ _ _) (sz.row _ hr))⟩
theorem words_many {rows : List Str} {n dp : Nat} (sz : Sz rows) : (wordsAt rows n dp).length ≤ 14001 := by
  unfold wordsAt
  cases e : rows[n]? with
  | none => exact Nat.zero_le _
  | some row =>
    have hr : row ∈ rows := List.mem_of_getElem? e
    have h1 : (restWords row dp).length ≤ 14001 := by
      have := join_many (y := " ") (by decide +kernel) (ps := restWords row dp)
      unfold restWords at this ⊢
      rw [StrLaws.join_split] at this
      have h2 := cutS_length row (some ((margin dp).length : Int)) none
      have h3 := sz.row _ hr
      omega
    show (rowWords row dp).length ≤ _
    unfold rowWords cleanWords
    split
    · split
      · exact Nat.zero_le _
      · exact h1
    · exact Nat.zero_le _
/-- a list or tuple of texts, as data -/
theorem dpAll_strs {K : PySem.W.Frag} {H : Hp} : ∀ l : List Str, DpAll K H (l.map V.str) (l.map PyData.str)
  | [] => .nil
  | z :: r => .cons (.str z) (dpAll_strs r)
theorem lay_strs : ∀ {l : List Str}, (∀ z ∈ l, PyData.strOk z = true) → PyData.canLayAll0 (l.map PyData.str) = true ∧ PyData.depthAll (l.map PyData.str) = 0
  | [], _ => ⟨by simp [PyData.canLayAll0], by simp [PyData.depthAll]⟩
  | z :: r, h => by
    have ih := lay_strs (l := r) fun y hy => h y (List.mem_cons_of_mem _ hy)
    have hz := h z (List.mem_cons_self ..)
    constructor
    · simp [PyData.canLayAll0, PyData.canLay0, hz, ih.1]
    · simp [PyData.depthAll, PyData.depth, ih.2]
theorem shaped_strs {l : List Str} (h : ∀ z ∈ l, PyData.strOk z = true) : SeqAt.shaped (.list (l.map PyData.str)) = true := by
  have q := lay_strs h
  unfold SeqAt.shaped
  simp [PyData.canLay0, PyData.depth, q.1, q.2]
theorem eqv_strs : ∀ a b : List Str, PyData.eqvAll (a.map PyData.str) (b.map PyData.str) = decide (a = b)
  | [], [] => by simp [PyData.eqvAll]
  | [], _ :: _ => by simp [PyData.eqvAll]
  | _ :: _, [] => by simp [PyData.eqvAll]
  | x :: a, y :: b => by
    rw [List.map_cons, List.map_cons, PyData.eqvAll, eqv_strs a b, PyData.eqv]
    by_cases h : x = y
    · subst h
      simp
    · simp [h]
theorem margin_ok {dp : Nat} (h : dp ≤ 3) : MulOk ("  " : Str) (dp : Int) ∧ (margin dp).length ≤ 6 := by
  match dp, h with
  | 0, _ => exact ⟨⟨by decide, fun q => absurd (by decide) q, fun q => absurd (by decide) q⟩, by decide +kernel⟩
  | 1, _ => exact ⟨⟨by decide, fun _ q => absurd q (by decide), fun _ q => absurd q (by decide)⟩, by decide +kernel⟩
  | 2, _ => exact ⟨⟨by decide, fun _ _ => by decide +kernel, fun _ _ => by decide +kernel⟩, by decide +kernel⟩
  | 3, _ => exact ⟨⟨by decide, fun _ _ => by decide +kernel, fun _ _ => by decide +kernel⟩, by decide +kernel⟩
end K5
namespace K5
open PySem PySem.Spec PyProof.Rows L2
theorem cutS_le {z : Str} {lo hi : Option Int} : (cutS z lo hi).length ≤ z.length := cutS_length z lo hi
abbrev s_Lines___init__ : Stmt := inClass (topS 10) 0
theorem sc_Lines___init__ : FnScope ["self", "text"] ["self", "text"] (defScope s_Lines___init__) := ⟨rfl, rfl, rfl, by decide +kernel, rfl, by decide +kernel, by decide +kernel⟩
abbrev s_Lines_words : Stmt := inClass (topS 10) 1
theorem sc_Lines_words : FnScope ["self", "depth", "margin", "words"] ["self", "depth"] (defScope s_Lines_words) := ⟨rfl, rfl, rfl, by decide +kernel, rfl, by decide +kernel, by decide +kernel⟩
abbrev s_Lines_step : Stmt := inClass (topS 10) 5
theorem sc_Lines_step : FnScope ["self"] ["self"] (defScope s_Lines_step) := ⟨rfl, rfl, rfl, by decide +kernel, rfl, by decide +kernel, by decide +kernel⟩
abbrev s_Lines_need : Stmt := inClass (topS 10) 6
theorem sc_Lines_need : FnScope ["self", "right"] ["self", "right"] (defScope s_Lines_need) := ⟨rfl, rfl, rfl, by decide +kernel, rfl, by decide +kernel, by decide +kernel⟩
abbrev s_Lines_need_end : Stmt := inClass (topS 10) 7
theorem sc_Lines_need_end : FnScope ["self"] ["self"] (defScope s_Lines_need_end) := ⟨rfl, rfl, rfl, by decide +kernel, rfl, by decide +kernel, by decide +kernel⟩
/-! ### promises -/
def rowsOf (z : Str) : List Str := Txt.split z "\n"
def spLinesInit (C CT : Addr) : Sp := fun vs H Q E => ∃ (l dx : Addr) (x : V) (T : String), vs = [.ref l, x] ∧ H l = some (.ins C dx []) ∧ Kd H x T ∧
  (∀ z : Str, x = .str z → z.length ≤ 14000 ∧ ∀ (H' : Hp) (r : Addr), SameBut l H H' → H r = none → LinesAt C H' l dx r (rowsOf z) 0 → Q .non H') ∧
  (isS x = false → ErrK CT (.int (-1)) H E)
def spWords (C : Addr) : Sp := fun vs H Q _ => ∃ (l dx r : Addr) (rows : List Str) (n dp : Nat), vs = [.ref l, .int dp] ∧ LinesAt C H l dx r rows n ∧ Sz rows ∧ dp ≤ 3 ∧
  ∀ (H' : Hp) (p : Addr), Same H H' → H p = none → H' p = some (.lst ((wordsAt rows n dp).map V.str)) → Q (.ref p) H'
def spBegins (C : Addr) : Sp := fun vs H Q _ => ∃ (l dx r : Addr) (rows : List Str) (n : Nat) (z : Str), vs = [.ref l, .str z] ∧ LinesAt C H l dx r rows n ∧ Sz rows ∧ PyData.strOk z = true ∧
  ∀ H' : Hp, Same H H' → Q (.bl (decide ((wordsAt rows n 0).take 1 = [z]))) H'
def spStep (C : Addr) : Sp := fun vs H Q _ => ∃ (l dx r : Addr) (rows : List Str) (n : Nat), vs = [.ref l] ∧ LinesAt C H l dx r rows n ∧ n < rows.length ∧
  ∀ H' : Hp, SameBut l H H' → LinesAt C H' l dx r rows (n + 1) → Q .non H'
def spNeed (K : PySem.W.Frag) (C CT : Addr) : Sp := fun vs H Q E => ∃ (l dx r : Addr) (rows : List Str) (n : Nat) (x : V) (b : Bool), vs = [.ref l, x] ∧ LinesAt C H l dx r rows n ∧ TruV K x H b ∧
  (b = true → Q .non H) ∧ (b = false → ErrK CT (.int n) H E)
def spNeedEnd (C CT : Addr) : Sp := fun vs H Q E => ∃ (l dx r : Addr) (rows : List Str) (n : Nat), vs = [.ref l] ∧ LinesAt C H l dx r rows n ∧
  (n = rows.length → Q .non H) ∧ (n ≠ rows.length → ErrK CT (.int n) H E)
section
variable {X : Cx} {K : PySem.W.Frag} {σ : L2.St} {H : Hp} {ta tb tc : TE} {t u : TT} {i j k : Int} {p : Addr} {xs : List V} {v x : V} {a b : Bool}
theorem val_repS {z : Str} {n : Int} (ha : Val ta σ H (.str z)) (hb : Val tb σ H (.int n)) (hc : MulOk z n) : Val (tOp rRepS ta tb) σ H (.str (Txt.mul z n)) := val_op ha hb fun Q q => ⟨z, n, rfl, rfl, hc, q⟩
theorem val_sw {z y : Str} (ha : Val ta σ H (.str z)) (hb : Val tb σ H (.str y)) : Val (tBM K "str" (fun x xs H Q => ∃ a b, x = .str a ∧ xs = [.str b] ∧ Q (.bl (Txt.startswith a b)) H) ta (tCons tb tNil)) σ H (.bl (Txt.startswith z y)) := fun Q q =>
  ha _ ⟨rfl, hb _ ⟨z, y, rfl, rfl, q⟩⟩
theorem val_cutS {z : Str} {n : Int} (ha : Val ta σ H (.str z)) (hb : Val tb σ H (.int n)) (hz : z.length ≤ sizeLine) : Val (tSl rSlS ta (tPart tb) tNoPart) σ H (.str (cutS z (some n) none)) := fun Q q =>
  ha _ (hb _ ⟨n, rfl, z, rfl, hz, q⟩)
end
section
variable {P : Program} {w : World} {K : PySem.W.Frag} {mg : Str → Option Value} {base : Heap}
/-- an error of a callee leaves the def as its own -/
theorem pxp {X : Cx} {E : XK} (hs : X.stack = X.env :: X.outer) (hf : X.env.frame = some X.env.locals) (hex : X.ex = []) {E₁ : Value → Shared → Prop}
    (hx : X.xe = fun e s' => wpAny (model X.prog X.w) X.A (leaving X.env e) (fun _ s'' => L2.CX X.prog X.w X.outer X.H_0 X.s_0 E e s'') E₁ s') : Passes (L2.CX X.prog X.w) X E :=
  passes_call (W := fun c d _ H => E c d H) (takes_of hs hf hex hx) fun _ _ _ _ h => h
theorem ok_Lines_init {f CL CT fE : Addr} {fd fdE : FuncData} (B : Bt mg) (L : ClL K CL) (F : Fun K "__init__" "Lines.__init__" s_Lines___init__ f fd) (T : Er K mg "BadText" CT fE) (FE : Fun K "__init__" "WireError.__init__" s_err fE fdE) (bE : Binds K fdE ["self", "value"] []) :
    FnOk P w K mg base (L2.CX P w) 4 f fd ["self", "text"] (spLinesInit CL CT) := by
  have GE : FnOk P w K mg base CX0 1 fE fdE ["self", "value"] (spErr K) := ok_err FE
  refine F.okX sc_Lines___init__ (fun vs H Q E h => ?_) (fun cdv A outer s H vs Q E hr h => ?_)
  · obtain ⟨l, dx, x, T, rfl, _⟩ := h
    rfl
  · obtain ⟨l, dx, x, Ty, rfl, hl, hx, k, ke⟩ := h
    have S := sc_Lines___init__
    refine ⟨_, (pss_cons (ps_if (pt_not (pt_val (pe_callB call_isi (by rfl) B.m_isinstance PyProof.Rows.boot_isinstance (pa_cons (pv 1) (pa_cons (pe_tyN bt_str (by rfl) B.m_str) pa_nil)))))
        (pss_one (ps_raise rfl (takes_of rfl rfl rfl rfl) (pmk_oex T.O T.iC T.tI GE (hr.mono (by decide)) bE .nil pass0 (by rfl) T.g (pa_cons (pe_un un_neg pe_int) pa_nil))))
        pss_nil)
      (pss_cons (ps_fld (pv 0) (pe_bm PySem.F.plainAttrs_str PySem.F.slot_str_split PySem.F.type_str_split mt_split (pv 1) (pa_cons pe_str pa_nil)) rfl)
      (pss_one (ps_fld (pv 0) pe_int rfl)))), ?_⟩
    refine (val_isi (val_var rfl) hx hx.str_) _ ⟨_, rfl, ?_⟩
    cases hx with
    | str z =>
      obtain ⟨hz, kk⟩ := k z rfl
      refine iteF ?_
      refine ⟨_, rfl, rfl, z, "\n", rfl, rfl, by decide +kernel, by have : z.length + 2 ≤ 10000000 := by omega
                                                                    exact big_size this, fun r nr => ?_⟩
      have nlr : l ≠ r := ne_of_none hl nr
      refine ⟨_, rfl, l, CL, dx, _, rfl, by rw [upd_ne nlr]; exact hl, L.cl, L.nr, by decide, ?_⟩
      refine ⟨_, rfl, l, CL, dx, _, rfl, upd_same, L.cl, L.na, by show 1 < 1000; decide, ?_⟩
      refine kk _ r (fun a o na e => ?_) nr ⟨?_, ?_, Nat.zero_le _⟩
      · rw [upd_ne na, upd_ne na, upd_ne (ne_of_none e nr)]
        exact e
      · rw [upd_same]
        have e : putF "at" (V.int 0) (putF "rows" (V.ref r) []) = lf r 0 := (put_tl (by decide +kernel)).trans rfl
        rw [e]
        rfl
      · rw [upd_ne nlr.symm, upd_ne nlr.symm, upd_same]
        rfl
    | _ =>
      refine iteT ?_
      exact raise_run T.O T.nv (val_neg val_c) (ke rfl)
theorem ok_words {f CL : Addr} {fd : FuncData} (B : Bt mg) (L : ClL K CL) (F : Fun K "words" "Lines.words" s_Lines_words f fd) : FnOk P w K mg base CX0 1 f fd ["self", "depth"] (spWords CL) := by
  refine F.ok sc_Lines_words (fun vs H Q E h => ?_) (fun cdv A outer s H vs Q E hr h => ?_)
  · obtain ⟨l, dx, r, rows, n, dp, rfl, _⟩ := h
    rfl
  · obtain ⟨l, dx, r, rows, n, dp, rfl, hl, sz, hd, k⟩ := h
    have S := sc_Lines_words
    refine ⟨_, (pss_cons (ps_set (i := 2) S.nd rfl (.inl rfl) (pe_op op_repS pe_str (pv 1)))
      (pss_cons (ps_if (PW.pt (pw_or (pt_cmpR op_eq (pe_fld (pv 0) rfl) (pe_callB call_len_seq (by rfl) B.m_len PySem.boot_len (pa_cons (pe_fld (pv 0) rfl) pa_nil)) (nomark _)) (pw_or1 (pt_not (pt_val (pe_bm PySem.F.plainAttrs_str PySem.F.slot_str_startswith PySem.F.type_str_startswith mt_startswith (pe_ix ix_list (pe_fld (pv 0) rfl) (pe_fld (pv 0) rfl) (fun _ _ => rfl)) (pa_cons (pv 2) pa_nil)))))))
        (pss_one (ps_ret (pe_lst pa_nil)))
        pss_nil)
      (pss_cons (ps_set (i := 3) S.nd rfl (.inl rfl) (pe_bm PySem.F.plainAttrs_str PySem.F.slot_str_split PySem.F.type_str_split mt_split (pe_slice sl_str (pe_ix ix_list (pe_fld (pv 0) rfl) (pe_fld (pv 0) rfl) (fun _ _ => rfl)) (po_some (pe_callB call_len_str (by rfl) B.m_len PySem.boot_len (pa_cons (pv 2) pa_nil))) po_none) (pa_cons pe_str pa_nil)))
      (pss_one (ps_ret (pe_ifExp (pt_cmpR op_in_seq pe_str (pv 3) (by rfl)) (pe_lst pa_nil) (pv 3))))))), ?_⟩
    have hm := margin_ok hd
    have hR : SqL K H r (rows.map V.str) := SqL.of hl.r
    refine (show Val _ _ _ (V.str (margin dp)) from val_repS val_c (val_var rfl) hm.1) _ ?_
    have vat : ∀ σ : L2.St, σ[0]? = some (some (.ref l)) → Val (tFld K (tVar 0) "at") σ H (.int n) := fun σ h0 => val_fld (val_var h0) hl.o L.cl L.na lf_at
    have vrw : ∀ σ : L2.St, σ[0]? = some (some (.ref l)) → Val (tFld K (tVar 0) "rows") σ H (.ref r) := fun σ h0 => val_fld (val_var h0) hl.o L.cl L.nr lf_rows
    by_cases c : n = rows.length
    · have e : wordsAt rows n dp = [] := by
        unfold wordsAt
        rw [c, List.getElem?_eq_none (Nat.le_refl _)]
      rw [e] at k
      refine (ans_or1 (ans_eq (vat _ rfl) (val_lenL (vrw _ rfl) hR) rfl (decide_eq_true (by rw [List.length_map, c])))) _ ?_
      refine iteT ⟨Nat.zero_le _, fun p np => ?_⟩
      exact k _ p (same_upd np) np upd_same
    · have hn : n < rows.length := by
        have := hl.le
        omega
      have hg : rows[n]? = some rows[n] := List.getElem?_eq_getElem hn
      have hgV : (rows.map V.str)[n]? = some (.str rows[n]) := by
        rw [List.getElem?_map, hg]
        rfl
      have hz : rows[n].length ≤ 14000 := sz.row _ (List.getElem_mem hn)
      have vrow : ∀ σ : L2.St, σ[0]? = some (some (.ref l)) → Val (tOp (rIxL K) (tFld K (tVar 0) "rows") (tFld K (tVar 0) "at")) σ H (.str rows[n]) := fun σ h0 => val_ixL (vrw σ h0) (vat σ h0) hR (atI_nat hgV)
      have ew : wordsAt rows n dp = rowWords rows[n] dp := by
        unfold wordsAt
        rw [hg]
      rw [ew] at k
      refine (ans_or (ans_eq (vat _ rfl) (val_lenL (vrw _ rfl) hR) rfl (decide_eq_false (by rw [List.length_map]; intro q; injection q with q; omega))) (ans_not (ans_val (val_sw (vrow _ rfl) (val_var rfl))))) _ ?_
      by_cases c2 : Txt.startswith rows[n] (margin dp) = true
      · have er : rowWords rows[n] dp = cleanWords (restWords rows[n] dp) := if_pos c2
        rw [er] at k
        rw [c2]
        refine iteF ?_
        dsimp only [tNext, tSeq, tAsg]
        refine (val_cutS (vrow _ rfl) (val_lenS (val_var rfl) (big_size (by have := hm.2; omega))) (big_size (by omega))) _ ?_
        have hc := cutS_le (z := rows[n]) (lo := some ((margin dp).length : Int)) (hi := none)
        refine ⟨rfl, _, " ", rfl, rfl, by decide +kernel, big_size (by omega), fun p np => ?_⟩
        have hp : (upd H p (.lst ((restWords rows[n] dp).map V.str))) p = some (.lst ((restWords rows[n] dp).map V.str)) := upd_same
        refine ⟨_, rfl, p, _, rfl, .inl (SqL.of hp), rfl, ?_, _, rfl, ?_⟩
        · rw [List.all_map, List.all_eq_true]
          intro z hz
          rfl
        · have s1 : Same H (upd H p (.lst ((restWords rows[n] dp).map V.str))) := same_upd np
          unfold cleanWords at k
          cases c4 : inV (.str "") ((restWords rows[n] dp).map V.str) with
          | true =>
            rw [c4, if_pos rfl] at k
            refine iteT ⟨Nat.zero_le _, fun q nq => ?_⟩
            exact k _ q (s1.trans (same_upd nq)) (s1.free nq) upd_same
          | false =>
            rw [c4, if_neg Bool.false_ne_true] at k
            exact iteF ⟨_, rfl, k _ p s1 np hp⟩
      · have er : rowWords rows[n] dp = [] := if_neg c2
        rw [er] at k
        rw [Bool.not_eq_true] at c2
        rw [c2]
        refine iteT ⟨Nat.zero_le _, fun p np => ?_⟩
        exact k _ p (same_upd np) np upd_same
theorem ok_step {f CL : Addr} {fd : FuncData} (L : ClL K CL) (F : Fun K "step" "Lines.step" s_Lines_step f fd) : FnOk P w K mg base CX0 1 f fd ["self"] (spStep CL) := by
  refine F.ok sc_Lines_step (fun vs H Q E h => ?_) (fun cdv A outer s H vs Q E hr h => ?_)
  · obtain ⟨l, dx, r, rows, n, rfl, _⟩ := h
    rfl
  · obtain ⟨l, dx, r, rows, n, rfl, hl, hn, k⟩ := h
    refine ⟨_, (pss_one (ps_fldaug (pv 0) pe_int in_add)), ?_⟩
    refine ⟨_, rfl, l, CL, dx, _, _, rfl, hl.o, L.cl, L.na, lf_at, n, 1, rfl, rfl, dx, _, hl.o, by show 2 < 1000; decide, ?_⟩
    refine k _ (SameBut.upd l H _) ⟨?_, ?_, hn⟩
    · rw [upd_same, lf_put]
      rfl
    · rw [upd_ne (ne_of hl.r hl.o (by intro q; cases q))]
      exact hl.r
theorem ok_need {f CL CT fE : Addr} {fd fdE : FuncData} (L : ClL K CL) (F : Fun K "need" "Lines.need" s_Lines_need f fd) (T : Er K mg "BadText" CT fE) (FE : Fun K "__init__" "WireError.__init__" s_err fE fdE) (bE : Binds K fdE ["self", "value"] []) :
    FnOk P w K mg base (L2.CX P w) 4 f fd ["self", "right"] (spNeed K CL CT) := by
  have GE : FnOk P w K mg base CX0 1 fE fdE ["self", "value"] (spErr K) := ok_err FE
  refine F.okX sc_Lines_need (fun vs H Q E h => ?_) (fun cdv A outer s H vs Q E hr h => ?_)
  · obtain ⟨l, dx, r, rows, n, x, b, rfl, _⟩ := h
    rfl
  · obtain ⟨l, dx, r, rows, n, x, b, rfl, hl, ht, k, ke⟩ := h
    refine ⟨_, (pss_one (ps_if (pt_not (pt_truth (pv 1) (by intro _; rfl)))
        (pss_one (ps_raise rfl (takes_of rfl rfl rfl rfl) (pmk_oex T.O T.iC T.tI GE (hr.mono (by decide)) bE .nil pass0 (by rfl) T.g (pa_cons (pe_fld (pv 0) rfl) pa_nil))))
        pss_nil)), ?_⟩
    refine ⟨_, rfl, b, ht, ?_⟩
    cases b with
    | true => exact iteF (k rfl)
    | false =>
      refine iteT ?_
      exact raise_run T.O T.nv (val_fld (val_var rfl) hl.o L.cl L.na lf_at) (ke rfl)
theorem ok_need_end {f fN CL CT fE : Addr} {fd fdN fdE : FuncData} (B : Bt mg) (L : ClL K CL) (F : Fun K "need_end" "Lines.need_end" s_Lines_need_end f fd) (M_need : Mf K CL "need" "Lines.need" s_Lines_need fN fdN ["self", "right"]) (T : Er K mg "BadText" CT fE) (FE : Fun K "__init__" "WireError.__init__" s_err fE fdE) (bE : Binds K fdE ["self", "value"] []) :
    FnOk P w K mg base (L2.CX P w) 5 f fd ["self"] (spNeedEnd CL CT) := by
  have G_need : FnOk P w K mg base (L2.CX P w) 4 fN fdN ["self", "right"] (spNeed K CL CT) := ok_need L M_need.F T FE bE
  refine F.okX sc_Lines_need_end (fun vs H Q E h => ?_) (fun cdv A outer s H vs Q E hr h => ?_)
  · obtain ⟨l, dx, r, rows, n, rfl, _⟩ := h
    rfl
  · obtain ⟨l, dx, r, rows, n, rfl, hl, k, ke⟩ := h
    refine ⟨_, (pss_one (ps_expr (pe_meth (pv 0) L.cl M_need.m G_need (hr.mono (by decide)) M_need.b .nil (pxp rfl rfl rfl rfl) (pa_cons (pe_cmpR op_eq (pe_fld (pv 0) rfl) (pe_callB call_len_seq (by rfl) B.m_len PySem.boot_len (pa_cons (pe_fld (pv 0) rfl) pa_nil)) (nomark _)) pa_nil)))), ?_⟩
    refine ⟨_, rfl, l, dx, _, rfl, hl.o, lf_no (by decide +kernel) (by decide +kernel), ?_⟩
    have hR : SqL K H r (rows.map V.str) := SqL.of hl.r
    refine (val_op (val_fld (val_var rfl) hl.o L.cl L.na lf_at) (val_lenL (val_fld (val_var rfl) hl.o L.cl L.nr lf_rows) hR) fun Q q => ⟨rfl, q⟩) _ ?_
    refine ⟨l, dx, r, rows, n, _, _, rfl, hl, rfl, fun e => k ?_, fun e => ke ?_⟩
    · have := of_decide_eq_true e
      rw [List.length_map] at this
      injection this with this
      omega
    · have := of_decide_eq_false e
      rw [List.length_map] at this
      intro q
      exact this (by rw [q])
end
end K5
namespace K5
open PySem PySem.Spec PyProof.Rows L2
/-! ### values of any kind, as data -/
mutual
inductive Dq (H : Hp) : V → PyData → Prop
  | non : Dq H .non .none
  | bl (b : Bool) : Dq H (.bl b) (.bool b)
  | int (i : Int) : Dq H (.int i) (.int i)
  | str (x : Str) : Dq H (.str x) (.str x)
  | lst {a : Addr} {xs : List V} {ds : List PyData} : H a = some (.lst xs) → DqA H xs ds → Dq H (.ref a) (.list ds)
  | tup {a : Addr} {xs : List V} {ds : List PyData} : H a = some (.tup xs) → DqA H xs ds → Dq H (.ref a) (.tuple ds)
  | dic {a : Addr} : H a = some (.dK []) → Dq H (.ref a) (.dict [])
inductive DqA (H : Hp) : List V → List PyData → Prop
  | nil : DqA H [] []
  | cons {v : V} {vs : List V} {d : PyData} {ds : List PyData} : Dq H v d → DqA H vs ds → DqA H (v :: vs) (d :: ds)
end
mutual
theorem Dq.mono {H H' : Hp} (e : Same H H') : ∀ (d : PyData) {v : V}, Dq H v d → Dq H' v d
  | .none, _, h => by cases h; exact .non
  | .bool b, _, h => by cases h; exact .bl b
  | .int i, _, h => by cases h; exact .int i
  | .str x, _, h => by cases h; exact .str x
  | .list ds, _, h => by
    cases h with
    | lst h a => exact .lst (e _ _ h) (DqA.mono e ds a)
  | .tuple ds, _, h => by
    cases h with
    | tup h a => exact .tup (e _ _ h) (DqA.mono e ds a)
  | .dict kvs, _, h => by
    cases h with
    | dic h => exact .dic (e _ _ h)
theorem DqA.mono {H H' : Hp} (e : Same H H') : ∀ (ds : List PyData) {vs : List V}, DqA H vs ds → DqA H' vs ds
  | [], _, h => by cases h; exact .nil
  | d :: ds, _, h => by
    cases h with
    | cons a b => exact .cons (Dq.mono e d a) (DqA.mono e ds b)
end
theorem Dq.kd {H : Hp} {v : V} {d : PyData} (h : Dq H v d) : ∃ T, Kd H v T := by
  cases h with
  | non => exact ⟨_, .non⟩
  | bl b => exact ⟨_, .bl b⟩
  | int i => exact ⟨_, .int i⟩
  | str x => exact ⟨_, .str x⟩
  | lst h a => exact ⟨_, .lst h⟩
  | tup h a => exact ⟨_, .tup h⟩
  | dic h => exact ⟨_, .dK h⟩
theorem DqA.len {H : Hp} : ∀ {vs : List V} {ds : List PyData}, DqA H vs ds → vs.length = ds.length
  | _, _, .nil => rfl
  | _, _, .cons a b => by rw [List.length_cons, List.length_cons, DqA.len b]
theorem DqA.at_ {H : Hp} : ∀ {vs : List V} {ds : List PyData} (i : Nat) {d : PyData}, DqA H vs ds → ds[i]? = some d → ∃ v, vs[i]? = some v ∧ Dq H v d
  | _, _, i, d, .nil, h => by cases h
  | _, _, 0, d, .cons a b, h => by
    have h := Option.some.inj h
    rw [← h]
    exact ⟨_, rfl, a⟩
  | _, _, i + 1, d, .cons a b, h => DqA.at_ i b h
mutual
def listIn : PyData → Bool
  | .none | .bool _ | .int _ | .str _ => false
  | .list _ => true
  | .tuple xs => listInA xs
  | .dict _ => false
def listInA : List PyData → Bool
  | [] => false
  | x :: xs => listIn x || listInA xs
end
section
variable {X : Cx} {pins : List (Addr × Obj)} {σ : L2.St} {H : Hp} {s : Shared}
theorem reads_d0 {a : Addr} (I : Inv X pins σ H s) (h : H a = some (.dK [])) : ∃ as, Reads s.heap (.ref a) (.dict []) as ∧ sysModules ∉ as := by
  obtain ⟨_, nm, vs, rel, dd⟩ := dk_of I.hok h
  cases rel
  obtain ⟨o, es, ep, ho, hc, hd, _, ps, _⟩ := dd
  have e0 : es.toList = [] := by
    revert ps
    generalize es.toList = l
    intro ps
    cases ps
    rfl
  have r1 : ReadsAll s.heap (es.toList.map (·.key)) (([] : List (PyData × PyData)).map (·.1)) [] := by
    rw [e0]
    exact .nil
  have r2 : ReadsAll s.heap (es.toList.map (·.val)) (([] : List (PyData × PyData)).map (·.2)) [] := by
    rw [e0]
    exact .nil
  refine ⟨_, Reads.dict ho hc.1 hd r1 r2, fun q => ?_⟩
  have : sysModules = a := by simpa using q
  rw [this] at nm
  simp at nm
mutual
theorem Dq.reads (I : Inv X pins σ H s) : ∀ (d : PyData) (v : V) (u : Value), Dq H v d → RelV v u → ∃ as, Reads s.heap u d as ∧ (listIn d = false → sysModules ∉ as)
  | .none, _, _, h, r => by
    cases h
    cases r
    exact ⟨_, Reads.none, by simp⟩
  | .bool b, _, _, h, r => by
    cases h
    cases r
    exact ⟨_, Reads.bool b, by simp⟩
  | .int i, _, _, h, r => by
    cases h
    obtain ⟨t, rfl⟩ := r
    exact ⟨_, Reads.int i t, by simp⟩
  | .str x, _, _, h, r => by
    cases h
    obtain ⟨t, rfl⟩ := r
    exact ⟨_, Reads.str x t, by simp⟩
  | .list ds, _, _, h, r => by
    cases h with
    | lst hs ha =>
      cases r
      obtain ⟨its, rv, ⟨o, n, ho, hc, _, hd⟩, _⟩ := I.list (SqL.of (K := X.K) hs)
      obtain ⟨as, hr, hm⟩ := Dq.readsAll I ds _ its ha rv
      exact ⟨_, Reads.list ho hc hd hr, fun e => by cases e⟩
  | .tuple ds, _, _, h, r => by
    cases h with
    | tup hs ha =>
      cases r
      obtain ⟨its, rv, ⟨o, ho, hc, n, hd⟩, _⟩ := I.tuple (SqT.of (K := X.K) hs)
      obtain ⟨as, hr, hm⟩ := Dq.readsAll I ds _ its ha rv
      exact ⟨_, Reads.tuple ho hc hd hr, hm⟩
  | .dict _, _, _, h, r => by
    cases h with
    | dic h =>
      cases r
      obtain ⟨as, r, m⟩ := reads_d0 I h
      exact ⟨as, r, fun _ => m⟩
theorem Dq.readsAll (I : Inv X pins σ H s) : ∀ (ds : List PyData) (vs : List V) (us : List Value), DqA H vs ds → Vals vs us → ∃ as, ReadsAll s.heap us ds as ∧ (listInA ds = false → sysModules ∉ as)
  | [], _, _, h, r => by
    cases h
    cases r
    exact ⟨_, ReadsAll.nil, by simp⟩
  | d :: ds, _, _, h, r => by
    cases h with
    | cons h1 h2 =>
      cases r with
      | cons r1 r2 =>
        obtain ⟨as, q1, m1⟩ := Dq.reads I d _ _ h1 r1
        obtain ⟨bs, q2, m2⟩ := Dq.readsAll I ds _ _ h2 r2
        refine ⟨_, ReadsAll.cons q1 q2, fun e m => ?_⟩
        have e : (listIn d || listInA ds) = false := e
        rw [Bool.or_eq_false_iff] at e
        exact (List.mem_append.mp m).elim (m1 e.1) (m2 e.2)
end
end
end K5
namespace K5
open PySem PySem.Spec PyProof.Rows L2
/-! ### forms of values -/
theorem bt_tuple : bootBuiltins "tuple" = some (.type "tuple") := by decide +kernel
theorem val_lenT {K : PySem.W.Frag} {σ : L2.St} {H : Hp} {ta : TE} {p : Addr} {xs : List V} (h : Val ta σ H (.ref p)) (hS : SqT K H p xs) : Val (tCB (rLenSq K) (tCons ta tNil)) σ H (.int xs.length) := fun Q q => h _ ⟨p, xs, rfl, .inr hS, q⟩
section
variable {P : Program} {w : World} {K : PySem.W.Frag} {mg : Str → Option Value} {base : Heap}
end
end K5
namespace K5
open PySem PySem.Spec PyProof.Rows L2
/-! ### a tuple of texts that the head has laid -/
structure KTup (K : PySem.W.Frag) (p : Addr) (ys : List Str) : Prop where
  sq : ∀ H : Hp, SqT K H p (ys.map V.str)
  nd : ∃ ob, K.lookup p = some ob ∧ ob.cls = .type "tuple" ∧ ob.dict = none
def tTupKx (K : PySem.W.Frag) (to : TE) (t : TA) : TE := fun σ H Q => to σ H fun x H1 => ∃ (p : Addr) (ys : List Str), x = .ref p ∧ KTup K p ys ∧ t σ H1 fun vs H2 => ∃ (z : Str) (j : Nat), vs = [.str z] ∧ ys[j]? = some z ∧ (∀ m, m < j → ys[m]? ≠ some z) ∧ Q (.int (j : Nat)) H2
theorem pe_tupKx {X : Cx} {o e : Expr} {to : TE} {t : TA} {apos cpos : Pos} (ho : PE X o to) (ha : PA X [e] t)
    (hbase : attributeBase o "index" X.env (eval o X.env) = eval o X.env := by rfl)
    (hfew : ((backTo cpos (starEach [e] X.env)).all (fun x => !x.1) && (backToKw cpos (keywordEach [] X.env)).all (fun x => x.1.isSome) && decide (([e] : List Expr).length + ([] : List Keyword).length + (if ([] : List Keyword).isEmpty then 0 else 1) < 30)) = true := by rfl)
    (hline : (apos.endLine == cpos.line) = true := by rfl) 
    (star1 : starEach [e] X.env = (false, eval e X.env) :: starEach [] X.env := by rfl) (hplain : (backTo cpos (starEach [] X.env)).any (·.1) = false := by rfl) :
    PE X (.Call (.Attribute o "index" apos) [e] [] cpos) (tTupKx X.K to t) := by
  refine ⟨fun pins s σ H Q I h => wpAny_Call_method_late hbase hfew hline rfl (thn (ho.run pins s σ H _ I h) fun v s1 ⟨x, H1, I1, r1, p, ys, ex, hF, q1⟩ => ?_)⟩
  subst ex
  cases r1
  obtain ⟨ob, hob, hc, hd⟩ := hF.nd
  have h1 := I1.kIn p ob hob
  refine ⟨"tuple", "tuple.index", PySem.F.plainAttrs_tuple, PySem.F.slot_tuple_index, PySem.F.type_tuple_index, ⟨ob, h1, hc⟩, fun a e2 => ?_, ?_⟩
  · cases e2
    exact ⟨ob, h1, hd⟩
  · have hA := ha.run cpos pins s1 σ H1 _ I1 q1
    rw [star1] at hA ⊢
    refine Calls.callWith_builtin (by show (false || (backTo cpos (starEach [] X.env)).any (·.1)) = false; rw [hplain] <;> rfl) (Calls.evalArgs_plain (thn hA fun us s2 ⟨vs, H2, I2, r2, z, j, ev, hj, hf, q2⟩ => ?_))
    exact mt_tup_index pins s2 σ H2 (.ref p) vs (.ref p) us Q I2 rfl r2 ⟨p, ys, z, j, rfl, ev, hF.sq H2, hj, hf, q2⟩
theorem ansI {σ : L2.St} {H : Hp} {ta tb : TE} {g : Int → Int → Bool} {i j : Int} (ha : Val ta σ H (.int i)) (hb : Val tb σ H (.int j)) : Ans (tTest (tOp (rI0 fun i j => .bl (g i j)) ta tb)) σ H (g i j) := ans_i0 ha hb
theorem inV_strs (z : Str) : ∀ l : List Str, inV (.str z) (l.map V.str) = decide (z ∈ l)
  | [] => by simp [inV]
  | y :: r => by
    have ih := inV_strs z r
    unfold inV at ih ⊢
    rw [List.map_cons, List.any_cons, ih]
    by_cases h : z = y
    · subst h
      simp [eqV]
    · have h2 : (y == z) = false := by
        rw [beq_eq_false_iff_ne]
        exact fun e => h e.symm
      simp [eqV, h, h2]
/-! ### answers as words -/
def ansV : Option Int → V
  | none => .non
  | some i => .int i
theorem busy_lost : ("busy" : Str) ≠ "lost" := by decide +kernel
section
variable {P : Program} {w : World} {K : PySem.W.Frag} {mg : Str → Option Value} {base : Heap} {aw : Addr}
end
end K5
namespace K5
open PySem PySem.Spec PyProof.Rows L2
theorem meth_run {C a dx : Addr} {m : Str} {fs : List (Str × V)} {sp : Sp} {E : XK} {ta : TE} {t : TA} {σ : L2.St} {H : Hp} {Q : VK} (ho : Val ta σ H (.ref a)) (ha : H a = some (.ins C dx fs)) (hm : fs.lookup m = none) (h : t σ H fun vs H2 => sp (.ref a :: (vs ++ [])) H2 Q E) :
    tMeth C m sp [] E ta t σ H Q := ho _ ⟨a, dx, fs, rfl, ha, hm, h⟩
theorem bm_run {K : PySem.W.Frag} {T : String} {r : V → List V → Hp → VK → Prop} {to : TE} {t : TA} {σ : L2.St} {H : Hp} {Q : VK} {x : V} (ho : Val to σ H x) (ht : tyV K T x H) (ha : t σ H fun vs H2 => r x vs H2 Q) : tBM K T r to t σ H Q := ho _ ⟨ht, ha⟩
theorem meth0_run {C a dx : Addr} {m : Str} {fs : List (Str × V)} {sp : Sp} {E : XK} {ta : TE} {σ : L2.St} {H : Hp} {Q : VK} (ho : Val ta σ H (.ref a)) (ha : H a = some (.ins C dx fs)) (hm : fs.lookup m = none) (h : sp [.ref a] H Q E) :
    tMeth C m sp [] E ta tNil σ H Q := ho _ ⟨a, dx, fs, rfl, ha, hm, h⟩
theorem at_but {H : Hp} {o u : HO} {a b : Addr} (h : H a = some u) (hb : H b ≠ some u) : (upd H b o) a = some u := by
  have e : a ≠ b := fun z => hb (by rw [← z]; exact h)
  rw [upd_ne e]
  exact h
/-! ### a run is read -/
theorem len_zero {z : Str} (h : z.length = 0) : z = "" := by
  obtain ⟨l⟩ := z
  have e : l = #[] := Array.eq_empty_of_size_eq_zero h
  rw [e]
  rfl
theorem DqA.app {H : Hp} : ∀ {xs ys : List V} {ds es : List PyData}, DqA H xs ds → DqA H ys es → DqA H (xs ++ ys) (ds ++ es)
  | _, _, _, _, .nil, h => h
  | _, _, _, _, .cons a b, h => .cons a (DqA.app b h)
/-- tuples and empty dicts are kept -/
structure TK (H H' : Hp) : Prop where
  t : ∀ x xs, H x = some (.tup xs) → H' x = some (.tup xs)
  d : ∀ x, H x = some (.dK []) → H' x = some (.dK [])
theorem TK.but {H H' : Hp} {a : Addr} {u : HO} (h : SameBut a H H') (ha : H a = some u) (n1 : ∀ xs, u ≠ .tup xs) (n2 : u ≠ .dK []) : TK H H' :=
  ⟨fun x xs e => h x _ (fun c => n1 xs (by rw [c, ha] at e; exact Option.some.inj e)) e, fun x e => h x _ (fun c => n2 (by rw [c, ha] at e; exact Option.some.inj e)) e⟩
mutual
theorem Dq.tk {H H' : Hp} (k : TK H H') : ∀ (d : PyData) {v : V}, listIn d = false → Dq H v d → Dq H' v d
  | .none, _, _, h => by cases h; exact .non
  | .bool b, _, _, h => by cases h; exact .bl b
  | .int i, _, _, h => by cases h; exact .int i
  | .str x, _, _, h => by cases h; exact .str x
  | .list ds, _, e, h => by cases e
  | .tuple ds, _, e, h => by
    cases h with
    | tup h a => exact .tup (k.t _ _ h) (DqA.tk k ds e a)
  | .dict kvs, _, _, h => by
    cases h with
    | dic h => exact .dic (k.d _ h)
theorem DqA.tk {H H' : Hp} (k : TK H H') : ∀ (ds : List PyData) {vs : List V}, listInA ds = false → DqA H vs ds → DqA H' vs ds
  | [], _, _, h => by cases h; exact .nil
  | d :: ds, _, e, h => by
    have e : (listIn d || listInA ds) = false := e
    rw [Bool.or_eq_false_iff] at e
    cases h with
    | cons a b => exact .cons (Dq.tk k d e.1 a) (DqA.tk k ds e.2 b)
end
theorem listInA_app : ∀ xs ys : List PyData, listInA (xs ++ ys) = (listInA xs || listInA ys)
  | [], _ => rfl
  | x :: xs, ys => by
    show (listIn x || listInA (xs ++ ys)) = ((listIn x || listInA xs) || listInA ys)
    rw [listInA_app, Bool.or_assoc]
section
variable {P : Program} {w : World} {K : PySem.W.Frag} {mg : Str → Option Value} {base : Heap} {CL CT aw fL fWords fStep fNeed fEv : Addr} {dL dWords dStep dNeed dEv : FuncData}
end
end K5
namespace K5
open PySem PySem.Spec PyProof.Rows L2
/-! ### words for worths and answers -/
def wOf (z : Str) (m : Nat) : List Int := if z = "any" then (List.range m).map Int.ofNat else if 0 ≤ numOf z m then [numOf z m] else []
def ansOf (z : Str) (m : Nat) : Option Int := if z = "busy" then some (-2) else if z = "lost" then some (-1) else if 0 ≤ numOf z m then some (numOf z m) else none
def asOf (z : Str) (m : Nat) : List Int := match ansOf z m with
  | some i => [i]
  | none => wOf z m
structure Gw (K : PySem.W.Frag) (mg : Str → Option Value) (aw : Addr) : Prop where
  a : mg "ANSWER_WORDS" = some (.ref aw)
  k : KTup K aw ["busy", "lost"]
abbrev s_worths_of : Stmt := topS 20
theorem sc_worths_of : FnScope ["word", "worths", "worth"] ["word", "worths"] (defScope s_worths_of) := ⟨rfl, rfl, rfl, by decide +kernel, rfl, by decide +kernel, by decide +kernel⟩
abbrev s_answers_of : Stmt := topS 21
theorem sc_answers_of : FnScope ["word", "worths", "answer"] ["word", "worths"] (defScope s_answers_of) := ⟨rfl, rfl, rfl, by decide +kernel, rfl, by decide +kernel, by decide +kernel⟩
abbrev s_answer_of : Stmt := topS 22
theorem sc_answer_of : FnScope ["word", "worths", "worth"] ["word", "worths"] (defScope s_answer_of) := ⟨rfl, rfl, rfl, by decide +kernel, rfl, by decide +kernel, by decide +kernel⟩
def spAnsOf : Sp := fun vs H Q _ => ∃ (z : Str) (m : Nat), vs = [.str z, .int m] ∧ z.length ≤ 10000000 ∧ Q (ansV (ansOf z m)) H
def spList (f : Str → Nat → List Int) : Sp := fun vs H Q _ => ∃ (z : Str) (m : Nat), vs = [.str z, .int m] ∧ m ≤ 4 ∧ z.length ≤ 10000000 ∧ ∀ (H' : Hp) (p : Addr), Same H H' → H p = none → H' p = some (.lst ((f z m).map V.int)) → Q (.ref p) H'
section
variable {P : Program} {w : World} {K : PySem.W.Frag} {mg : Str → Option Value} {base : Heap} {aw : Addr}
theorem ok_worths_of {f fN : Addr} {fd fdN : FuncData} (B : Bt mg) (D : Df K mg "worths_of" s_worths_of f fd ["word", "worths"]) (D_number : Df K mg "number" s_number fN fdN ["word", "many"]) : FnOk P w K mg base CX0 2 f fd ["word", "worths"] (spList wOf) := by
  have G_number : FnOk P w K mg base CX0 1 fN fdN ["word", "many"] spNumber := ok_number B D_number
  refine D.F.ok sc_worths_of (fun vs H Q E h => ?_) (fun cdv A outer s H vs Q E hr h => ?_)
  · obtain ⟨z, m, rfl, _⟩ := h
    rfl
  · obtain ⟨z, m, rfl, m4, hz, k⟩ := h
    have S := sc_worths_of
    refine ⟨_, (pss_cons (ps_if (pt_cmpR op_eq (pv 0) pe_str (nomark _))
        (pss_one (ps_ret (pe_listRg (by rfl) (by rfl) B.m_list (prg_1 (by rfl) B.m_range (pv 1)))))
        pss_nil)
      (pss_cons (ps_set (i := 2) S.nd rfl (.inl rfl) (pe_call G_number (hr.mono (by decide)) (by rfl) D_number.g D_number.F.kp D_number.b .nil pass0 (pa_cons (pv 0) (pa_cons (pv 1) pa_nil))))
      (pss_one (ps_ret (pe_ifExp (pt_cmpR op_ge (pv 2) pe_int (nomark _)) (pe_lst (pa_cons (pv 2) pa_nil)) (pe_lst pa_nil)))))), ?_⟩
    refine (ans_eq2 (val_var rfl) val_c rfl) _ ?_
    by_cases c : z = "any"
    · subst c
      rw [decide_eq_true rfl]
      refine iteT ?_
      dsimp only [tRet, tLstRg, tRg1]
      refine (val_var (v := .int (m : Nat)) rfl) _ ⟨_, rfl, RgOk.of_le (by decide) (by omega) (by decide) (by omega), fun q nq => ?_⟩
      refine k _ q (same_upd nq) nq ?_
      rw [upd_same]
      have e : wOf "any" m = (List.range m).map Int.ofNat := if_pos rfl
      rw [e]
      unfold rgV
      rw [List.map_map, show ((m : Int) - 0).toNat = m by omega]
      congr 2
      refine List.map_congr_left fun i _ => ?_
      show V.int (0 + (i : Int)) = V.int (i : Int)
      rw [Int.zero_add]
    · rw [decide_eq_false (fun e => c (V.str.inj e))]
      refine iteF ?_
      dsimp only [tNext, tSeq, tAsg]
      refine (val_call (v := .int (numOf z m)) (va_cons (val_var rfl) (va_cons (val_var rfl) va_nil)) fun Q q => ⟨z, m, rfl, hz, q⟩) _ ?_
      have e : wOf z m = if 0 ≤ numOf z m then [numOf z m] else [] := if_neg c
      rw [e] at k
      refine (ansI (i := numOf z m) (j := 0) (val_var rfl) val_c) _ ?_
      refine ite2 (fun e => ?_) fun e => ?_
      · rw [if_pos (of_decide_eq_true e)] at k
        exact (val_var rfl) _ ⟨by show 1 ≤ sizeLine; decide, fun p np => k _ p (same_upd np) np upd_same⟩
      · rw [if_neg (fun c => e (decide_eq_true c))] at k
        exact ⟨Nat.zero_le _, fun p np => k _ p (same_upd np) np upd_same⟩
theorem ok_answer_of {f fN : Addr} {fd fdN : FuncData} (B : Bt mg) (W : Gw K mg aw) (D : Df K mg "answer_of" s_answer_of f fd ["word", "worths"]) (D_number : Df K mg "number" s_number fN fdN ["word", "many"]) : FnOk P w K mg base CX0 2 f fd ["word", "worths"] spAnsOf := by
  have G_number : FnOk P w K mg base CX0 1 fN fdN ["word", "many"] spNumber := ok_number B D_number
  refine D.F.ok sc_answer_of (fun vs H Q E h => ?_) (fun cdv A outer s H vs Q E hr h => ?_)
  · obtain ⟨z, m, rfl, _⟩ := h
    rfl
  · obtain ⟨z, m, rfl, hz, k⟩ := h
    have S := sc_answer_of
    have gA := W.a
    refine ⟨_, (pss_cons (ps_if (pt_cmpR op_in_seq (pv 0) (pe_glob (v := .ref aw) (by rfl) gA rfl) (by rfl))
        (pss_one (ps_ret (pe_op op_sub (pe_tupKx (pe_glob (v := .ref aw) (by rfl) gA rfl) (pa_cons (pv 0) pa_nil)) pe_int)))
        pss_nil)
      (pss_cons (ps_set (i := 2) S.nd rfl (.inl rfl) (pe_call G_number (hr.mono (by decide)) (by rfl) D_number.g D_number.F.kp D_number.b .nil pass0 (pa_cons (pv 0) (pa_cons (pv 1) pa_nil))))
      (pss_one (ps_ret (pe_ifExp (pt_cmpR op_ge (pv 2) pe_int (nomark _)) (pv 2) pe_non))))), ?_⟩
    have bl := busy_lost
    have inA : inV (.str z) ((["busy", "lost"] : List Str).map V.str) = decide (z ∈ (["busy", "lost"] : List Str)) := inV_strs z _
    try dsimp only [tSeq, tIfS, tTest, tOp]
    refine (val_var rfl) _ ?_
    refine val_c _ ⟨aw, _, rfl, .inr (W.k.sq _), rfl, rfl, _, rfl, ?_⟩
    rw [inA]
    by_cases hb : z = "busy"
    · subst hb
      rw [decide_eq_true (List.mem_cons_self ..)]
      refine iteT ?_
      try dsimp only [tRet, tOp, tTupKx, tCons, tNil]
      refine val_c _ ⟨aw, _, rfl, W.k, ?_⟩
      refine (val_var rfl) _ ⟨"busy", 0, rfl, rfl, fun m hm => absurd hm (Nat.not_lt_zero _), ?_⟩
      refine val_c _ ⟨_, _, rfl, rfl, ?_⟩
      have e : ansV (ansOf "busy" m) = .int (((0 : Nat) : Int) - 2) := by
        unfold ansOf
        rw [if_pos rfl]
        rfl
      rw [e] at k
      exact k
    · by_cases hl : z = "lost"
      · subst hl
        rw [decide_eq_true (List.mem_cons_of_mem _ (List.mem_cons_self ..))]
        refine iteT ?_
        try dsimp only [tRet, tOp, tTupKx, tCons, tNil]
        refine val_c _ ⟨aw, _, rfl, W.k, ?_⟩
        refine (val_var rfl) _ ⟨"lost", 1, rfl, rfl, fun m hm => ?_, ?_⟩
        · obtain rfl : m = 0 := by omega
          intro c
          exact bl (Option.some.inj c)
        refine val_c _ ⟨_, _, rfl, rfl, ?_⟩
        have e : ansV (ansOf "lost" m) = .int (((1 : Nat) : Int) - 2) := by
          unfold ansOf
          rw [if_neg bl.symm, if_pos rfl]
          rfl
        rw [e] at k
        exact k
      · rw [decide_eq_false (by simp only [List.mem_cons, List.not_mem_nil, or_false]; intro c; exact c.elim hb hl)]
        have e : ansOf z m = if 0 ≤ numOf z m then some (numOf z m) else none := by
          unfold ansOf
          rw [if_neg hb, if_neg hl]
        rw [e] at k
        refine iteF ?_
        dsimp only [tNext, tSeq, tAsg]
        refine (val_call (v := .int (numOf z m)) (va_cons (val_var rfl) (va_cons (val_var rfl) va_nil)) fun Q q => ⟨z, m, rfl, hz, q⟩) _ ?_
        refine (ansI (i := numOf z m) (j := 0) (val_var rfl) val_c) _ ?_
        refine ite2 (fun e => ?_) fun e => ?_
        · rw [if_pos (of_decide_eq_true e)] at k
          exact (val_var rfl) _ k
        · rw [if_neg (fun c => e (decide_eq_true c))] at k
          exact val_c _ k
theorem ok_answers_of {f fN fW fA : Addr} {fd fdN fdW fdA : FuncData} (B : Bt mg) (W : Gw K mg aw) (D : Df K mg "answers_of" s_answers_of f fd ["word", "worths"]) (Dw : Df K mg "worths_of" s_worths_of fW fdW ["word", "worths"]) (Da : Df K mg "answer_of" s_answer_of fA fdA ["word", "worths"])
    (D_number : Df K mg "number" s_number fN fdN ["word", "many"]) : FnOk P w K mg base CX0 3 f fd ["word", "worths"] (spList asOf) := by
  have Gw : FnOk P w K mg base CX0 2 fW fdW ["word", "worths"] (spList wOf) := ok_worths_of B Dw D_number
  have Ga : FnOk P w K mg base CX0 2 fA fdA ["word", "worths"] spAnsOf := ok_answer_of B W Da D_number
  refine D.F.ok sc_answers_of (fun vs H Q E h => ?_) (fun cdv A outer s H vs Q E hr h => ?_)
  · obtain ⟨z, m, rfl, _⟩ := h
    rfl
  · obtain ⟨z, m, rfl, m4, hz, k⟩ := h
    have S := sc_answers_of
    refine ⟨_, (pss_cons (ps_set (i := 2) S.nd rfl (.inl rfl) (pe_call Ga (hr.mono (by decide)) (by rfl) Da.g Da.F.kp Da.b .nil pass0 (pa_cons (pv 0) (pa_cons (pv 1) pa_nil))))
      (pss_one (ps_ret (pe_ifExp (pt_cmpR op_isN1 (pv 2) pe_non (nomark _)) (pe_call Gw (hr.mono (by decide)) (by rfl) Dw.g Dw.F.kp Dw.b .nil pass0 (pa_cons (pv 0) (pa_cons (pv 1) pa_nil))) (pe_lst (pa_cons (pv 2) pa_nil)))))), ?_⟩
    dsimp only [tNext, tSeq, tAsg]
    refine (val_call (v := ansV (ansOf z m)) (va_cons (val_var rfl) (va_cons (val_var rfl) va_nil)) fun Q q => ⟨z, m, rfl, hz, q⟩) _ ?_
    have e : asOf z m = match ansOf z m with
      | some i => [i]
      | none => wOf z m := rfl
    rw [e] at k
    cases q : ansOf z m with
    | none =>
      rw [q] at k
      refine (ans_isN (x := ansV none) (b := true) (val_var rfl) (decide_eq_true rfl)) _ (iteT ?_)
      dsimp only [tRet, tCall, tCons, tNil]
      exact (val_var rfl) _ ((val_var rfl) _ ⟨z, m, rfl, m4, hz, k⟩)
    | some i =>
      rw [q] at k
      refine (ans_isN (x := ansV (some i)) (b := false) (val_var rfl) (decide_eq_false fun c => nomatch c)) _ (iteF ?_)
      exact (val_var rfl) _ ⟨by show 1 ≤ sizeLine; decide, fun p np => k _ p (same_upd np) np upd_same⟩
end
end K5
namespace K5
open PySem PySem.Spec PyProof.Rows L2
/-- a def whose code object is at c -/
structure FunT (K : PySem.W.Frag) (x qual : Str) (st : Stmt) (f : Addr) (fd : FuncData) (c : Addr) : Prop where
  ex : ∃ (oc : Value) (od : Option Addr) (kV doc pm : Value) (an : Option Addr) (ct : Value) (osl : Array (Option Value)),
    fd = PySem.W.fnOf x qual (defArgs st) (defBody st) (defScope st) .none kV doc pm an (.ref c) ct ∧ K.lookup f = some ⟨oc, od, .func fd, osl⟩ ∧ PySem.W.codeIn K (.ref c) qual = true
  kp : PySem.W.keepIn K (.ref f) = true
theorem FunT.okC {P : Program} {w : World} {K : PySem.W.Frag} {mg : Str → Option Value} {base : Heap} {x qual : Str} {st : Stmt} {f c : Addr} {fd : FuncData} {N ps : List Str} {k : Nat} {sp : Sp} (F : FunT K x qual st f fd c) (S : FnScope N ps (defScope st)) (len : ∀ vs H Q E, sp vs H Q E → vs.length = ps.length)
    (hbody : ∀ (A : Around) (outer : List Env) (s : Shared) (H : Hp) (vs : List V) (Q : VK) (E : XK), Room k (A.deeper (envOfC qual (defScope st) s.heap.objs.size f (.ref c))) → sp vs H Q E →
      ∃ t, PSs (cxOf (L2.CX P w) P w K mg base N qual (defScope st) f (.ref c) A outer s H E) (defBody st) t ∧ t { nx := fun _ H' => Q .non H', rt := Q } (start N vs) H) : FnOk P w K mg base (L2.CX P w) (k + 1) f fd ps sp := by
  obtain ⟨oc, od, kV, doc, pm, an, ct, osl, e, l1, l2⟩ := F.ex
  subst e
  exact fn_of l1 l2 S len hbody
def hide (H : Hp) (L : List Addr) : Hp := fun b => if b ∈ L then none else H b
theorem hide_in {H : Hp} {L : List Addr} {b : Addr} (h : b ∈ L) : hide H L b = none := if_pos h
theorem hide_out {H : Hp} {L : List Addr} {b : Addr} (h : b ∉ L) : hide H L b = H b := if_neg h
theorem hide_same {H : Hp} {L : List Addr} : Same (hide H L) H := fun b o e => by
  by_cases h : b ∈ L
  · rw [hide_in h] at e
    cases e
  · rw [hide_out h] at e
    exact e
/-- all but the thing at P is kept -/
def ButP (P : Addr) (H H' : Hp) : Prop := ∀ b o, b ≠ P → H b = some o → H' b = some o
theorem ButP.of_same {P : Addr} {H H' : Hp} (e : Same H H') : ButP P H H' := fun b o _ h => e b o h
theorem ButP.trans {P : Addr} {H H1 H2 : Hp} (x : ButP P H H1) (y : ButP P H1 H2) : ButP P H H2 := fun b o n h => y b o n (x b o n h)
theorem ButP.tab {P : Addr} {H H' : Hp} (e : GxR.Tabbed P H H') : ButP P H H' := fun b o n h => by
  rw [e.2 b n]
  exact h
theorem tab_same {P : Addr} {H H' : Hp} (t : GxR.TabG H P) (e : Same H H') : GxR.TabG H' P := let ⟨ps, h1, h2⟩ := t; ⟨ps, e _ _ h1, h2⟩
end K5
namespace K5
open PySem PySem.Spec PyProof.Rows L2
/-! ### outcomes -/
def putAll : List Int → Int → List (Int × Int) → Option (List (Int × Int))
  | [], _, acc => some acc
  | a :: as, b, acc => if a ∈ acc.map (·.1) then none else putAll as b (acc ++ [(a, b)])
def outRow (m n : Nat) (ws : List Str) (acc : List (Int × Int)) : Option (List (Int × Int)) := match ws with
  | [a, b] => if asOf a m ≠ [] ∧ 0 ≤ numOf b n then putAll (asOf a m) (numOf b n) acc else none
  | _ => none
def outsOf (m n : Nat) : List Str → List (Int × Int) → Option (List (Int × Int))
  | [], acc => some acc
  | r :: rs, acc => (outRow m n (Txt.split r " ") acc).bind (outsOf m n rs)
def dkv (acc : List (Int × Int)) : List (Key × V) := acc.map fun q => (.inl q.1, .int q.2)
def OutsAt (H : Hp) (p : Addr) (acc : List (Int × Int)) : Prop := ∃ (ks : List Int) (ts : List Addr) (bs : List (Int × Int)), H p = some (.tup (ts.map V.ref)) ∧ bs.map (·.1) = ks ∧ ks.Perm (acc.map (·.1)) ∧ ks.Pairwise (· ≤ ·) ∧ (∀ q ∈ bs, q ∈ acc) ∧
  Paired (fun (t : Addr) (q : Int × Int) => H t = some (.tup [.int q.1, .int q.2])) ts bs
theorem dkv_some {acc : List (Int × Int)} {a : Int} : (valV (dkv acc) (.inl a)).isSome = decide (a ∈ acc.map (·.1)) := by
  induction acc with
  | nil => rfl
  | cons q r ih =>
    by_cases e : q.1 = a
    · have e2 : valV (dkv (q :: r)) (.inl a) = some (.int q.2) := valV_pos (show (Sum.inl q.1 : Key) = .inl a by rw [e])
      rw [e2]
      exact (decide_eq_true (by rw [List.map_cons, e]; exact List.mem_cons_self ..)).symm
    · have e2 : valV (dkv (q :: r)) (.inl a) = valV (dkv r) (.inl a) := valV_neg (show ¬ (Sum.inl q.1 : Key) = .inl a from fun z => e (by injection z))
      rw [e2, ih]
      exact decide_eq_decide.mpr ⟨fun h => List.mem_cons_of_mem _ h, fun h => (List.mem_cons.mp h).elim (fun z => absurd z.symm e) id⟩
theorem dkv_none {acc : List (Int × Int)} {a : Int} (h : a ∉ acc.map (·.1)) : valV (dkv acc) (.inl a) = none := by
  have e := dkv_some (acc := acc) (a := a)
  rw [decide_eq_false h] at e
  cases q : valV (dkv acc) (.inl a) with
  | none => rfl
  | some v =>
    rw [q] at e
    cases e
theorem dkv_put {acc : List (Int × Int)} {a b : Int} (h : a ∉ acc.map (·.1)) : putK (dkv acc) (.inl a) (.int b) = dkv (acc ++ [(a, b)]) := by
  rw [putK_new _ (dkv_none h)]
  unfold dkv
  rw [List.map_append]
  rfl
theorem dkv_get {a b : Int} : ∀ {acc : List (Int × Int)}, (acc.map (·.1)).Nodup → (a, b) ∈ acc → valV (dkv acc) (.inl a) = some (.int b)
  | q :: r, nd, h => by
    rw [List.map_cons, List.nodup_cons] at nd
    rcases List.mem_cons.mp h with e | e
    · subst e
      exact valV_pos rfl
    · have ne : q.1 ≠ a := fun z => nd.1 (by rw [z]; exact List.mem_map_of_mem (f := (·.1)) e)
      exact (valV_neg (show ¬ (Sum.inl q.1 : Key) = .inl a from fun z => ne (by injection z))).trans (dkv_get nd.2 e)
theorem nodup_bound {lo : Int} : ∀ (k : Nat) (l : List Int), l.Nodup → (∀ x ∈ l, lo ≤ x ∧ x < lo + k) → l.length ≤ k
  | 0, l, _, h => by
    cases l with
    | nil => exact Nat.le_refl _
    | cons x r =>
      have := h x (List.mem_cons_self ..)
      omega
  | k + 1, l, nd, h => by
    have ih := nodup_bound (lo := lo) k (l.erase (lo + k)) (nd.erase _) fun x hx => by
      have h1 := (nd.mem_erase_iff).mp hx
      have h2 := h x h1.2
      have := h1.1
      omega
    have e := List.length_erase (a := lo + k) (l := l)
    split at e <;> omega
theorem num_lt {z : Str} {m : Int} (h : 0 ≤ numOf z m) : numOf z m < m := by
  unfold numOf at h ⊢
  split
  · rename_i c
    rw [if_pos c] at h
    exact absurd h (by decide)
  · rename_i c
    rw [if_neg c] at h
    split
    · rename_i c2
      rw [Bool.and_eq_true] at c2
      exact of_decide_eq_true c2.2
    · rename_i c2
      rw [if_neg c2] at h
      exact absurd h (by decide)
theorem wOf_in {z : Str} {m : Nat} {a : Int} (h : a ∈ wOf z m) : 0 ≤ a ∧ a < m := by
  unfold wOf at h
  split at h
  · obtain ⟨i, hi, rfl⟩ := List.mem_map.mp h
    have := List.mem_range.mp hi
    exact ⟨Int.natCast_nonneg i, Int.ofNat_lt.mpr this⟩
  · split at h
    · rename_i c
      rw [List.mem_singleton.mp h]
      exact ⟨c, num_lt c⟩
    · cases h
theorem asOf_in {z : Str} {m : Nat} {a : Int} (m4 : m ≤ 4) (h : a ∈ asOf z m) : -2 ≤ a ∧ a < 4 := by
  unfold asOf at h
  cases q : ansOf z m with
  | none =>
    rw [q] at h
    have := wOf_in h
    omega
  | some i =>
    rw [q] at h
    have e : a = i := List.mem_singleton.mp h
    unfold ansOf at q
    split at q
    · cases q; omega
    · split at q
      · cases q; omega
      · split at q
        · rename_i c
          cases q
          have := num_lt c
          omega
        · cases q
theorem drop_cons {α : Type} : ∀ {l : List α} {i : Nat} {a : α}, l[i]? = some a → l.drop i = a :: l.drop (i + 1)
  | x :: r, 0, _, e => by
    cases e
    rfl
  | x :: r, i + 1, _, e => drop_cons (l := r) (i := i) e
  | [], _, _, e => by cases e
theorem two_of' {ws : List Str} (h : ws.length = 2) : ∃ a b, ws = [a, b] := by
  match ws, h with
  | [a, b], _ => exact ⟨a, b, rfl⟩
theorem outRow_len {m n : Nat} {ws : List Str} {acc : List (Int × Int)} (h : ws.length ≠ 2) : outRow m n ws acc = none := by
  match ws, h with
  | [], _ => rfl
  | [_], _ => rfl
  | [_, _], h => exact absurd rfl h
  | _ :: _ :: _ :: _, _ => rfl
theorem truL {K : PySem.W.Frag} {H : Hp} {p : Addr} {xs : List V} (h : SqL K H p xs) : TruV K (.ref p) H (!xs.isEmpty) := .inl ⟨_, h, rfl⟩
theorem pick {acc : List (Int × Int)} : ∀ {ys : List Int}, (∀ a ∈ ys, ∃ b, (a, b) ∈ acc) → ∃ bs : List (Int × Int), bs.map (·.1) = ys ∧ ∀ q ∈ bs, q ∈ acc
  | [], _ => ⟨[], rfl, fun q h => nomatch h⟩
  | y :: r, h => by
    obtain ⟨b, hb⟩ := h y (List.mem_cons_self ..)
    obtain ⟨bs, e1, e2⟩ := pick (ys := r) fun a ha => h a (List.mem_cons_of_mem _ ha)
    refine ⟨(y, b) :: bs, by rw [List.map_cons, e1], fun q hq => ?_⟩
    rcases List.mem_cons.mp hq with c | c
    · rw [c]
      exact hb
    · exact e2 q c
theorem paired_map' {α β γ : Type} {R : α → β → Prop} {f : γ → β} : ∀ {l : List α} {m : List γ}, Paired R l (m.map f) → Paired (fun a c => R a (f c)) l m
  | _, [], .nil => .nil
  | _, c :: r, .cons h t => .cons h (paired_map' t)
def spOuts (CL CT PT : Addr) : Sp := fun vs H Q E => ∃ (l dx r : Addr) (rows : List Str) (at_ : Nat) (z : Str) (m n : Nat), vs = [.ref l, .str z, .int m, .int n] ∧ LinesAt CL H l dx r rows at_ ∧ m ≤ 4 ∧ z.length ≤ 14000 ∧ GxR.TabG H PT ∧
  match outsOf m n (Txt.split z ", ") [] with
  | none => ErrK CT (.int (at_ : Nat)) H E
  | some acc => ∀ (H' : Hp) (p : Addr), ButP PT H H' → GxR.TabG H' PT → OutsAt H' p acc → Q (.ref p) H'
abbrev s_read_outcomes : Stmt := topS 19
theorem sc_read_outcomes : FnScope ["lines", "text", "worths", "many", "row", "words", "answers", "behind", "answer", "outcomes"] ["lines", "text", "worths", "many"] (defScope s_read_outcomes) := ⟨rfl, rfl, rfl, by decide +kernel, rfl, by decide +kernel, by decide +kernel⟩
theorem free_outs : ∀ y ∈ ([(".0", .local), ("answer", .local), ("outcomes", .free)] : List (Str × NameKind)), y.2 = .free → (defScope s_read_outcomes).names.lookup y.1 = some .cell := by decide +kernel
structure EnO (P : Program) (w : World) (K : PySem.W.Frag) (mg : Str → Option Value) (base : Heap) (CL CT aw fNeed fA fN : Addr) (dNeed dA dN : FuncData) : Prop where
  B : Bt mg
  ms : mg "sorted" = none
  L : ClL K CL
  Mn : Mf K CL "need" "Lines.need" s_Lines_need fNeed dNeed ["self", "right"]
  Gn : FnOk P w K mg base (L2.CX P w) 4 fNeed dNeed ["self", "right"] (spNeed K CL CT)
  Da : Df K mg "answers_of" s_answers_of fA dA ["word", "worths"]
  Ga : FnOk P w K mg base CX0 3 fA dA ["word", "worths"] (spList asOf)
  Dn : Df K mg "number" s_number fN dN ["word", "many"]
  Gm : FnOk P w K mg base CX0 1 fN dN ["word", "many"] spNumber
section
variable {P : Program} {w : World} {K : PySem.W.Frag} {mg : Str → Option Value} {base : Heap} {CL CT aw fNeed fA fN : Addr} {dNeed dA dN : FuncData}
theorem ok_read_outcomes {f c PT : Addr} {fd : FuncData} (N : EnO P w K mg base CL CT aw fNeed fA fN dNeed dA dN) (F : FunT K "read_outcomes" "read_outcomes" s_read_outcomes f fd c) (TB : GxR.TabB base mg c PT) :
    FnOk P w K mg base (L2.CX P w) 6 f fd ["lines", "text", "worths", "many"] (spOuts CL CT PT) := by
  refine F.okC sc_read_outcomes (fun vs H Q E h => ?_) (fun A outer s H vs Q E hr h => ?_)
  · obtain ⟨l, dx, r, rows, at_, z, m, n, rfl, _⟩ := h
    rfl
  · obtain ⟨l, dx, r, rows, at_, z, m, n, rfl, hl, m4, hz, tab, k⟩ := h
    have S := sc_read_outcomes
    refine ⟨_, (pss_cons (ps_set (i := 9) S.nd rfl (.inr rfl) pe_dnewK)
      (pss_cons (ps_for (passes_of rfl) rfl (pi_list (pe_bm PySem.F.plainAttrs_str PySem.F.slot_str_split PySem.F.type_str_split mt_split (pv 1) (pa_cons pe_str pa_nil))) (pg_name (i := 4) S.nd rfl (.inl rfl))
        (pss_cons (ps_set (i := 5) S.nd rfl (.inl rfl) (pe_bm PySem.F.plainAttrs_str PySem.F.slot_str_split PySem.F.type_str_split mt_split (pv 4) (pa_cons pe_str pa_nil)))
        (pss_cons (ps_expr (pe_meth (pv 0) N.L.cl N.Mn.m N.Gn (hr.mono (by decide)) N.Mn.b .nil (pxp rfl rfl rfl rfl) (pa_cons (pe_cmpR op_eq (pe_callB call_len_seq (by rfl) N.B.m_len PySem.boot_len (pa_cons (pv 5) pa_nil)) pe_int (nomark _)) pa_nil)))
        (pss_cons (ps_set (i := 6) S.nd rfl (.inl rfl) (pe_call N.Ga (hr.mono (by decide)) (by rfl) N.Da.g N.Da.F.kp N.Da.b .nil pass0 (pa_cons (pe_ix ix_list (pv 5) pe_int (fun _ _ => rfl)) (pa_cons (pv 2) pa_nil))))
        (pss_cons (ps_set (i := 7) S.nd rfl (.inl rfl) (pe_call N.Gm (hr.mono (by decide)) (by rfl) N.Dn.g N.Dn.F.kp N.Dn.b .nil pass0 (pa_cons (pe_ix ix_list (pv 5) pe_int (fun _ _ => rfl)) (pa_cons (pv 3) pa_nil))))
        (pss_cons (ps_expr (pe_meth (pv 0) N.L.cl N.Mn.m N.Gn (hr.mono (by decide)) N.Mn.b .nil (pxp rfl rfl rfl rfl) (pa_cons (pe_andT (pv 6) (pe_one (pe_cmpR op_ge (pv 7) pe_int (nomark _)))) pa_nil)))
        (pss_one (ps_for (passes_of rfl) rfl (pi_list (pv 6)) (pg_name (i := 8) S.nd rfl (.inl rfl))
          (pss_cons (ps_expr (pe_meth (pv 0) N.L.cl N.Mn.m N.Gn (hr.mono (by decide)) N.Mn.b .nil (pxp rfl rfl rfl rfl) (pa_cons (pe_cmp (pc_dnotin (hu_of hr) (pv 8) (pv 9)) (by rfl)) pa_nil)))
          (pss_one (ps_dput (hu_of hr) (pv 9) (pv 8) (pv 7) rfl)))))))))))
      (pss_one (ps_ret (GL.pe_tupNew (Pr := GL.PrN 9) hr TB rfl rfl rfl (by decide +kernel) rfl free_outs (pe_callB (call_sortedDI rfl) (by rfl) N.ms (by decide +kernel) (pa_cons (pv 9) pa_nil))
        (fun pins σ us rows H1 h t => GL.prov_name (i := 9) rfl rfl (by decide +kernel) rfl free_outs rfl (by decide +kernel) (by decide +kernel) (by decide +kernel) h t) rfl (by rfl) N.B.m_tuple))))), ?_⟩
    dsimp only [tSeq, tAsg]
    intro d nd
    have H1d : (upd H d (.dK [])) d = some (.dK []) := upd_same
    have s1 : Same H (upd H d (.dK [])) := same_upd nd
    generalize (upd H d (.dK [])) = H1 at H1d s1 ⊢
    refine ⟨_, rfl, rfl, z, ", ", rfl, rfl, by decide +kernel, big_size (by omega), fun p np => ?_⟩
    have H2p : (upd H1 p (.lst ((Txt.split z ", ").map V.str))) p = some (.lst ((Txt.split z ", ").map V.str)) := upd_same
    have s2 : Same H1 (upd H1 p (.lst ((Txt.split z ", ").map V.str))) := same_upd np
    have H2d := s2 _ _ H1d
    have s02 := s1.trans s2
    generalize (upd H1 p (.lst ((Txt.split z ", ").map V.str))) = H2 at H2p H2d s02 ⊢
    refine ⟨p, rfl, ⟨_, SqL.of H2p⟩, for_list (K := K) (a := p) (xs := (Txt.split z ", ").map V.str) (fun i σ' H' => ∃ (t4 t5 t6 t7 t8 : Option V) (acc : List (Int × Int)), σ' = [some (.ref l), some (.str z), some (.int m), some (.int n), t4, t5, t6, t7, t8, some (.ref d)] ∧ Same H H' ∧ H' d = some (.dK (dkv acc)) ∧ H' p = some (.lst ((Txt.split z ", ").map V.str)) ∧
      outsOf m n ((Txt.split z ", ").drop i) acc = outsOf m n (Txt.split z ", ") [] ∧ (acc.map (·.1)).Nodup ∧ ∀ a ∈ acc.map (·.1), (-2 : Int) ≤ a ∧ a < 4) ?_ ?_ ?_ ?_⟩
    · exact ⟨_, _, _, _, _, [], rfl, s02, H2d, H2p, rfl, List.nodup_nil, fun a h => nomatch h⟩
    · rintro i σ' H' _ ⟨_, _, _, _, _, acc, _, _, _, hp, _⟩
      exact SqL.of hp
    · rintro i x σ' H' ex ⟨t4, t5, t6, t7, t8, acc, rfl, sm, hd, hp, er, nk, bk⟩
      obtain ⟨row, erow, rfl⟩ : ∃ row, (Txt.split z ", ")[i]? = some row ∧ x = .str row := by
        rw [List.getElem?_map] at ex
        cases q : (Txt.split z ", ")[i]? with
        | none => rw [q] at ex; cases ex
        | some row => rw [q] at ex; exact ⟨row, rfl, (Option.some.inj ex).symm⟩
      have rlen : row.length ≤ 14000 := Nat.le_trans (split_len (List.mem_of_getElem? erow)) hz
      have edr : (Txt.split z ", ").drop i = row :: (Txt.split z ", ").drop (i + 1) := drop_cons erow
      rw [edr] at er
      have er : (outRow m n (Txt.split row " ") acc).bind (outsOf m n ((Txt.split z ", ").drop (i + 1))) = outsOf m n (Txt.split z ", ") [] := er
      have bad : outRow m n (Txt.split row " ") acc = none → ErrK CT (.int (at_ : Nat)) H E := fun e => by
        rw [e] at er
        have er : none = outsOf m n (Txt.split z ", ") [] := er
        rw [← er] at k
        exact k
      dsimp only [gName, tSeq, tAsg]
      refine ⟨_, rfl, rfl, row, " ", rfl, rfl, by decide +kernel, big_size (by omega), fun q nq => ?_⟩
      have H1q : (upd H' q (.lst ((Txt.split row " ").map V.str))) q = some (.lst ((Txt.split row " ").map V.str)) := upd_same
      have sq : Same H' (upd H' q (.lst ((Txt.split row " ").map V.str))) := same_upd nq
      have hd := sq _ _ hd
      have hp := sq _ _ hp
      have sm := sm.trans sq
      generalize (upd H' q (.lst ((Txt.split row " ").map V.str))) = H3 at H1q sq hd hp sm ⊢
      clear sq nq
      have hl3 := hl.mono sm
      have hS : SqL K H3 q ((Txt.split row " ").map V.str) := SqL.of H1q
      refine meth_run (val_var rfl) hl3.o (lf_no (by decide +kernel) (by decide +kernel)) ?_
      refine (val_op (val_lenL (val_var rfl) hS) val_c fun Q q => ⟨rfl, q⟩) _ ?_
      refine ⟨l, dx, r, rows, at_, _, _, rfl, hl3, rfl, fun e => ?_, fun e => (bad ?_).mono sm⟩
      · have e2 : ((Txt.split row " ").map V.str).length = 2 := by
          have := of_decide_eq_true e
          injection this with this
          omega
        rw [List.length_map] at e2
        obtain ⟨a, b, eab⟩ := two_of' e2
        rw [eab] at hS er bad H1q
        have alen : a.length ≤ 10000000 := by
          have := split_len (x := row) (y := " ") (p := a) (by rw [eab]; exact List.mem_cons_self ..)
          omega
        have blen : b.length ≤ 10000000 := by
          have := split_len (x := row) (y := " ") (p := b) (by rw [eab]; exact List.mem_cons_of_mem _ (List.mem_cons_self ..))
          omega
        dsimp only [tNext, tSeq, tAsg]
        dsimp only [tCall, tCons, tNil]
        refine (val_ixL (val_var rfl) val_c hS (atI_nat (j := 0) rfl)) _ ((val_var rfl) _ ⟨a, m, rfl, m4, alen, fun H4 pa s4 npa hpa => ?_⟩)
        have hS4 : SqL K H4 q ([a, b].map V.str) := SqL.of (s4 _ _ H1q)
        refine (val_call (v := .int (numOf b n)) (va_cons (val_ixL (val_var rfl) val_c hS4 (atI_nat (j := 1) rfl)) (va_cons (val_var rfl) va_nil)) fun Q q => ⟨b, n, rfl, blen, q⟩) _ ?_
        have hd4 := s4 _ _ hd
        have hp4 := s4 _ _ hp
        have sm4 := sm.trans s4
        have hl4 := hl.mono sm4
        clear hS4 hS hd hp sm hl3 H1q
        clear s4
        have npp : pa ≠ d := fun c => by
          rw [c, hd4] at hpa
          cases hpa
        have npd : p ≠ d := fun c => by
          rw [c, hd4] at hp4
          cases hp4
        refine meth_run (val_var rfl) hl4.o (lf_no (by decide +kernel) (by decide +kernel)) ?_
        dsimp only [tCons, tNil, tAndT]
        refine (val_var rfl) _ ⟨_, truL (SqL.of hpa), ?_⟩
        by_cases ea : asOf a m = []
        · rw [ea] at hpa
          rw [ea]
          refine iteF ?_
          exact ⟨l, dx, r, rows, at_, .ref pa, false, rfl, hl4, truL (SqL.of hpa), (fun e => nomatch e), fun _ => (bad (if_neg fun c => c.1 ea)).mono sm4⟩
        · have ne : (!((asOf a m).map V.int).isEmpty) = true := by
            cases q : asOf a m with
            | nil => exact absurd q ea
            | cons _ _ => rfl
          rw [ne]
          refine iteT ?_
          refine (val_op (val_var rfl) val_c fun Q q => ⟨_, _, rfl, rfl, q⟩) _ ?_
          refine ⟨l, dx, r, rows, at_, _, _, rfl, hl4, rfl, fun e => ?_, fun e => (bad (if_neg fun c => ?_)).mono sm4⟩
          · have b0 : 0 ≤ numOf b n := of_decide_eq_true e
            have eo : outRow m n [a, b] acc = putAll (asOf a m) (numOf b n) acc := if_pos ⟨ea, b0⟩
            rw [eo] at er bad
            dsimp only [tNext, tSeq]
            unfold tFor iList
            have inA : ∀ x ∈ asOf a m, -2 ≤ x ∧ x < 4 := fun x h => asOf_in m4 h
            generalize asOf a m = as at hpa er bad inA
            generalize numOf b n = bh at b0 er bad
            refine (val_var rfl) _ ⟨pa, rfl, ⟨_, SqL.of hpa⟩, for_list (K := K) (a := pa) (xs := as.map V.int) (fun j σ' H' => ∃ (t8 : Option V) (acc2 : List (Int × Int)), σ' = [some (.ref l), some (.str z), some (.int m), some (.int n), some (.str row), some (.ref q), some (.ref pa), some (.int bh), t8, some (.ref d)] ∧ Same H H' ∧ H' d = some (.dK (dkv acc2)) ∧ H' p = some (.lst ((Txt.split z ", ").map V.str)) ∧ H' pa = some (.lst (as.map V.int)) ∧
              putAll (as.drop j) bh acc2 = putAll as bh acc ∧ (acc2.map (·.1)).Nodup ∧ ∀ a ∈ acc2.map (·.1), (-2 : Int) ≤ a ∧ a < 4) ?_ ?_ ?_ ?_⟩
            · exact ⟨_, acc, rfl, sm4, hd4, hp4, hpa, rfl, nk, bk⟩
            · rintro j σ' H' _ ⟨_, _, _, _, _, _, h, _⟩
              exact SqL.of h
            · rintro j x σ' H' ex ⟨t8', acc2, rfl, sm5, hd5, hp5, hpa5, er5, nk5, bk5⟩
              obtain ⟨aj, ej, rfl⟩ : ∃ aj, as[j]? = some aj ∧ x = .int aj := by
                rw [List.getElem?_map] at ex
                cases q : as[j]? with
                | none => rw [q] at ex; cases ex
                | some aj => rw [q] at ex; exact ⟨aj, rfl, (Option.some.inj ex).symm⟩
              rw [drop_cons ej] at er5
              have er5 : (if aj ∈ acc2.map (·.1) then none else putAll (as.drop (j + 1)) bh (acc2 ++ [(aj, bh)])) = putAll as bh acc := er5
              have hl5 := hl.mono sm5
              dsimp only [gName, tSeq]
              refine meth_run (val_var rfl) hl5.o (lf_no (by decide +kernel) (by decide +kernel)) ?_
              dsimp only [tCons, tNil, tDNotIn]
              refine (val_var rfl) _ ((val_var rfl) _ ⟨d, _, rfl, DGet.k (k := .inl aj) hd5, ?_⟩)
              rw [dkv_some]
              refine ⟨l, dx, r, rows, at_, _, _, rfl, hl5, rfl, fun e => ?_, fun e => (bad ?_).mono sm5⟩
              · have nin : aj ∉ acc2.map (·.1) := fun c => by
                  rw [decide_eq_true c] at e
                  cases e
                rw [if_neg nin] at er5
                have few : (dkv acc2).length < sizeLine := by
                  have := nodup_bound (lo := -2) 6 _ nk5 bk5
                  unfold dkv
                  rw [List.length_map]
                  rw [List.length_map] at this
                  exact Nat.lt_of_le_of_lt this (by decide)
                dsimp only [tNext, sDPut]
                refine (val_var rfl) _ ((val_var rfl) _ ((val_var rfl) _ ⟨d, _, rfl, DPut.k (k := .inl aj) hd5 few, ?_⟩))
                rw [dkv_put nin]
                refine ⟨_, acc2 ++ [(aj, bh)], rfl, fun b o e => ?_, upd_same, ?_, ?_, er5, ?_, ?_⟩
                · rw [upd_ne (ne_of_none e nd)]
                  exact sm5 b o e
                · rw [upd_ne npd]
                  exact hp5
                · rw [upd_ne npp]
                  exact hpa5
                · rw [List.map_append, List.nodup_append]
                  refine ⟨nk5, List.nodup_cons.mpr ⟨List.not_mem_nil, List.nodup_nil⟩, fun x hx y hy c => ?_⟩
                  rw [List.mem_singleton.mp hy] at c
                  have c : x = aj := c
                  exact nin (by rw [← c]; exact hx)
                · intro x hx
                  rw [List.map_append] at hx
                  rcases List.mem_append.mp hx with h | h
                  · exact bk5 x h
                  · rw [List.mem_singleton.mp h]
                    exact inA aj (List.mem_of_getElem? ej)
              · have ain : aj ∈ acc2.map (·.1) := by
                  cases c : decide (aj ∈ acc2.map (·.1)) with
                  | true => exact of_decide_eq_true c
                  | false =>
                    rw [c] at e
                    cases e
                rw [if_pos ain] at er5
                exact er5.symm
            · rintro σ' H' ⟨t8', acc2, rfl, sm5, hd5, hp5, hpa5, er5, nk5, bk5⟩
              rw [List.length_map, List.drop_length] at er5
              rw [← er5] at er
              exact ⟨_, _, _, _, _, acc2, rfl, sm5, hd5, hp5, er, nk5, bk5⟩
          · exact of_decide_eq_false e c.2
      · have e2 : (Txt.split row " ").length ≠ 2 := fun c => by
          have := of_decide_eq_false e
          rw [List.length_map, c] at this
          exact this rfl
        exact outRow_len e2
    · rintro σ' H' ⟨t4, t5, t6, t7, t8, acc, rfl, sm, hd, hp, er, nk, bk⟩
      rw [List.length_map, List.drop_length] at er
      have er : some acc = outsOf m n (Txt.split z ", ") [] := er
      rw [← er] at k
      have k : ∀ (H' : Hp) (p : Addr), ButP PT H H' → GxR.TabG H' PT → OutsAt H' p acc → Q (.ref p) H' := k
      have few : (acc.map (·.1)).length < 64 := Nat.lt_of_le_of_lt (nodup_bound (lo := -2) 6 _ nk bk) (by decide)
      dsimp only [tRet, GL.tTupNew]
      refine (val_var rfl) _ ⟨d, dkv acc, acc.map (·.1), rfl, .inl hd, by unfold dkv; rw [List.map_map, List.map_map]; rfl, few, fun ys p2 perm pw np2 => ?_⟩
      have gi : ∀ a ∈ ys, ∃ b, (a, b) ∈ acc := fun a h => by
        obtain ⟨⟨a', b⟩, h1, h2⟩ := List.mem_map.mp (perm.mem_iff.mp h)
        have h2 : a' = a := h2
        exact ⟨b, by rw [← h2]; exact h1⟩
      obtain ⟨bs, hb1, hb2⟩ := pick gi
      have sm6 : Same H (upd H' p2 (.lst (ys.map V.int))) := sm.trans (same_upd np2)
      have hd6 : (upd H' p2 (.lst (ys.map V.int))) d = some (.dK (dkv acc)) := (same_upd np2) _ _ hd
      have hp6 : (upd H' p2 (.lst (ys.map V.int))) p2 = some (.lst (ys.map V.int)) := upd_same
      generalize (upd H' p2 (.lst (ys.map V.int))) = H6 at sm6 hd6 hp6 ⊢
      have ylen : ys.length < 64 := by
        rw [perm.length_eq]
        exact few
      refine ⟨p2, ys.map V.int, bs.map fun q => [V.int q.1, V.int q.2], rfl, hp6, by rw [List.length_map]; omega, tab_same tab sm6, ⟨d, dkv acc, ys.map Sum.inl, rfl, hd6, by rw [List.map_map]; rfl, fun j kk e => ?_⟩, by rw [List.length_map, List.length_map, ← hb1, List.length_map], fun r hr => ?_, fun H7 H8 p3 ts tb7 sm8 prs hp3 => ?_⟩
      · rw [List.getElem?_map] at e
        rw [← hb1, List.getElem?_map] at e
        rw [List.getElem?_map]
        cases q : bs[j]? with
        | none => rw [q] at e; cases e
        | some b =>
          rw [q] at e
          obtain rfl : Sum.inl b.1 = kk := Option.some.inj e
          exact ⟨.int b.2, dkv_get nk (hb2 b (List.mem_of_getElem? q)), rfl⟩
      · obtain ⟨q, _, rfl⟩ := List.mem_map.mp hr
        exact (by decide : 2 ≤ 10)
      · have b7 : ButP PT H H8 := (ButP.of_same sm6).trans ((ButP.tab tb7).trans (ButP.of_same sm8))
        refine k H8 p3 b7 (tab_same tb7.1 sm8) ⟨ys, ts, bs, hp3, hb1, perm, pw, hb2, paired_map' (R := fun (t : Addr) (r : List V) => H8 t = some (.tup r)) (f := fun q : Int × Int => [V.int q.1, V.int q.2]) prs⟩
end
end K5
namespace K5
open PySem PySem.Spec PyProof.Rows L2
/-! ### sorted(d) of a dict whose keys are pairs of a text and a number -/
def RawD (h : Heap) (d : Addr) (es : Array DictEntry) (ep : Nat) : Prop := ∃ o, h.get? d = some o ∧ o.ExactDict ∧ o.data = .dict es ep
section
variable {prog : Program} {w : World} {A : Around} {d : Addr} {es : Array DictEntry} {ep : Nat}
theorem RawD.at_ {h h' : Heap} (x : RawD h d es ep) (k : ∀ o, h.get? d = some o → h'.get? d = some o) : RawD h' d es ep := let ⟨o, ho, r⟩ := x; ⟨o, k o ho, r⟩
theorem walks_raw (hh : A.handled = none) (I : Addr) (ne : d ≠ I) : Walks prog w A I [I, d] [I] es.size (fun i v => ∃ en, es[i]? = some en ∧ v = en.key) (fun i h => h.IsKeyIter I d i es.size ep ∧ RawD h d es ep) where
  sub := fun b hb => by simp at hb; simp [hb]
  frame := fun _ _ _ st hk => ⟨st.1.at fun o e => hk I (by simp) o e, st.2.at_ fun o e => hk d (by simp) o e⟩
  item := fun i s Q E hi st hQ => by
    obtain ⟨it, o, ho, hc, hd⟩ := st
    refine next_key_item it ho hd rfl (Array.getElem?_eq_getElem hi) fun h' it' sb => ?_
    exact hQ _ h' s.toks ⟨_, Array.getElem?_eq_getElem hi, rfl⟩ ⟨it', o, sb.extBut d o ne ho, hc, hd⟩ fun b o hb e => sb.extBut b o (fun h => hb (by simp [h])) e
  done := fun s Q E st hQ => by
    obtain ⟨it, o, ho, hc, hd⟩ := st
    exact next_key_end hh it ho hd rfl (Nat.le_refl _) fun h' he' => hQ h' s.toks fun b o hb e => he' b o (fun h => hb (by simp [h])) e
  self := fun _ _ _ _ st hQ => wpAny_pyIter_keyiter st.1 hQ
theorem kdl_raw (lo : (d == sysModules) = false) : PySem.W.KdlSrc prog w "dict" d d es.size (fun i v => ∃ en, es[i]? = some en ∧ v = en.key) (fun h => RawD h d es ep) where
  type := fun _ ⟨o, ho, hc, _⟩ => ⟨o, ho, hc.1⟩
  there := fun _ ⟨o, ho, _⟩ => ⟨Heap.lt_size ho, Heap.lt_size ho⟩
  keep := fun _ _ hm hk => hm.at_ fun o e => hk d (.inl rfl) o e
  notList := by decide
  notTuple := by decide
  hint := fun _ _ _ _ ⟨o, ho, hc, _⟩ hq => PySem.W.kdl_hint_dict ⟨o, ho, hc.1⟩ hq
  iter := fun _ s hh hm => by
    obtain ⟨o, ho, hc, hd⟩ := hm
    exact ⟨_, _, (fun _ _ hq => iter_keys lo ho hc hd hq), walks_raw hh _ (Nat.ne_of_lt (Heap.lt_size ho)), ⟨⟨_, Heap.get?_push_size _ rfl, rfl, rfl⟩, o, Heap.get?_push_of_some _ ho, hc, hd⟩⟩
end
def keyV (k : Str × Int) : List Key := [.inr k.1, .inl k.2]
def encK (k : Str × Int) : PyData := .tuple [.str k.1, .int k.2]
def sortK (ks : List (Str × Int)) : List (Str × Int) := ks.mergeSort (PySem.W.dataLe false encK)
theorem bs_of {H : Hp} : ∀ (kvs : List (List Key × V)) (xs : List (List Key × Addr × Value)) (ks : List (Str × Int)), KT H kvs xs → kvs.map (·.1) = ks.map keyV →
    ∃ bs : List ((Str × Int) × Addr), bs.map (·.1) = ks ∧ bs.map (·.2) = xs.map (·.2.1) ∧ ∀ b ∈ bs, H b.2 = some (.tup [.str b.1.1, .int b.1.2])
  | [], _, [], .nil, _ => ⟨[], rfl, rfl, fun b h => nomatch h⟩
  | [], _, _ :: _, _, e => by cases e
  | _ :: _, _, [], _, e => by cases e
  | p :: ps, _, k :: ks, .cons (b := x) (l₂ := xs) h t, e => by
    rw [List.map_cons, List.map_cons] at e
    injection e with e1 e2
    obtain ⟨bs, c1, c2, c3⟩ := bs_of ps xs ks t e2
    refine ⟨(k, x.2.1) :: bs, by rw [List.map_cons, c1], by rw [List.map_cons, List.map_cons, c2], fun b hb => ?_⟩
    rcases List.mem_cons.mp hb with c | c
    · rw [c]
      have := h.2.1
      rw [e1] at this
      exact this
    · exact c3 b c
theorem each_refs {H : Hp} : ∀ bs : List ((Str × Int) × Addr), (∀ b ∈ bs, H b.2 = some (.tup [.str b.1.1, .int b.1.2])) → PySem.W.EachIs (fun v (b : (Str × Int) × Addr) => v = Value.ref b.2 ∧ H b.2 = some (.tup [.str b.1.1, .int b.1.2])) (bs.map fun b => Value.ref b.2) bs
  | [], _ => .nil
  | b :: r, h => .cons ⟨rfl, h b (List.mem_cons_self ..)⟩ (each_refs r fun c hc => h c (List.mem_cons_of_mem _ hc))
theorem each_ts {H : Hp} : ∀ {out : List Value} {cs : List ((Str × Int) × Addr)}, PySem.W.EachIs (fun v (b : (Str × Int) × Addr) => v = Value.ref b.2 ∧ H b.2 = some (.tup [.str b.1.1, .int b.1.2])) out cs →
    ∃ ts : List Addr, out = ts.map Value.ref ∧ Paired (fun t k => H t = some (.tup [.str k.1, .int k.2])) ts (cs.map (·.1))
  | _, _, .nil => ⟨[], rfl, .nil⟩
  | _, _, .cons (b := b) h t => by
    obtain ⟨ts, rfl, pr⟩ := each_ts t
    exact ⟨b.2 :: ts, by rw [h.1]; rfl, .cons h.2 pr⟩
section
variable {X : Cx}
theorem call_sortedDT (hcalm : X.calm = true) (hu : X.A.units + 64 < cLine) : CallR X (.builtin "sorted") (fun xs H Q => ∃ (a : Addr) (kvs : List (List Key × V)) (ks : List (Str × Int)), xs = [.ref a] ∧ H a = some (.dT kvs) ∧ kvs.map (·.1) = ks.map keyV ∧
    ∀ (ts : List Addr) (p : Addr), Paired (fun t k => H t = some (.tup [.str k.1, .int k.2])) ts (sortK ks) → H p = none → Q (.ref p) (upd H p (.lst (ts.map V.ref)))) := by
  intro pins s σ H xs us Q I r q
  obtain ⟨a, kvs, ks, ex, hd, hks, q⟩ := q
  subst ex
  obtain ⟨u, eu, rx⟩ := vals1 r
  subst eu
  cases rx
  obtain ⟨z, lo, xs, pr, o, es, ep, ho, hc, hdt, he, nd⟩ := (show ObjOk X.prog X.w H s.heap a (.dT kvs) from I.hok a _ hd)
  have l1 : es.size = xs.length := size_of_entries he
  have l2 : kvs.length = xs.length := Paired.length pr
  have l3 : kvs.length = ks.length := by
    have e := congrArg List.length hks
    rw [List.length_map, List.length_map] at e
    exact e
  have h16 : es.size ≤ sizeLine := by omega
  refine Calls.call_function_entry PyProof.Rows.kind_sorted PyProof.Rows.plain_sorted PyProof.Rows.entry_sorted (PyProof.Rows.args_sorted1 _) ?_
  unfold Builtin.«sorted»
  refine wpAny_bind (m := checkCount "sorted" 1 1 _) (wpAny_pure ?_)
  refine wpAny_bind (PySem.W.kdu_collect (A := X.A.in1) (kdl_raw (es := es) (ep := ep) lo) (I.ok.hd hcalm) ⟨o, ho, hc, hdt⟩ h16 fun h' tk acc hk hacc => ?_)
  have hal : acc.toList.length = ks.length := by rw [Array.length_toList, hacc.1]; omega
  have I1 : Inv X pins σ H { s with heap := h', toks := tk } := I.kept hk
  refine wpAny_bind (wpAny_newList ?_ (by rw [hal]; omega))
  have hoL : (h'.push (seqObj "list" acc.toList.toArray 0)).get? h'.objs.size = some (seqObj "list" acc.toList.toArray 0) := Heap.get?_push_size _ rfl
  show wpAny _ _ _ _ _ { s with heap := h'.push (seqObj "list" acc.toList.toArray 0), toks := tk }
  obtain ⟨bs, b1, b2, b3⟩ := bs_of (H := H) kvs xs ks pr hks
  have ea : acc.toList = bs.map fun b => Value.ref b.2 := by
    have e0 : (bs.map fun b => Value.ref b.2) = xs.map fun x => Value.ref x.2.1 := by
      have e1 := congrArg (List.map Value.ref) b2
      rw [List.map_map, List.map_map] at e1
      exact e1
    rw [e0]
    apply List.ext_getElem?
    intro j
    rw [List.getElem?_map]
    cases hj : acc.toList[j]? with
    | none =>
      have h1 := List.getElem?_eq_none_iff.mp hj
      rw [List.getElem?_eq_none (by omega)]
      all_goals rfl
    | some v =>
      obtain ⟨en, hen, hv⟩ := hacc.2 j v (by rw [← Array.getElem?_toList]; exact hj)
      have qe := entry_at he j
      rw [hen] at qe
      cases hb : xs[j]? with
      | none =>
        rw [hb] at qe
        exact nomatch (show some en = none from qe)
      | some b =>
        rw [hb] at qe
        have e2 : en = entryOfKey (tupleKind (mixKind X.prog X.w)) b := Option.some.inj qe
        rw [hv, e2]
        all_goals rfl
  have lb : bs.length = ks.length := by rw [← b1, List.length_map]
  have each : PySem.W.EachIs (fun v (b : (Str × Int) × Addr) => v = .ref b.2 ∧ H b.2 = some (.tup [.str b.1.1, .int b.1.2])) acc.toList bs := by
    rw [ea]
    exact each_refs bs fun b hb => b3 b hb
  have rd : PySem.W.EachIs (fun v (b : (Str × Int) × Addr) => ∃ as, Reads (h'.push (seqObj "list" acc.toList.toArray 0)) v (encK b.1) as ∧ h'.objs.size ∉ as) acc.toList bs := by
    refine each.mono fun v b ⟨e1, e2⟩ => ?_
    obtain ⟨us, rv, ⟨o2, q1, q2, n2, q3⟩, _⟩ := I1.tuple (SqT.of e2)
    cases rv with
    | cons ra rb =>
      cases rb with
      | cons rb rc =>
        cases rc
        obtain ⟨t, rfl⟩ := ra
        obtain ⟨t2, rfl⟩ := rb
        rw [e1]
        exact ⟨_, .tuple (Heap.get?_push_of_some _ q1) q2 q3 (.cons (.str _ _) (.cons (.int _ _) .nil)), by simp⟩
  refine wpAny_bind (wpAny_holding (PySem.W.list_sort_data (enc := fun b : (Str × Int) × Addr => encK b.1) (s := { s with heap := h'.push (seqObj "list" acc.toList.toArray 0), toks := tk }) hoL each rd (PySem.W.AllAlike.of fun b c => rfl) (PySem.W.Sortable.tuples fun b => ⟨_, _, rfl⟩) (by omega) (fun b _ => ?_) fun out lo2 eo => ?_))
  · show X.A.units + 1 + 1 + (encK b.1).depth < cLine
    have : (encK b.1).depth ≤ 2 := by simp [encK, PyData.depth, PyData.depthAll]
    omega
  · obtain ⟨e', he'⟩ := PyProof.Rows.sortedHeap_at (vs := acc.toList) (out := out.toArray) hoL
    have em : (bs.mergeSort (PySem.W.dataLe false fun b : (Str × Int) × Addr => encK b.1)).map (·.1) = sortK ks := by
      rw [← b1]
      exact List.map_mergeSort fun _ _ _ _ => rfl
    generalize (bs.mergeSort (PySem.W.dataLe false fun b : (Str × Int) × Addr => encK b.1)) = cs at eo em
    obtain ⟨ts, rfl, pts⟩ := each_ts eo
    rw [em] at pts
    have hlen : (ts.map V.ref).length ≤ sizeLine := by
      rw [List.length_map] at lo2 ⊢
      omega
    refine wpAny_pure ⟨_, rfl, .ref h'.objs.size, upd H h'.objs.size (.lst (ts.map V.ref)), I1.laid (t' := tk) (fun b u e => ?_) (Nat.le_refl _)
      (show ObjOk X.prog X.w _ _ _ (.lst (ts.map V.ref)) from ⟨hlen, ts.map Value.ref, e', GL.vals_refs ts, he'⟩), rfl, q ts _ pts (I1.hok.fresh (Nat.le_refl _))⟩
    have hb : b < h'.objs.size := Heap.lt_size e
    rw [PyProof.Rows.sortedHeap_old (Nat.ne_of_lt hb) (by rw [size_push']; exact Nat.lt_succ_of_lt hb)]
    exact Heap.get?_push_of_some _ e
end
end K5
namespace K5
open PySem PySem.Spec PyProof.Rows L2
/-! ### a state -/
abbrev Outs := List (Int × Int)
abbrev StA := List ((Str × Int) × Outs)
def rowSt (m n : Nat) (ws : List Str) (acc : StA) : Option StA := match ws with
  | a :: b :: c :: d :: r => if c = "->" ∧ isDoor a = true ∧ wOf b m ≠ [] ∧ ∀ w ∈ wOf b m, (a, w) ∉ acc.map (·.1) then (outsOf m n (Txt.split (Txt.join " " (d :: r)) ", ") []).map fun os => acc ++ (wOf b m).map fun w => ((a, w), os) else none
  | _ => none
def stR (m n : Nat) : List Str → Nat → StA → Except Nat (Nat × StA)
  | [], at_, acc => .ok (at_, acc)
  | z :: rs, at_, acc => if rowWords z 1 = [] then .ok (at_, acc) else match rowSt m n (rowWords z 1) acc with
    | none => .error at_
    | some acc' => stR m n rs (at_ + 1) acc'
/-- all but the things of L is kept -/
def But (L : List Addr) (H H' : Hp) : Prop := ∀ b o, b ∉ L → H b = some o → H' b = some o
theorem But.of_same {L : List Addr} {H H' : Hp} (e : Same H H') : But L H H' := fun b o _ h => e b o h
theorem But.trans {L : List Addr} {H H1 H2 : Hp} (x : But L H H1) (y : But L H1 H2) : But L H H2 := fun b o n h => y b o n (x b o n h)
theorem But.mono {L L' : List Addr} {H H1 : Hp} (x : But L H H1) (h : ∀ b ∈ L, b ∈ L') : But L' H H1 := fun b o n e => x b o (fun c => n (h b c)) e
structure Tabs (P1 P2 : Addr) (H : Hp) : Prop where
  a : GxR.TabG H P1
  b : GxR.TabG H P2
theorem Tabs.same {P1 P2 : Addr} {H H' : Hp} (t : Tabs P1 P2 H) (e : Same H H') : Tabs P1 P2 H' := ⟨tab_same t.a e, tab_same t.b e⟩
def ErrT (L : List Addr) (P1 P2 C : Addr) (v : V) (H : Hp) (E : XK) : Prop := ∀ (d : Addr) (H' : Hp), But L H H' → Tabs P1 P2 H' → H' d = some (.xd [(("value" : Str), v)]) → E (.ref C) (some d) H'
theorem ErrT.of {L : List Addr} {P1 P2 C : Addr} {v : V} {H Hk : Hp} {E : XK} (h : ErrT L P1 P2 C v H E) (k : But L H Hk) (t : Tabs P1 P2 Hk) : ErrK C v Hk E := fun d H' s _ hd => h d H' (k.trans (But.of_same s)) (t.same s) hd
/-- the rows of a state stand on the ledger: the dict d -/
def rkv (acc : StA) (as : List Addr) : List (List Key × V) := (acc.zip as).map fun q => (keyV q.1.1, V.ref q.2)
/-- what a state is, as a tuple at p -/
def StAt (H : Hp) (p : Addr) (acc : StA) : Prop := ∃ (ts : List Addr) (bs : List ((Str × Int) × Addr)), H p = some (.tup (ts.map V.ref)) ∧ bs.map (·.1) = sortK (acc.map (·.1)) ∧ (∀ b ∈ bs, ∃ os, (b.1, os) ∈ acc ∧ OutsAt H b.2 os) ∧
  Paired (fun (t : Addr) (b : (Str × Int) × Addr) => H t = some (.tup [.str b.1.1, .int b.1.2, .ref b.2])) ts bs
def spState (CL CT P1 P2 : Addr) : Sp := fun vs H Q E => ∃ (l dx r : Addr) (rows : List Str) (at_ m n : Nat), vs = [.ref l, .int m, .non, .int n] ∧ LinesAt CL H l dx r rows at_ ∧ Sz rows ∧ m ≤ 4 ∧ Tabs P1 P2 H ∧ P1 ≠ P2 ∧
  match stR m n (rows.drop at_) at_ [] with
  | .error e => ErrT [l, P1, P2] P1 P2 CT (.int (e : Nat)) H E
  | .ok (at', acc) => ∀ (H' : Hp) (p : Addr), But [l, P1, P2] H H' → Tabs P1 P2 H' → LinesAt CL H' l dx r rows at' → StAt H' p acc → Q (.ref p) H'
abbrev s_read_state : Stmt := topS 18
theorem sc_read_state : FnScope ["lines", "worths", "doors", "many", "words", "called_with", "worth", "outcomes", "rows"] ["lines", "worths", "doors", "many"] (defScope s_read_state) := ⟨rfl, rfl, rfl, by decide +kernel, rfl, by decide +kernel, by decide +kernel⟩
theorem free_state : ∀ y ∈ ([(".0", .local), ("door", .local), ("worth", .local), ("rows", .free)] : List (Str × NameKind)), y.2 = .free → (defScope s_read_state).names.lookup y.1 = some .cell := by decide +kernel
abbrev ZA := List ((Str × Int) × Addr × Outs)
def zacc (zs : ZA) : StA := zs.map fun z => (z.1, z.2.2)
def tkv (zs : ZA) : List (List Key × V) := zs.map fun z => (keyV z.1, V.ref z.2.1)
theorem keyV_inj {a b : Str × Int} (e : keyV a = keyV b) : a = b := by
  unfold keyV at e
  injection e with e1 e2
  injection e2 with e2 _
  injection e1 with e1
  injection e2 with e2
  exact Prod.ext e1 e2
theorem zacc_keys (zs : ZA) : (zacc zs).map (·.1) = zs.map (·.1) := by
  unfold zacc
  rw [List.map_map]
  rfl
theorem tkv_some {zs : ZA} {k : Str × Int} : (valV (tkv zs) (keyV k)).isSome = decide (k ∈ zs.map (·.1)) := by
  induction zs with
  | nil => rfl
  | cons q r ih =>
    by_cases e : q.1 = k
    · have e2 : valV (tkv (q :: r)) (keyV k) = some (.ref q.2.1) := valV_pos (show keyV q.1 = keyV k by rw [e])
      rw [e2]
      exact (decide_eq_true (by rw [List.map_cons, e]; exact List.mem_cons_self ..)).symm
    · have e2 : valV (tkv (q :: r)) (keyV k) = valV (tkv r) (keyV k) := valV_neg (show ¬ keyV q.1 = keyV k from fun z => e (keyV_inj z))
      rw [e2, ih]
      exact decide_eq_decide.mpr ⟨fun h => List.mem_cons_of_mem _ h, fun h => (List.mem_cons.mp h).elim (fun z => absurd z.symm e) id⟩
theorem tkv_put {zs : ZA} {k : Str × Int} {p : Addr} {os : Outs} (h : k ∉ zs.map (·.1)) : putK (tkv zs) (keyV k) (.ref p) = tkv (zs ++ [(k, p, os)]) := by
  have e := tkv_some (zs := zs) (k := k)
  rw [decide_eq_false h] at e
  have e2 : valV (tkv zs) (keyV k) = none := by
    cases q : valV (tkv zs) (keyV k) with
    | none => rfl
    | some v =>
      rw [q] at e
      cases e
  rw [putK_new _ e2]
  unfold tkv
  rw [List.map_append]
  rfl
theorem tkv_get : ∀ {zs : ZA} {z : (Str × Int) × Addr × Outs}, (zs.map (·.1)).Nodup → z ∈ zs → valV (tkv zs) (keyV z.1) = some (.ref z.2.1)
  | q :: r, z, nd, h => by
    rw [List.map_cons, List.nodup_cons] at nd
    rcases List.mem_cons.mp h with e | e
    · subst e
      exact valV_pos rfl
    · have ne : q.1 ≠ z.1 := fun c => nd.1 (by rw [c]; exact List.mem_map_of_mem (f := (·.1)) e)
      exact (valV_neg (show ¬ keyV q.1 = keyV z.1 from fun c => ne (keyV_inj c))).trans (tkv_get nd.2 e)
theorem wOf_nodup {z : Str} {m : Nat} : (wOf z m).Nodup := by
  unfold wOf
  split
  · exact List.Pairwise.map Int.ofNat (fun a b h e => h (Int.ofNat.inj e)) List.nodup_range
  · split
    · exact List.nodup_cons.mpr ⟨List.not_mem_nil, List.nodup_nil⟩
    · exact List.nodup_nil
theorem wOf_len {z : Str} {m : Nat} (h : m ≤ 4) : (wOf z m).length ≤ 4 := by
  unfold wOf
  split
  · rw [List.length_map, List.length_range]
    exact h
  · split <;> simp
theorem stR_stop {m n : Nat} {rows : List Str} {at_ : Nat} {acc : StA} (h : wordsAt rows at_ 1 = []) : stR m n (rows.drop at_) at_ acc = .ok (at_, acc) := by
  unfold wordsAt at h
  cases q : rows[at_]? with
  | none =>
    rw [List.drop_eq_nil_of_le (List.getElem?_eq_none_iff.mp q)]
    rfl
  | some z =>
    rw [q] at h
    have h : rowWords z 1 = [] := h
    rw [drop_cons q]
    exact if_pos h
theorem stR_step {m n : Nat} {rows : List Str} {at_ : Nat} {acc : StA} (h : wordsAt rows at_ 1 ≠ []) : at_ < rows.length ∧ stR m n (rows.drop at_) at_ acc = match rowSt m n (wordsAt rows at_ 1) acc with
    | none => .error at_
    | some acc' => stR m n (rows.drop (at_ + 1)) (at_ + 1) acc' := by
  unfold wordsAt at h ⊢
  cases q : rows[at_]? with
  | none =>
    rw [q] at h
    exact absurd rfl h
  | some z =>
    rw [q] at h
    have h : rowWords z 1 ≠ [] := h
    refine ⟨(List.getElem?_eq_some_iff.mp q).1, ?_⟩
    rw [drop_cons q]
    exact if_neg h
theorem OutsAt.mono {H H' : Hp} {p : Addr} {os : Outs} (k : ∀ b xs, H b = some (.tup xs) → H' b = some (.tup xs)) (h : OutsAt H p os) : OutsAt H' p os := by
  obtain ⟨ks, ts, bs, h1, h2, h3, h4, h5, h6⟩ := h
  exact ⟨ks, ts, bs, k _ _ h1, h2, h3, h4, h5, Paired.mapP h6 fun t q e => k _ _ e⟩
theorem join_cons_len (y x : Str) (r : List Str) : (Str.join y r).length ≤ (Str.join y (x :: r)).length := by
  cases r with
  | nil => exact Nat.zero_le _
  | cons z r =>
    have e0 : (Str.join y (x :: z :: r)).length = x.length + y.length + (Str.join y (z :: r)).length := by
      show (x.cps ++ y.cps ++ (Str.join y (z :: r)).cps).size = _
      rw [Array.size_append, Array.size_append]
      rfl
    omega
theorem join_drop_len (y : Str) : ∀ (k : Nat) (ps : List Str), (Str.join y (ps.drop k)).length ≤ (Str.join y ps).length
  | 0, ps => Nat.le_refl _
  | k + 1, [] => Nat.le_refl _
  | k + 1, x :: r => Nat.le_trans (join_drop_len y k r) (join_cons_len y x r)
theorem sum_len (y : Str) : ∀ ps : List Str, (ps.map (·.length)).sum ≤ (Str.join y ps).length
  | [] => Nat.zero_le _
  | [x] => by
    show x.length + 0 ≤ x.length
    omega
  | x :: z :: r => by
    have e0 : (Str.join y (x :: z :: r)).length = x.length + y.length + (Str.join y (z :: r)).length := by
      show (x.cps ++ y.cps ++ (Str.join y (z :: r)).cps).size = _
      rw [Array.size_append, Array.size_append]
      rfl
    have ih := sum_len y (z :: r)
    rw [List.map_cons, List.sum_cons]
    omega
theorem words_join {rows : List Str} {n dp : Nat} (sz : Sz rows) : (Str.join " " (wordsAt rows n dp)).length ≤ 14000 := by
  unfold wordsAt
  cases e : rows[n]? with
  | none => exact Nat.zero_le _
  | some row =>
    have hr : row ∈ rows := List.mem_of_getElem? e
    have h1 : (Str.join " " (restWords row dp)).length ≤ 14000 := by
      unfold restWords
      rw [StrLaws.join_split]
      exact Nat.le_trans (cutS_length row (some ((margin dp).length : Int)) none) (sz.row _ hr)
    show (Str.join " " (rowWords row dp)).length ≤ 14000
    unfold rowWords cleanWords
    split
    · split
      · exact Nat.zero_le _
      · exact h1
    · exact Nat.zero_le _
theorem rowSt_len {m n : Nat} {ws : List Str} {acc : StA} (h : ¬ 3 < ws.length) : rowSt m n ws acc = none := by
  match ws, h with
  | [], _ => rfl
  | [_], _ => rfl
  | [_, _], _ => rfl
  | [_, _, _], _ => rfl
  | _ :: _ :: _ :: _ :: _, h => exact absurd (by simp) h
theorem four_of {ws : List Str} (h : 3 < ws.length) : ∃ a b c d r, ws = a :: b :: c :: d :: r := by
  match ws, h with
  | a :: b :: c :: d :: r, _ => exact ⟨a, b, c, d, r, rfl⟩
theorem pickZ {zs : ZA} : ∀ {ks : List (Str × Int)}, (∀ k ∈ ks, k ∈ zs.map (·.1)) → ∃ ys : ZA, ys.map (·.1) = ks ∧ ∀ z ∈ ys, z ∈ zs
  | [], _ => ⟨[], rfl, fun q h => nomatch h⟩
  | k :: r, h => by
    obtain ⟨z, hz, e⟩ := List.mem_map.mp (h k (List.mem_cons_self ..))
    obtain ⟨ys, e1, e2⟩ := pickZ (ks := r) fun a ha => h a (List.mem_cons_of_mem _ ha)
    refine ⟨z :: ys, by rw [List.map_cons, e1, e], fun q hq => ?_⟩
    rcases List.mem_cons.mp hq with c | c
    · rw [c]
      exact hz
    · exact e2 q c
theorem paired_map2 {α β γ δ : Type} {R : α → β → Prop} {S : α → γ → Prop} {f : δ → β} {g : δ → γ} (h : ∀ a z, R a (f z) → S a (g z)) : ∀ {l : List α} {m : List δ}, Paired R l (m.map f) → Paired S l (m.map g)
  | _, [], .nil => .nil
  | _, c :: r, .cons a t => .cons (h _ _ a) (paired_map2 h t)
theorem cut_from3 (a b c e : Str) (r : List Str) : cutV ((a :: b :: c :: e :: r).map V.str) (some 3) none = (e :: r).map V.str := by
  have h : 3 ≤ ((a :: b :: c :: e :: r).map V.str).length := by
    rw [List.length_map]
    show 3 ≤ r.length + 1 + 1 + 1 + 1
    omega
  unfold cutV
  rw [show HT.sIx ((a :: b :: c :: e :: r).map V.str).length 0 (some 3) = min 3 ((a :: b :: c :: e :: r).map V.str).length from HT.sIx_nat _ _ 3, HT.sIx_none, Nat.min_eq_left h, List.take_of_length_le]
  · rfl
  · rw [List.length_drop]
    exact Nat.le_refl _
end K5
namespace K5
open PySem PySem.Spec PyProof.Rows L2
structure DfT (K : PySem.W.Frag) (mg : Str → Option Value) (x : Str) (st : Stmt) (f : Addr) (fd : FuncData) (c : Addr) (ps : List Str) : Prop where
  F : FunT K x x st f fd c
  g : mg x = some (.ref f)
  b : Binds K fd ps []
structure EnS (P : Program) (w : World) (K : PySem.W.Frag) (mg : Str → Option Value) (base : Heap) (CL CT P1 P2 fWords fStep fNeed fDoor fWo fOu cOu : Addr) (dWords dStep dNeed dDoor dWo dOu : FuncData) : Prop where
  B : Bt mg
  ms : mg "sorted" = none
  L : ClL K CL
  Mw : Mf K CL "words" "Lines.words" s_Lines_words fWords dWords ["self", "depth"]
  Gw : FnOk P w K mg base CX0 1 fWords dWords ["self", "depth"] (spWords CL)
  Ms : Mf K CL "step" "Lines.step" s_Lines_step fStep dStep ["self"]
  Gs : FnOk P w K mg base CX0 1 fStep dStep ["self"] (spStep CL)
  Mn : Mf K CL "need" "Lines.need" s_Lines_need fNeed dNeed ["self", "right"]
  Gn : FnOk P w K mg base (L2.CX P w) 4 fNeed dNeed ["self", "right"] (spNeed K CL CT)
  Dd : Df K mg "is_door" s_is_door fDoor dDoor ["value"]
  Gd : FnOk P w K mg base CX0 2 fDoor dDoor ["value"] spIsDoor
  Do : Df K mg "worths_of" s_worths_of fWo dWo ["word", "worths"]
  Go : FnOk P w K mg base CX0 2 fWo dWo ["word", "worths"] (spList wOf)
  Du : DfT K mg "read_outcomes" s_read_outcomes fOu dOu cOu ["lines", "text", "worths", "many"]
  Gu : FnOk P w K mg base (L2.CX P w) 6 fOu dOu ["lines", "text", "worths", "many"] (spOuts CL CT P2)
/-- ahead of each turn -/
structure RS (CL P1 P2 : Addr) (H0 : Hp) (l dx r d : Addr) (rows : List Str) (m n : Nat) (R : Except Nat (Nat × StA)) (f : Nat) (σ : L2.St) (H : Hp) (at_ : Nat) (wp : Addr) (zs : ZA) : Prop where
  st : ∃ t5 t6 t7 : Option V, σ = [some (.ref l), some (.int m), some .non, some (.int n), some (.ref wp), t5, t6, t7, some (.ref d)]
  fn : f + at_ = rows.length
  li : LinesAt CL H l dx r rows at_
  wp : H wp = some (.lst ((wordsAt rows at_ 1).map V.str))
  hd : H d = some (.dT (tkv zs))
  but : But [l, P1, P2] H0 H
  tab : Tabs P1 P2 H
  ok : ∀ z ∈ zs, OutsAt H z.2.1 z.2.2
  nd : (zs.map (·.1)).Nodup
  ln : zs.length ≤ 4 * at_
  sp : stR m n (rows.drop at_) at_ (zacc zs) = R
section
variable {P : Program} {w : World} {K : PySem.W.Frag} {mg : Str → Option Value} {base : Heap} {CL CT P1 P2 fWords fStep fNeed fDoor fWo fOu cOu : Addr} {dWords dStep dNeed dDoor dWo dOu : FuncData}
theorem ok_read_state {f c : Addr} {fd : FuncData} (N : EnS P w K mg base CL CT P1 P2 fWords fStep fNeed fDoor fWo fOu cOu dWords dStep dNeed dDoor dWo dOu) (F : FunT K "read_state" "read_state" s_read_state f fd c) (TB : GxR.TabB base mg c P1) :
    FnOk P w K mg base (L2.CX P w) 7 f fd ["lines", "worths", "doors", "many"] (spState CL CT P1 P2) := by
  refine F.okC sc_read_state (fun vs H Q E h => ?_) (fun A outer s H vs Q E hr h => ?_)
  · obtain ⟨l, dx, r, rows, at_, m, n, rfl, _⟩ := h
    rfl
  · obtain ⟨l, dx, r, rows, at_, m, n, rfl, hl, sz, m4, tab, pne, k⟩ := h
    have S := sc_read_state
    refine ⟨_, (pss_cons (ps_set (i := 8) S.nd rfl (.inr rfl) pe_dnewT)
      (pss_cons (ps_set (i := 4) S.nd rfl (.inr rfl) (pe_meth (pv 0) N.L.cl N.Mw.m N.Gw (hr.mono (by decide)) N.Mw.b .nil pass0 (pa_cons pe_int pa_nil)))
      (pss_cons (ps_while (passes_of rfl) (pt_truth (pv 4) (by intro _; rfl))
        (pss_cons (ps_expr (pe_meth (pv 0) N.L.cl N.Mn.m N.Gn (hr.mono (by decide)) N.Mn.b .nil (pxp rfl rfl rfl rfl) (pa_cons (pe_and (pe_cmpR op_gt (pe_callB call_len_seq (by rfl) N.B.m_len PySem.boot_len (pa_cons (pv 4) pa_nil)) pe_int (nomark _)) (pe_and (pe_cmpR op_eq (pe_ix ix_list (pv 4) pe_int (fun _ _ => rfl)) pe_str (nomark _)) (pe_one (pe_call N.Gd (hr.mono (by decide)) (by rfl) N.Dd.g N.Dd.F.kp N.Dd.b .nil pass0 (pa_cons (pe_ix ix_list (pv 4) pe_int (fun _ _ => rfl)) pa_nil))))) pa_nil)))
        (pss_cons (ps_expr (pe_meth (pv 0) N.L.cl N.Mn.m N.Gn (hr.mono (by decide)) N.Mn.b .nil (pxp rfl rfl rfl rfl) (pa_cons (pe_or (pe_cmpR op_isN1 (pv 2) pe_non (nomark _)) (pe_one (pe_cmpR op_in_seq (pe_ix ix_list (pv 4) pe_int (fun _ _ => rfl)) (pv 2) (by rfl)))) pa_nil)))
        (pss_cons (ps_set (i := 5) S.nd rfl (.inl rfl) (pe_call N.Go (hr.mono (by decide)) (by rfl) N.Do.g N.Do.F.kp N.Do.b .nil pass0 (pa_cons (pe_ix ix_list (pv 4) pe_int (fun _ _ => rfl)) (pa_cons (pv 1) pa_nil))))
        (pss_cons (ps_expr (pe_meth (pv 0) N.L.cl N.Mn.m N.Gn (hr.mono (by decide)) N.Mn.b .nil (pxp rfl rfl rfl rfl) (pa_cons (pe_andT (pv 5) (pe_one (pe_notT (pe_lc (own := [("worth", 6)]) (g := gName 6) rfl S.nd (pi_list (pv 5)) (blkOk_by (own := [("worth", 6)]) (N := ["lines", "worths", "doors", "many", "words", "called_with", "worth", "outcomes", "rows"]) (sc := defScope s_read_state) (by decide +kernel)) (fun _ _ _ _ _ => pg_name (i := 6) S.nd rfl (Or.inl rfl)) (fun _ _ _ _ _ => pts_one (pt_cmp (pc_din (hu_of hr) (pe_tup (pa_cons (pe_ix (r := rIxL K) ix_list (pv 4) pe_int (fun _ _ => rfl)) (pa_cons (pv 6) pa_nil))) (pv 8)))) (fun _ _ _ _ _ => pv 6))))) pa_nil)))
        (pss_cons (ps_set (i := 7) S.nd rfl (.inl rfl) (pe_call N.Gu (hr.mono (by decide)) (by rfl) N.Du.g N.Du.F.kp N.Du.b .nil (pxp rfl rfl rfl rfl) (pa_cons (pv 0) (pa_cons (pe_bm PySem.F.plainAttrs_str PySem.F.slot_str_join PySem.F.type_str_join mt_join pe_str (pa_cons (pe_slice sl_list (pv 4) (po_some pe_int) po_none) pa_nil)) (pa_cons (pv 1) (pa_cons (pv 3) pa_nil))))))
        (pss_cons (ps_for (passes_of rfl) rfl (pi_list (pv 5)) (pg_name (i := 6) S.nd rfl (.inl rfl))
          (pss_one (ps_dput (hu_of hr) (pv 8) (pe_tup (pa_cons (pe_ix ix_list (pv 4) pe_int (fun _ _ => rfl)) (pa_cons (pv 6) pa_nil))) (pv 7) rfl)))
        (pss_cons (ps_expr (pe_meth0 (pv 0) N.L.cl N.Ms.m N.Gs (hr.mono (by decide)) N.Ms.b .nil pass0))
        (pss_one (ps_set (i := 4) S.nd rfl (.inr rfl) (pe_meth (pv 0) N.L.cl N.Mw.m N.Gw (hr.mono (by decide)) N.Mw.b .nil pass0 (pa_cons pe_int pa_nil))))))))))))
      (pss_one (ps_ret (GL.pe_tupNew (Pr := GL.PrT 8) hr TB rfl rfl rfl (by decide +kernel) rfl free_state (pe_callB (call_sortedDT rfl hr.units) (by rfl) N.ms (by decide +kernel) (pa_cons (pv 8) pa_nil))
        (fun pins σ us rows H1 h t => GL.prov_pair (i := 8) rfl rfl rfl (by decide +kernel) (by decide +kernel) rfl free_state rfl (by decide +kernel) (by decide +kernel) (by decide +kernel) (by decide +kernel) h t) rfl (by rfl) N.B.m_tuple)))))), ?_⟩
    have lt4 : ∀ H' : Hp, Same H H' → Tabs P1 P2 H' := fun H' e => tab.same e
    dsimp only [tSeq, tAsg]
    intro d nd
    have H1d : (upd H d (.dT [])) d = some (.dT []) := upd_same
    have s1 : Same H (upd H d (.dT [])) := same_upd nd
    generalize (upd H d (.dT [])) = H1 at H1d s1 ⊢
    dsimp only [gName]
    have li1 := hl.mono s1
    have hle := hl.le
    refine meth_run (val_var rfl) li1.o (lf_no (by decide +kernel) (by decide +kernel)) ?_
    refine val_c _ ⟨l, dx, r, rows, at_, 1, rfl, li1, sz, by decide, fun H2 wp s2 nw hwp => ?_⟩
    have s02 := s1.trans s2
    have H2d := s2 _ _ H1d
    dsimp only [tNext]
    refine ⟨fun f σ' H' => ∃ at' wp zs, RS CL P1 P2 H l dx r d rows m n (stR m n (rows.drop at_) at_ []) f σ' H' at' wp zs, ⟨rows.length - at_, at_, wp, [], ⟨_, _, _, rfl⟩, by omega, hl.mono s02, hwp, H2d, But.of_same s02, tab.same s02, fun z h => (nomatch h), List.nodup_nil, Nat.zero_le _, rfl⟩, fun f σ' H' h => ?_⟩
    clear H2d hwp s02 nw s2 li1 H1d s1
    clear H2 wp H1
    obtain ⟨at', wp, zs, ⟨t5, t6, t7, rfl⟩, fn, li, hwp, hd, but, tb, oks, ndz, ln, sp⟩ := h
    refine (val_var rfl) _ ⟨_, truL (SqL.of hwp), ?_⟩
    by_cases ew : wordsAt rows at' 1 = []
    · rw [ew]
      refine iteF ?_
      rw [stR_stop ew] at sp
      rw [← sp] at k
      have k : ∀ (H' : Hp) (p : Addr), But [l, P1, P2] H H' → Tabs P1 P2 H' → LinesAt CL H' l dx r rows at' → StAt H' p (zacc zs) → Q (.ref p) H' := k
      dsimp only [tRet, GL.tTupNew]
      refine (val_var rfl) _ ⟨d, tkv zs, zs.map (·.1), rfl, hd, by unfold tkv; rw [List.map_map, List.map_map]; rfl, fun ts p pts np => ?_⟩
      obtain ⟨ys, y1, y2⟩ := pickZ (zs := zs) (ks := sortK (zs.map (·.1))) fun k hk => by unfold sortK at hk; exact List.mem_mergeSort.mp hk
      have s6 := same_upd (o := .lst (ts.map V.ref)) np
      have hp6 : (upd H' p (.lst (ts.map V.ref))) p = some (.lst (ts.map V.ref)) := upd_same
      generalize (upd H' p (.lst (ts.map V.ref))) = H6 at s6 hp6 ⊢
      have l1 : ts.length = ys.length := by
        have e1 : ts.length = _ := Paired.length pts
        have e2 := congrArg List.length y1
        rw [List.length_map] at e2
        omega
      have l2 : ys.length = zs.length := by
        have e2 := congrArg List.length y1
        unfold sortK at e2
        rw [List.length_map, List.length_mergeSort, List.length_map] at e2
        exact e2
      have few : zs.length ≤ 56004 := by
        have := li.le
        have := sz.len
        omega
      refine ⟨p, ts.map V.ref, ys.map fun z => [V.str z.1.1, V.int z.1.2, V.ref z.2.1], rfl, hp6, by rw [List.length_map]; omega, tab_same tb.a s6, ⟨d, tkv zs, ts, ys.map fun z => (Sum.inr z.1.1, Sum.inl z.1.2), rfl, s6 _ _ hd, rfl, ?_, fun j kk e => ?_⟩, by rw [List.length_map, List.length_map, l1], fun r hr => ?_, fun H7 H8 p3 ts3 tb7 sm8 prs hp3 => ?_⟩
      · rw [← y1] at pts
        exact paired_map2 (f := fun z : (Str × Int) × Addr × Outs => z.1) (g := fun z : (Str × Int) × Addr × Outs => ((Sum.inr z.1.1, Sum.inl z.1.2) : Key × Key)) (R := fun (t : Addr) (k : Str × Int) => H' t = some (.tup [.str k.1, .int k.2])) (S := fun (t : Addr) (k : Key × Key) => H6 t = some (.tup [kV k.1, kV k.2])) (fun t z e => s6 _ _ e) pts
      · rw [List.getElem?_map] at e ⊢
        cases q : ys[j]? with
        | none => rw [q] at e; cases e
        | some z =>
          rw [q] at e
          obtain rfl : ((Sum.inr z.1.1, Sum.inl z.1.2) : Key × Key) = kk := Option.some.inj e
          exact ⟨.ref z.2.1, tkv_get ndz (y2 z (List.mem_of_getElem? q)), rfl⟩
      · obtain ⟨q, _, rfl⟩ := List.mem_map.mp hr
        exact (by decide : 3 ≤ 10)
      · have b7 : But [P1] H' H8 := fun b o n e => sm8 b o (by rw [tb7.2 b (fun c => n (by rw [c]; exact List.mem_singleton.mpr rfl))]; exact s6 b o e)
        have p2n : P2 ∉ [P1] := fun c => pne (List.mem_singleton.mp c).symm
        have tup : ∀ b xs, H' b = some (.tup xs) → H8 b = some (.tup xs) := fun b xs e => b7 b _ (fun c => by
          obtain ⟨ps, h1, _⟩ := tb.a
          rw [List.mem_singleton.mp c, h1] at e
          cases e) e
        have lne : l ∉ [P1] := fun c => by
          obtain ⟨ps, h1, _⟩ := tb.a
          rw [← List.mem_singleton.mp c, li.o] at h1
          cases h1
        have rne : r ∉ [P1] := fun c => by
          obtain ⟨ps, h1, _⟩ := tb.a
          rw [← List.mem_singleton.mp c, li.r] at h1
          cases h1
        refine k H8 p3 (but.trans (b7.mono fun b hb => by rw [List.mem_singleton.mp hb]; simp)) ⟨tab_same tb7.1 sm8, let ⟨ps, h1, h2⟩ := tb.b; ⟨ps, b7 _ _ p2n h1, h2⟩⟩ ⟨b7 _ _ lne li.o, b7 _ _ rne li.r, li.le⟩ ⟨ts3, ys.map fun z => (z.1, z.2.1), hp3, by rw [List.map_map, zacc_keys, ← y1]; rfl, fun b hb => ?_, ?_⟩
        · obtain ⟨z, hz, rfl⟩ := List.mem_map.mp hb
          exact ⟨z.2.2, List.mem_map_of_mem (f := fun z : (Str × Int) × Addr × Outs => (z.1, z.2.2)) (y2 z hz), (oks z (y2 z hz)).mono tup⟩
        · exact paired_map2 (f := fun z : (Str × Int) × Addr × Outs => [V.str z.1.1, V.int z.1.2, V.ref z.2.1]) (g := fun z : (Str × Int) × Addr × Outs => (z.1, z.2.1)) (R := fun (t : Addr) (r : List V) => H8 t = some (.tup r)) (S := fun (t : Addr) (b : (Str × Int) × Addr) => H8 t = some (.tup [.str b.1.1, .int b.1.2, .ref b.2])) (fun t z e => e) prs
    · obtain ⟨hat, step⟩ := stR_step (m := m) (n := n) (acc := zacc zs) ew
      rw [step] at sp
      have ne : (!((wordsAt rows at' 1).map V.str).isEmpty) = true := by
        cases q : wordsAt rows at' 1 with
        | nil => exact absurd q ew
        | cons _ _ => rfl
      rw [ne]
      cases f with
      | zero => omega
      | succ f =>
      refine iteT ⟨fun σ' H' => ∃ at' wp zs, RS CL P1 P2 H l dx r d rows m n (stR m n (rows.drop at_) at_ []) f σ' H' at' wp zs, fun σ' H' h => ⟨f, Nat.lt_succ_self f, h⟩, ?_⟩
      have wz := words_ok (n := at') (dp := 1) sz
      have wj := words_join (n := at') (dp := 1) sz
      have wm := words_many (n := at') (dp := 1) sz
      have bad : rowSt m n (wordsAt rows at' 1) (zacc zs) = none → ∀ H', But [l, P1, P2] H H' → Tabs P1 P2 H' → ErrK CT (.int (at' : Nat)) H' E := fun e H' b t => by
        rw [e] at sp
        have sp : Except.error at' = stR m n (rows.drop at_) at_ [] := sp
        rw [← sp] at k
        exact ErrT.of k b t
      generalize wordsAt rows at' 1 = ws at hwp ew wz wj wm bad sp ne
      have hS : SqL K H' wp (ws.map V.str) := SqL.of hwp
      dsimp only [tSeq, tDrop]
      refine meth_run (val_var rfl) li.o (lf_no (by decide +kernel) (by decide +kernel)) ?_
      dsimp only [tCons, tNil, tAndV]
      refine (val_op (val_lenL (val_var rfl) hS) val_c fun Q q => ⟨_, _, rfl, rfl, q⟩) _ ⟨_, rfl, ?_⟩
      by_cases c3 : 3 < ws.length
      · obtain ⟨a, b, c, e, rest, rfl⟩ := four_of c3
        have e0 : decide ((3 : Int) < (((a :: b :: c :: e :: rest).map V.str).length : Int)) = true := decide_eq_true (by rw [List.length_map]; omega)
        rw [e0]
        refine iteT ?_
        have alen : a.length ≤ 10000000 := by
          have := (wz a (List.mem_cons_self ..)).2
          omega
        have blen : b.length ≤ 10000000 := by
          have := (wz b (List.mem_cons_of_mem _ (List.mem_cons_self ..))).2
          omega
        have zlen : (Txt.join " " (e :: rest)).length ≤ 14000 := by
          rw [TL.join_eq]
          exact Nat.le_trans (join_drop_len " " 3 (a :: b :: c :: e :: rest)) wj
        have zsum : ((e :: rest).map (·.length)).sum + (e :: rest).length * (" " : Str).length ≤ 16777216 := by
          have h1 := sum_len " " (e :: rest)
          have h2 : (Str.join " " (e :: rest)).length ≤ 14000 := by
            rw [← TL.join_eq]
            exact zlen
          have h3 : (e :: rest).length ≤ 14001 := by
            have e3 : (a :: b :: c :: e :: rest).length = (e :: rest).length + 3 := rfl
            omega
          rw [show (" " : Str).length = 1 by decide +kernel]
          omega
        have hrow : rowSt m n (a :: b :: c :: e :: rest) (zacc zs) = if c = "->" ∧ isDoor a = true ∧ wOf b m ≠ [] ∧ ∀ w ∈ wOf b m, (a, w) ∉ (zacc zs).map (·.1) then (outsOf m n (Txt.split (Txt.join " " (e :: rest)) ", ") []).map fun os => zacc zs ++ (wOf b m).map fun w => ((a, w), os) else none := rfl
        rw [zacc_keys] at hrow
        rw [hrow] at bad sp
        refine (val_op (val_ixL (val_var rfl) val_c hS (atI_nat (j := 2) rfl)) val_c fun Q q => ⟨rfl, q⟩) _ ⟨_, rfl, ?_⟩
        by_cases cc : c = "->"
        · rw [decide_eq_true (by rw [cc])]
          refine iteT ?_
          refine (val_call (v := .bl (isDoor a)) (va_cons (val_ixL (val_var rfl) val_c hS (atI_nat (j := 0) rfl)) va_nil) fun Q q => ⟨a, rfl, alen, q⟩) _ ?_
          refine ⟨l, dx, r, rows, at', _, _, rfl, li, rfl, fun ed => ?_, fun ed => bad (if_neg fun h => by rw [h.2.1] at ed; cases ed) _ but tb⟩
          dsimp only [tNext, tSeq, tDrop]
          refine meth_run (val_var rfl) li.o (lf_no (by decide +kernel) (by decide +kernel)) ?_
          dsimp only [tCons, tNil, tOrV]
          refine (val_op (z := .bl true) (val_var rfl) val_c fun Q q => ⟨rfl, q⟩) _ ⟨true, rfl, iteT ?_⟩
          refine ⟨l, dx, r, rows, at', _, true, rfl, li, rfl, fun _ => ?_, (fun e => nomatch e)⟩
          dsimp only [tNext, tSeq, tAsg]
          dsimp only [tCall, tCons, tNil]
          refine (val_ixL (val_var rfl) val_c hS (atI_nat (j := 1) rfl)) _ ((val_var rfl) _ ⟨b, m, rfl, m4, blen, fun H4 pc s4 npc hpc => ?_⟩)
          have hwp4 := s4 _ _ hwp
          have hd4 := s4 _ _ hd
          have li4 := li.mono s4
          have but4 := but.trans (But.of_same s4)
          have tb4 := tb.same s4
          have ok4 : ∀ z ∈ zs, OutsAt H4 z.2.1 z.2.2 := fun z hz => (oks z hz).mono fun b xs e => s4 _ _ e
          clear hS hwp hd li but tb oks s4
          dsimp only [gName, tDrop]
          refine meth_run (val_var rfl) li4.o (lf_no (by decide +kernel) (by decide +kernel)) ?_
          dsimp only [tCons, tNil, tAndT]
          refine (val_var rfl) _ ⟨_, truL (SqL.of hpc), ?_⟩
          by_cases ea : wOf b m = []
          · rw [ea] at hpc
            rw [ea]
            refine iteF ?_
            exact ⟨l, dx, r, rows, at', _, false, rfl, li4, truL (SqL.of hpc), (fun e => nomatch e), fun _ => bad (if_neg fun h => h.2.2.1 ea) _ but4 tb4⟩
          · have nw : (!((wOf b m).map V.int).isEmpty) = true := by
              cases q : wOf b m with
              | nil => exact absurd q ea
              | cons _ _ => rfl
            rw [nw]
            refine iteT ?_
            dsimp only [tNotT, tLc, iList]
            refine (val_var rfl) _ ⟨pc, rfl, ⟨_, SqL.of hpc⟩, fun D nD => lc_list (K := K) (a := pc) (xs := (wOf b m).map V.int) (fun i H' => Same H4 H' ∧ ∃ xs, H' D = some (.lst xs) ∧ xs.length ≤ i ∧ (xs = [] ↔ ∀ w ∈ (wOf b m).take i, (a, w) ∉ zs.map (·.1))) ?_ ?_ ?_ ?_⟩
            · exact ⟨same_upd nD, [], upd_same, Nat.zero_le _, ⟨fun _ w hw => (nomatch hw), fun _ => rfl⟩⟩
            · rintro i H5 _ ⟨s5, _⟩
              exact SqL.of (s5 _ _ hpc)
            · rintro i x H5 ex ⟨s5, xs, hD, lx, iff⟩
              obtain ⟨w, ej, rfl⟩ : ∃ w, (wOf b m)[i]? = some w ∧ x = .int w := by
                rw [List.getElem?_map] at ex
                cases q : (wOf b m)[i]? with
                | none => rw [q] at ex; cases ex
                | some w => rw [q] at ex; exact ⟨w, rfl, (Option.some.inj ex).symm⟩
              have tk : (wOf b m).take (i + 1) = (wOf b m).take i ++ [w] := by
                rw [List.take_succ, ej]
                rfl
              have ilt : i < 14000 := by
                have := wOf_len (z := b) m4
                have := (List.getElem?_eq_some_iff.mp ej).1
                omega
              dsimp only [gName]
              refine ⟨rfl, ?_⟩
              dsimp only [tB, tDIn, tTup, tCons, tNil]
              refine (val_ixL (val_var rfl) val_c (SqL.of (s5 _ _ hwp4)) (atI_nat (j := 0) rfl)) _ ((val_var rfl) _ ⟨by show 2 ≤ sizeLine; decide, fun q nq => ?_⟩)
              have s6 := same_upd (o := .tup [.str a, .int w]) nq
              have hq : (upd H5 q (.tup [.str a, .int w])) q = some (.tup [.str a, .int w]) := upd_same
              generalize (upd H5 q (.tup [.str a, .int w])) = H6 at s6 hq ⊢
              have s46 := s5.trans s6
              refine (val_var rfl) _ ⟨d, _, rfl, DGet.t (k := keyV (a, w)) (s46 _ _ hd4) hq, ⟨_, rfl, ?_⟩⟩
              rw [tkv_some]
              by_cases mem : (a, w) ∈ zs.map (·.1)
              · rw [decide_eq_true mem]
                refine iteT ?_
                refine (val_var rfl) _ ⟨xs, s6 _ _ hD, Nat.lt_of_le_of_lt lx (Nat.lt_of_lt_of_le ilt (by decide)), fun b o e => ?_, xs ++ [.int w], upd_same, by rw [List.length_append]; exact Nat.succ_le_succ lx, ⟨fun h => absurd h (by simp), fun h => ?_⟩⟩
                · rw [upd_ne (ne_of_none e nD)]
                  exact s46 b o e
                · exact absurd mem (h w (by rw [tk]; exact List.mem_append_right _ (List.mem_singleton.mpr rfl)))
              · rw [decide_eq_false mem]
                refine iteF ⟨s46, xs, s6 _ _ hD, Nat.le_succ_of_le lx, iff.trans ⟨fun h w' hw' => ?_, fun h w' hw' => h w' (by rw [tk]; exact List.mem_append_left _ hw')⟩⟩
                rw [tk] at hw'
                rcases List.mem_append.mp hw' with hw' | hw'
                · exact h w' hw'
                · rw [List.mem_singleton.mp hw']
                  exact mem
            · rintro H5 ⟨s5, xs, hD, lx, iff⟩
              rw [List.length_map, List.take_length] at iff
              refine ⟨_, truL (SqL.of hD), ?_⟩
              have li5 := li4.mono s5
              refine ⟨l, dx, r, rows, at', _, _, rfl, li5, rfl, fun ex => ?_, fun ex => bad (if_neg fun h => ?_) _ (but4.trans (But.of_same s5)) (tb4.same s5)⟩
              · have x0 : xs = [] := by
                  cases xs with
                  | nil => rfl
                  | cons _ _ => cases ex
                have new := iff.mp x0
                have oks : c = "->" ∧ isDoor a = true ∧ wOf b m ≠ [] ∧ ∀ w ∈ wOf b m, (a, w) ∉ zs.map (·.1) := ⟨cc, ed, ea, new⟩
                rw [if_pos oks] at bad sp
                have hwp5 := s5 _ _ hwp4
                have hd5 := s5 _ _ hd4
                have hpc5 := s5 _ _ hpc
                have but5 := but4.trans (But.of_same s5)
                have tb5 := tb4.same s5
                have ok5 : ∀ z ∈ zs, OutsAt H5 z.2.1 z.2.2 := fun z hz => (ok4 z hz).mono fun b xs e => s5 _ _ e
                clear hwp4 hd4 hpc but4 tb4 ok4 li4 s5 iff x0 hD lx nD
                dsimp only [tNext, tSeq, tAsg]
                dsimp only [tCall, tCons, tNil]
                refine (val_var rfl) _ ?_
                refine bm_run (x := .str " ") val_c rfl ?_
                dsimp only [tSl, tPart, tNoPart, tCons, tNil]
                refine (val_var rfl) _ (val_c _ ⟨3, rfl, wp, _, rfl, SqL.of hwp5, fun q nq => ?_⟩)
                have ecut : cutV ((a :: b :: c :: e :: rest).map V.str) (some 3) none = (e :: rest).map V.str := cut_from3 a b c e rest
                rw [ecut]
                have s6 := same_upd (o := .lst ((e :: rest).map V.str)) nq
                have hq : (upd H5 q (.lst ((e :: rest).map V.str))) q = some (.lst ((e :: rest).map V.str)) := upd_same
                generalize (upd H5 q (.lst ((e :: rest).map V.str))) = H6 at s6 hq ⊢
                refine ⟨" ", q, e :: rest, rfl, rfl, .inl (SqL.of hq), zsum, ?_⟩
                refine (val_var rfl) _ ((val_var rfl) _ ?_)
                refine ⟨l, dx, r, rows, at', Txt.join " " (e :: rest), m, n, rfl, li5.mono s6, m4, zlen, tab_same tb5.b s6, ?_⟩
                have li6 := li5.mono s6
                have hwp6 := s6 _ _ hwp5
                have hd6 := s6 _ _ hd5
                have hpc6 := s6 _ _ hpc5
                have but6 := but5.trans (But.of_same s6)
                have tb6 := tb5.same s6
                have ok6 : ∀ z ∈ zs, OutsAt H6 z.2.1 z.2.2 := fun z hz => (ok5 z hz).mono fun b xs e => s6 _ _ e
                clear hwp5 hd5 hpc5 but5 tb5 ok5 li5 s6 hq nq
                cases ho : outsOf m n (Txt.split (Txt.join " " (e :: rest)) ", ") [] with
                | none =>
                  exact bad (by rw [ho]; rfl) _ but6 tb6
                | some os =>
                  rw [ho] at sp
                  show ∀ (H' : Hp) (p : Addr), ButP P2 H6 H' → GxR.TabG H' P2 → OutsAt H' p os → _
                  intro H7 p7 b7 t7 oa
                  obtain ⟨ps2, hP2, _⟩ := tb6.b
                  have nP2 : ∀ b o, H6 b = some o → (∀ ps, o ≠ .tbl ps) → H7 b = some o := fun b o e no => b7 b o (fun c => by
                    rw [c, hP2] at e
                    exact no ps2 (Option.some.inj e).symm) e
                  have li7 : LinesAt CL H7 l dx r rows at' := ⟨nP2 _ _ li6.o fun _ c => (nomatch c), nP2 _ _ li6.r fun _ c => (nomatch c), li6.le⟩
                  have hwp7 := nP2 _ _ hwp6 fun _ c => (nomatch c)
                  have hd7 := nP2 _ _ hd6 fun _ c => (nomatch c)
                  have hpc7 := nP2 _ _ hpc6 fun _ c => (nomatch c)
                  have tb7 : Tabs P1 P2 H7 := ⟨let ⟨ps, h1, h2⟩ := tb6.a; ⟨ps, b7 _ _ pne h1, h2⟩, t7⟩
                  have but7 : But [l, P1, P2] H H7 := but6.trans fun b o n e => b7 b o (fun c => n (by rw [c]; simp)) e
                  have ok7 : ∀ z ∈ zs, OutsAt H7 z.2.1 z.2.2 := fun z hz => (ok6 z hz).mono fun b xs e => nP2 _ _ e fun _ c => (nomatch c)
                  clear nP2 hP2 li6 hwp6 hd6 hpc6 tb6 but6 ok6 b7 t7
                  have dl : d ≠ l := fun c => by
                    rw [c, hl.o] at nd
                    cases nd
                  have dP1 : P1 ≠ d := fun c => by
                    obtain ⟨ps, h1, _⟩ := tab.a
                    rw [c, nd] at h1
                    cases h1
                  have dP2 : P2 ≠ d := fun c => by
                    obtain ⟨ps, h1, _⟩ := tab.b
                    rw [c, nd] at h1
                    cases h1
                  dsimp only [gName, tNext, tSeq]
                  unfold tFor iList
                  refine (val_var rfl) _ ⟨pc, rfl, ⟨_, SqL.of hpc7⟩, for_list (K := K) (a := pc) (xs := (wOf b m).map V.int) (fun i σ' H' => ∃ t6 : Option V, σ' = [some (.ref l), some (.int m), some .non, some (.int n), some (.ref wp), some (.ref pc), t6, some (.ref p7), some (.ref d)] ∧ SameBut d H7 H' ∧
                    H' d = some (.dT (tkv (zs ++ ((wOf b m).take i).map fun w => ((a, w), p7, os))))) ?_ ?_ ?_ ?_⟩
                  · refine ⟨_, rfl, fun b o _ e => e, ?_⟩
                    rw [List.take_zero, List.map_nil, List.append_nil]
                    exact hd7
                  · rintro i σ' H8 _ ⟨_, _, sb, _⟩
                    exact SqL.of (sb _ _ (ne_of hpc7 hd7 fun c => nomatch c) hpc7)
                  · rintro i x σ' H8 ex ⟨t6, rfl, sb, hd8⟩
                    obtain ⟨w, ej, rfl⟩ : ∃ w, (wOf b m)[i]? = some w ∧ x = .int w := by
                      rw [List.getElem?_map] at ex
                      cases q : (wOf b m)[i]? with
                      | none => rw [q] at ex; cases ex
                      | some w => rw [q] at ex; exact ⟨w, rfl, (Option.some.inj ex).symm⟩
                    have tk : (wOf b m).take (i + 1) = (wOf b m).take i ++ [w] := by
                      rw [List.take_succ, ej]
                      rfl
                    dsimp only [gName, sDPut]
                    refine (val_var rfl) _ ((val_var rfl) _ ?_)
                    dsimp only [tTup, tCons, tNil]
                    refine (val_ixL (val_var rfl) val_c (SqL.of (sb _ _ (ne_of hwp7 hd7 fun c => nomatch c) hwp7)) (atI_nat (j := 0) rfl)) _ ((val_var rfl) _ ⟨by show 2 ≤ sizeLine; decide, fun q nq => ?_⟩)
                    have s9 := same_upd (o := .tup [.str a, .int w]) nq
                    have hq : (upd H8 q (.tup [.str a, .int w])) q = some (.tup [.str a, .int w]) := upd_same
                    generalize (upd H8 q (.tup [.str a, .int w])) = H9 at s9 hq ⊢
                    have nin : (a, w) ∉ (zs ++ ((wOf b m).take i).map fun w => ((a, w), p7, os)).map (·.1) := fun hm => by
                      rw [List.map_append, List.map_map] at hm
                      rcases List.mem_append.mp hm with hm | hm
                      · exact new w (List.mem_of_getElem? ej) hm
                      · obtain ⟨w', hw', e'⟩ := List.mem_map.mp hm
                        have e' : (a, w') = (a, w) := e'
                        injection e' with _ e'
                        subst e'
                        have nd2 := wOf_nodup (z := b) (m := m)
                        rw [← List.take_append_drop i (wOf b m), drop_cons ej, List.nodup_append] at nd2
                        exact nd2.2.2 w' hw' w' (List.mem_cons_self ..) rfl
                    have few : (tkv (zs ++ ((wOf b m).take i).map fun w => ((a, w), p7, os))).length < sizeLine := by
                      have h1 := wOf_len (z := b) m4
                      have h2 : ((wOf b m).take i).length ≤ (wOf b m).length := by
                        rw [List.length_take]
                        exact Nat.min_le_right ..
                      have h3 := sz.len
                      unfold tkv
                      rw [List.length_map, List.length_append, List.length_map]
                      exact Nat.lt_of_le_of_lt (show _ ≤ 60000 by omega) (by decide)
                    refine ⟨d, _, rfl, DPut.t (k := keyV (a, w)) (s9 _ _ hd8) hq few, ?_⟩
                    rw [tkv_put (os := os) nin]
                    refine ⟨_, rfl, fun b o n e => ?_, ?_⟩
                    · rw [upd_ne n]
                      exact s9 _ _ (sb b o n e)
                    · rw [upd_same, tk, List.map_append, List.append_assoc]
                      rfl
                  · rintro σ' H8 ⟨t6, rfl, sb, hd8⟩
                    rw [List.length_map, List.take_length] at hd8
                    have kp : ∀ b o, H7 b = some o → H d = none → b ≠ d → H8 b = some o := fun b o e _ n => sb b o n e
                    have li8 : LinesAt CL H8 l dx r rows at' := ⟨sb _ _ dl.symm li7.o, sb _ _ (ne_of li7.r hd7 fun c => nomatch c) li7.r, li7.le⟩
                    have but8 : But [l, P1, P2] H H8 := fun b o n e => sb b o (ne_of_none e nd) (but7 b o n e)
                    have tb8 : Tabs P1 P2 H8 := ⟨let ⟨ps, h1, h2⟩ := tb7.a; ⟨ps, sb _ _ dP1 h1, h2⟩, let ⟨ps, h1, h2⟩ := tb7.b; ⟨ps, sb _ _ dP2 h1, h2⟩⟩
                    have tup8 : ∀ b xs, H7 b = some (.tup xs) → H8 b = some (.tup xs) := fun b xs e => sb b _ (ne_of e hd7 fun c => nomatch c) e
                    have ok8 : ∀ z ∈ zs ++ (wOf b m).map (fun w => ((a, w), p7, os)), OutsAt H8 z.2.1 z.2.2 := fun z hz => by
                      rcases List.mem_append.mp hz with hz | hz
                      · exact (ok7 z hz).mono tup8
                      · obtain ⟨w, _, rfl⟩ := List.mem_map.mp hz
                        exact oa.mono tup8
                    clear kp sb hd7 ok7 but7 tb7 li7 hwp7 hpc7 tup8 oa
                    dsimp only [tSeq, tDrop]
                    refine meth0_run (val_var rfl) li8.o (lf_no (by decide +kernel) (by decide +kernel)) ?_
                    refine ⟨l, dx, r, rows, at', rfl, li8, hat, fun H9 sb9 li9 => ?_⟩
                    dsimp only [tAsg]
                    refine meth_run (val_var rfl) li9.o (lf_no (by decide +kernel) (by decide +kernel)) ?_
                    refine val_c _ ⟨l, dx, r, rows, at' + 1, 1, rfl, li9, sz, by decide, fun H10 wp2 s10 nw2 hwp10 => ?_⟩
                    have lP1 : P1 ≠ l := fun c => by
                      obtain ⟨ps, h1, _⟩ := tb8.a
                      rw [c, li8.o] at h1
                      cases h1
                    have lP2 : P2 ≠ l := fun c => by
                      obtain ⟨ps, h1, _⟩ := tb8.b
                      rw [c, li8.o] at h1
                      cases h1
                    have kp : ∀ b o, b ≠ l → H8 b = some o → H10 b = some o := fun b o n e => s10 _ _ (sb9 b o n e)
                    refine ⟨at' + 1, wp2, zs ++ (wOf b m).map (fun w => ((a, w), p7, os)), ⟨_, _, _, rfl⟩, by omega, li9.mono s10, hwp10, kp _ _ dl hd8, fun b o n e => kp b o (fun c => n (by rw [c]; simp)) (but8 b o n e), ⟨let ⟨ps, h1, h2⟩ := tb8.a; ⟨ps, kp _ _ lP1 h1, h2⟩, let ⟨ps, h1, h2⟩ := tb8.b; ⟨ps, kp _ _ lP2 h1, h2⟩⟩,
                      fun z hz => (ok8 z hz).mono fun b xs e => kp b _ (ne_of e li8.o fun c => nomatch c) e, ?_, ?_, ?_⟩
                    · rw [List.map_append, List.map_map, List.nodup_append]
                      refine ⟨ndz, List.Pairwise.map _ (fun x y h e => h (by injection e)) (wOf_nodup (z := b) (m := m)), fun x hx y hy e => ?_⟩
                      obtain ⟨w, hw, rfl⟩ := List.mem_map.mp hy
                      rw [e] at hx
                      exact new w hw hx
                    · have h1 := wOf_len (z := b) m4
                      rw [List.length_append, List.length_map]
                      omega
                    · rw [← sp]
                      have ez : zacc (zs ++ (wOf b m).map (fun w => ((a, w), p7, os))) = zacc zs ++ (wOf b m).map fun w => ((a, w), os) := by
                        unfold zacc
                        rw [List.map_append, List.map_map]
                        rfl
                      rw [ez]
                      rfl
              · rw [iff.mpr h.2.2.2] at ex
                cases ex
        · rw [decide_eq_false (fun e => cc (V.str.inj e))]
          refine iteF ?_
          exact ⟨l, dx, r, rows, at', _, false, rfl, li, rfl, (fun e => nomatch e), fun _ => bad (if_neg fun h => cc h.1) _ but tb⟩
      · have e0 : decide ((3 : Int) < ((ws.map V.str).length : Int)) = false := decide_eq_false (by rw [List.length_map]; omega)
        rw [e0]
        refine iteF ?_
        exact ⟨l, dx, r, rows, at', _, false, rfl, li, rfl, (fun e => nomatch e), fun _ => bad (rowSt_len c3) _ but tb⟩
end
end K5
namespace K5
open PySem PySem.Spec PyProof.Rows L2
/-! ### texts that are put together -/
theorem str_eq {x y : Str} (h : x.cps.toList = y.cps.toList) : x = y := by
  obtain ⟨⟨a⟩⟩ := x
  obtain ⟨⟨b⟩⟩ := y
  have h : a = b := h
  rw [h]
theorem len_app (x y : Str) : (x ++ y).length = x.length + y.length := by
  show (x.cps ++ y.cps).size = _
  rw [Array.size_append]
  rfl
theorem empty_app (x : Str) : Str.empty ++ x = x := by
  refine str_eq ?_
  rw [cps_append]
  rfl
theorem small_z {n : Nat} (h : n ≤ 1000) : n ≤ sizeLine := Nat.le_trans h (by decide)
theorem js_val {σ : L2.St} {H : Hp} {t : TE} {ts : List TE} {acc y : Str} {Q : Str → Hp → Prop} (h : Val t σ H (.str y)) (hl : acc.length + y.length ≤ 1000) (k : tJs ts (acc ++ y) σ H Q) : tJs (t :: ts) acc σ H Q := h _ ⟨y, rfl, by rw [len_app]; exact small_z hl, k⟩
theorem val_fmtS {σ : L2.St} {H : Hp} {t : TE} {y : Str} (h : Val t σ H (.str y)) (hl : y.length ≤ 1000) : Val (tFmt t) σ H (.str y) := fun Q q => h _ (.inl ⟨y, rfl, small_z hl, q⟩)
theorem val_fmtI {σ : L2.St} {H : Hp} {t : TE} {i : Int} (h : Val t σ H (.int i)) (hl : i.natAbs.log2 < 1920) : Val (tFmt t) σ H (.str (toString i)) := fun Q q => h _ (.inr ⟨i, rfl, hl, q⟩)
theorem num400 : ∀ n : Fin 402, (toString ((n.val : Nat) : Int) : Str).length ≤ 3 ∧ PyData.strOk (toString ((n.val : Nat) : Int) : Str) = true := by decide +kernel
theorem num_len {n : Nat} (h : n ≤ 401) : (toString ((n : Nat) : Int) : Str).length ≤ 3 := (num400 ⟨n, by omega⟩).1
theorem num_ok {n : Nat} (h : n ≤ 401) : PyData.strOk (toString ((n : Nat) : Int) : Str) = true := (num400 ⟨n, by omega⟩).2
end K5
namespace K5
open PySem PySem.Spec PyProof.Rows L2
/-! ### how many states there are going to be -/
def stateRow (k : Nat) : Str := "state " ++ toString ((k : Nat) : Int)
def toldR : List Str → Nat → Nat
  | [], k => k
  | r :: rs, k => if k < 400 ∧ r = stateRow k then toldR rs (k + 1) else toldR rs k
theorem toldR_le : ∀ (rs : List Str) {k : Nat}, k ≤ 400 → toldR rs k ≤ 400
  | [], _, h => h
  | r :: rs, k, h => by
    unfold toldR
    split
    · rename_i c
      exact toldR_le rs (by omega)
    · exact toldR_le rs h
structure Mg (mg : Str → Option Value) : Prop where
  m : ∃ t, mg "MOST_STATES" = some (.int 400 t)
def spTold (K : PySem.W.Frag) : Sp := fun vs H Q _ => ∃ (r : Addr) (rows : List Str), vs = [.ref r] ∧ H r = some (.lst (rows.map V.str)) ∧ Q (.int (toldR rows 0 : Nat)) H
abbrev s_states_told : Stmt := topS 17
theorem sc_states_told : FnScope ["rows", "many", "row"] ["rows"] (defScope s_states_told) := ⟨rfl, rfl, rfl, by decide +kernel, rfl, by decide +kernel, by decide +kernel⟩
section
variable {P : Program} {w : World} {K : PySem.W.Frag} {mg : Str → Option Value} {base : Heap}
theorem ok_states_told {f : Addr} {fd : FuncData} (B : Bt mg) (G : Mg mg) (D : Df K mg "states_told" s_states_told f fd ["rows"]) : FnOk P w K mg base CX0 1 f fd ["rows"] (spTold K) := by
  refine D.F.ok sc_states_told (fun vs H Q E h => ?_) (fun cdv A outer s H vs Q E hr h => ?_)
  · obtain ⟨r, rows, rfl, _⟩ := h
    rfl
  · obtain ⟨r, rows, rfl, hp, k⟩ := h
    have S := sc_states_told
    obtain ⟨tm, gM⟩ := G.m
    refine ⟨_, (pss_cons (ps_set (i := 1) S.nd rfl (.inl rfl) pe_int)
      (pss_cons (ps_for PassesOwn.never rfl (pi_list (pv 0)) (pg_name (i := 2) S.nd rfl (.inl rfl))
        (pss_one (ps_if (PW.pt (pw_and (pt_cmpR op_lt (pv 1) (pe_glob (v := .int 400) (by rfl) gM ⟨_, rfl⟩) (nomark _)) (pw_and1 (pt_cmpR op_eq (pv 2) (pe_joined (.cons pe_str (.cons (pe_fmt (pv 1)) .nil))) (nomark _)))))
          (pss_one (ps_aug (i := 1) S.nd rfl (.inl rfl) pe_int in_add))
          pss_nil)))
      (pss_one (ps_ret (pv 1))))), ?_⟩
    dsimp only [tSeq, tAsg, tC, gName]
    unfold tFor iList
    refine (val_var rfl) _ ⟨r, rfl, ⟨_, SqL.of hp⟩, for_list (K := K) (a := r) (xs := rows.map V.str) (fun i σ' H' => H' = H ∧ ∃ (k : Nat) (t2 : Option V), k ≤ 400 ∧ σ' = [some (.ref r), some (.int (k : Nat)), t2] ∧ toldR (rows.drop i) k = toldR rows 0) ?_ ?_ ?_ ?_⟩
    · exact ⟨rfl, 0, _, Nat.zero_le _, rfl, rfl⟩
    · rintro i σ' H' _ ⟨rfl, _⟩
      exact SqL.of hp
    · rintro i x σ' H' ex ⟨rfl, k, t2, k4, rfl, er⟩
      obtain ⟨row, ej, rfl⟩ : ∃ w, rows[i]? = some w ∧ x = .str w := by
        rw [List.getElem?_map] at ex
        cases q : rows[i]? with
        | none => rw [q] at ex; cases ex
        | some w => rw [q] at ex; exact ⟨w, rfl, (Option.some.inj ex).symm⟩
      rw [drop_cons ej] at er
      have er : (if k < 400 ∧ row = stateRow k then toldR (rows.drop (i + 1)) (k + 1) else toldR (rows.drop (i + 1)) k) = toldR rows 0 := er
      dsimp only [gName]
      have vj : Val (fun σ H Q => tJs [tC (.str "state "), tFmt (tVar 1)] Str.empty σ H fun out H1 => Q (.str out) H1) [some (.ref r), some (.int (k : Nat)), some (.str row)] H' (.str (stateRow k)) := fun Q q => by
        have h6 : ("state " : Str).length = 6 := by decide +kernel
        have h3 := num_len (n := k) (by omega)
        have e0 : Str.empty.length = 0 := rfl
        refine js_val val_c (by omega) ?_
        rw [empty_app]
        refine js_val (val_fmtI (val_var rfl) (log_small (by omega))) (by omega) ?_
        exact q
      refine (ans_and3 (ans_i0 (i := (k : Nat)) (j := 400) (val_var rfl) val_c) fun _ => ans_eq2 (val_var rfl) vj rfl) _ ?_
      by_cases c : k < 400 ∧ row = stateRow k
      · rw [if_pos c] at er
        rw [show (decide ((k : Int) < 400) && decide (V.str row = V.str (stateRow k))) = true by rw [decide_eq_true (show (k : Int) < 400 by omega), decide_eq_true (by rw [c.2])]; rfl]
        refine iteT ?_
        dsimp only [tSeq, tAug, tNext]
        refine ⟨_, rfl, val_c _ ⟨_, _, rfl, rfl, ?_⟩⟩
        exact ⟨rfl, k + 1, _, by omega, rfl, er⟩
      · rw [if_neg c] at er
        have e2 : (decide ((k : Int) < 400) && decide (V.str row = V.str (stateRow k))) = false := by
          cases q : (decide ((k : Int) < 400) && decide (V.str row = V.str (stateRow k))) with
          | false => rfl
          | true =>
            rw [Bool.and_eq_true] at q
            exact absurd ⟨by have := of_decide_eq_true q.1; omega, V.str.inj (of_decide_eq_true q.2)⟩ c
        rw [e2]
        exact iteF ⟨rfl, k, _, k4, rfl, er⟩
    · rintro σ' H' ⟨rfl, k', t2, k4, rfl, er⟩
      rw [List.length_map, List.drop_length] at er
      have er : k' = toldR rows 0 := er
      rw [← er] at k
      exact (val_var rfl) _ k
end
end K5
namespace K5
open PySem PySem.Spec PyProof.Rows L2
/-! ### a pact -/
def pactGo (m n : Nat) (rows : List Str) : Nat → Nat → List StA → Except Nat (Nat × List StA)
  | 0, at_, sts => .ok (at_, sts)
  | f + 1, at_, sts => if wordsAt rows at_ 0 = ([("state" : Str), toString ((sts.length : Nat) : Int)] : List Str) then match stR m n (rows.drop (at_ + 1)) (at_ + 1) [] with
      | .error e => .error e
      | .ok q => pactGo m n rows f q.1 (sts ++ [q.2])
    else .ok (at_, sts)
def pactR (m : Nat) (rows : List Str) : Except Nat (List StA) := match pactGo m (toldR rows 0) rows 400 0 [] with
  | .error e => .error e
  | .ok q => if q.1 = rows.length then .ok q.2 else .error q.1
def PactAt (H : Hp) (p : Addr) (sts : List StA) : Prop := ∃ ts : List Addr, H p = some (.tup (ts.map V.ref)) ∧ Paired (StAt H) ts sts
theorem StAt.mono {H H' : Hp} {p : Addr} {acc : StA} (k : ∀ b xs, H b = some (.tup xs) → H' b = some (.tup xs)) (h : StAt H p acc) : StAt H' p acc := by
  obtain ⟨ts, bs, h1, h2, h3, h4⟩ := h
  exact ⟨ts, bs, k _ _ h1, h2, fun b hb => let ⟨os, e1, e2⟩ := h3 b hb; ⟨os, e1, e2.mono k⟩, Paired.mapP h4 fun t q e => k _ _ e⟩
theorem ErrT.back {L L' : List Addr} {P1 P2 C : Addr} {v : V} {H Hk : Hp} {E : XK} (h : ErrT L P1 P2 C v H E) (k : ∀ b o, b ∉ L → H b = some o → b ∉ L' ∧ Hk b = some o) : ErrT L' P1 P2 C v Hk E := fun d H' b t hd => h d H' (fun a o n e => let ⟨n2, e2⟩ := k a o n e; b a o n2 e2) t hd
theorem stR_at {m n : Nat} : ∀ {rs : List Str} {at_ : Nat} {acc : StA} {q : Nat × StA}, stR m n rs at_ acc = .ok q → at_ ≤ q.1 ∧ q.1 ≤ at_ + rs.length
  | [], at_, acc, q, h => by
    have h : Except.ok (at_, acc) = Except.ok q := h
    injection h with h
    rw [← h]
    exact ⟨Nat.le_refl _, Nat.le_refl _⟩
  | z :: rs, at_, acc, q, h => by
    unfold stR at h
    split at h
    · injection h with h
      rw [← h]
      exact ⟨Nat.le_refl _, Nat.le_add_right ..⟩
    · split at h
      · cases h
      · have := stR_at h
        rw [List.length_cons]
        omega
def spPact (CT P1 P2 : Addr) : Sp := fun vs H Q E => ∃ (m : Nat) (x : V) (T : String), vs = [.int m, x, .non] ∧ Kd H x T ∧ m ≤ 4 ∧ Tabs P1 P2 H ∧ P1 ≠ P2 ∧ (isS x = false → ErrT [P1, P2] P1 P2 CT (.int (-1)) H E) ∧
  ∀ z : Str, x = .str z → z.length ≤ 14000 ∧ PyData.strOk z = true ∧ match pactR m (rowsOf z) with
    | .error e => ErrT [P1, P2] P1 P2 CT (.int (e : Nat)) H E
    | .ok sts => ∀ (H' : Hp) (p : Addr), But [P1, P2] H H' → Tabs P1 P2 H' → PactAt H' p sts → Q (.ref p) H'
abbrev s_pact_of_doors : Stmt := topS 16
theorem sc_pact_of_doors : FnScope ["worths", "text", "doors", "lines", "many", "states"] ["worths", "text", "doors"] (defScope s_pact_of_doors) := ⟨rfl, rfl, rfl, by decide +kernel, rfl, by decide +kernel, by decide +kernel⟩
structure EnP (P : Program) (w : World) (K : PySem.W.Frag) (mg : Str → Option Value) (base : Heap) (CL CT P1 P2 fL fWords fStep fEnd fTo fSt cSt : Addr) (dL dWords dStep dEnd dTo dSt : FuncData) : Prop where
  B : Bt mg
  G : Mg mg
  L : ClL K CL
  ML : Mk K CL fL
  gL : mg "Lines" = some (.ref CL)
  bL : Binds K dL ["self", "text"] []
  GL : FnOk P w K mg base (L2.CX P w) 4 fL dL ["self", "text"] (spLinesInit CL CT)
  Mw : Mf K CL "words" "Lines.words" s_Lines_words fWords dWords ["self", "depth"]
  Gw : FnOk P w K mg base CX0 1 fWords dWords ["self", "depth"] (spWords CL)
  Ms : Mf K CL "step" "Lines.step" s_Lines_step fStep dStep ["self"]
  Gs : FnOk P w K mg base CX0 1 fStep dStep ["self"] (spStep CL)
  Me : Mf K CL "need_end" "Lines.need_end" s_Lines_need_end fEnd dEnd ["self"]
  Ge : FnOk P w K mg base (L2.CX P w) 5 fEnd dEnd ["self"] (spNeedEnd CL CT)
  Dt : Df K mg "states_told" s_states_told fTo dTo ["rows"]
  Gt : FnOk P w K mg base CX0 1 fTo dTo ["rows"] (spTold K)
  Ds : DfT K mg "read_state" s_read_state fSt dSt cSt ["lines", "worths", "doors", "many"]
  Gst : FnOk P w K mg base (L2.CX P w) 7 fSt dSt ["lines", "worths", "doors", "many"] (spState CL CT P1 P2)
/-- ahead of each turn -/
structure RP (CL P1 P2 : Addr) (H0 : Hp) (l dx r el : Addr) (rows : List Str) (z : Str) (m : Nat) (R : Except Nat (Nat × List StA)) (f : Nat) (σ : L2.St) (H : Hp) (at_ : Nat) (ts : List Addr) (sts : List StA) : Prop where
  st : σ = [some (.int m), some (.str z), some .non, some (.ref l), some (.int (toldR rows 0 : Nat)), some (.ref el)]
  fn : f + sts.length = 400
  li : LinesAt CL H l dx r rows at_
  he : H el = some (.lst (ts.map V.ref))
  pr : Paired (StAt H) ts sts
  but : But [l, el, P1, P2] H0 H
  tab : Tabs P1 P2 H
  re : r ≠ el
  sp : pactGo m (toldR rows 0) rows f at_ sts = R
section
variable {P : Program} {w : World} {K : PySem.W.Frag} {mg : Str → Option Value} {base : Heap} {CL CT P1 P2 fL fWords fStep fEnd fTo fSt cSt : Addr} {dL dWords dStep dEnd dTo dSt : FuncData}
theorem ok_pact_of_doors {f : Addr} {fd : FuncData} (N : EnP P w K mg base CL CT P1 P2 fL fWords fStep fEnd fTo fSt cSt dL dWords dStep dEnd dTo dSt) (D : Df K mg "pact_of_doors" s_pact_of_doors f fd ["worths", "text", "doors"]) :
    FnOk P w K mg base (L2.CX P w) 8 f fd ["worths", "text", "doors"] (spPact CT P1 P2) := by
  refine D.F.okX sc_pact_of_doors (fun vs H Q E h => ?_) (fun cdv A0 outer s H vs Q E hr h => ?_)
  · obtain ⟨m, x, T, rfl, _⟩ := h
    rfl
  · obtain ⟨m, x, T, rfl, hx, m4, tab, pne, ke, k⟩ := h
    have S := sc_pact_of_doors
    obtain ⟨tm, gM⟩ := N.G.m
    refine ⟨_, (pss_cons (ps_set (i := 3) S.nd rfl (.inl rfl) (pe_make N.ML N.GL (hr.mono (by decide)) (by rfl) N.gL N.bL .nil (pxp rfl rfl rfl rfl) (pa_cons (pv 1) pa_nil)))
      (pss_cons (ps_set (i := 4) S.nd rfl (.inl rfl) (pe_call N.Gt (hr.mono (by decide)) (by rfl) N.Dt.g N.Dt.F.kp N.Dt.b .nil pass0 (pa_cons (pe_fld (pv 3) rfl) pa_nil)))
      (pss_cons (ps_set (i := 5) S.nd rfl (.inl rfl) (pe_lst pa_nil))
      (pss_cons (ps_while (passes_of rfl) (PW.pt (pw_and (pt_cmpR op_lt (pe_callB call_len_seq (by rfl) N.B.m_len PySem.boot_len (pa_cons (pv 5) pa_nil)) (pe_glob (v := .int 400) (by rfl) gM ⟨_, rfl⟩) (nomark _)) (pw_and1 (pt_cmpR (op_eqD hr.units) (pe_meth (pv 3) N.L.cl N.Mw.m N.Gw (hr.mono (by decide)) N.Mw.b .nil pass0 (pa_cons pe_int pa_nil)) (pe_lst (pa_cons pe_str (pa_cons (pe_callTy call_str_int (by rfl) N.B.m_str (by decide +kernel) (pa_cons (pe_callB call_len_seq (by rfl) N.B.m_len PySem.boot_len (pa_cons (pv 5) pa_nil)) pa_nil)) pa_nil))) (nomark _)))))
        (pss_cons (ps_expr (pe_meth0 (pv 3) N.L.cl N.Ms.m N.Gs (hr.mono (by decide)) N.Ms.b .nil pass0))
        (pss_one (ps_expr (pe_bm PySem.F.plainAttrs_list PySem.F.slot_list_append PySem.F.type_list_append mt_append (pv 5) (pa_cons (pe_call N.Gst (hr.mono (by decide)) (by rfl) N.Ds.g N.Ds.F.kp N.Ds.b .nil (pxp rfl rfl rfl rfl) (pa_cons (pv 3) (pa_cons (pv 0) (pa_cons (pv 2) (pa_cons (pv 4) pa_nil))))) pa_nil))))))
      (pss_cons (ps_expr (pe_meth0 (pv 3) N.L.cl N.Me.m N.Ge (hr.mono (by decide)) N.Me.b .nil (pxp rfl rfl rfl rfl)))
      (pss_one (ps_ret (pe_tupleOf (by rfl) N.B.m_tuple (pv 5))))))))), ?_⟩
    dsimp only [tSeq, tAsg]
    dsimp only [tMake, tCons, tNil]
    refine (val_var rfl) _ ?_
    refine fun a da na nda neq => ?_
    have n0 : (upd H da (.own a)) a = none := by
      rw [upd_ne neq.symm]
      exact na
    have sP : Same H (upd (upd H da (.own a)) a (.ins CL da [])) := (same_upd nda).trans (same_upd n0)
    have hP : (upd (upd H da (.own a)) a (.ins CL da [])) a = some (.ins CL da []) := upd_same
    generalize (upd (upd H da (.own a)) a (.ins CL da [])) = HP at sP hP ⊢
    refine ⟨a, da, x, T, rfl, hP, hx.mono sP, fun z e => ⟨(k z e).1, fun H1 r sb nr li => ⟨rfl, ?_⟩⟩, fun hs => ErrT.of (ke hs) (But.of_same sP) (tab.same sP)⟩
    subst e
    obtain ⟨zl, zo, k⟩ := k z rfl
    have s01 : Same H H1 := fun b o e => sb b o (ne_of_none e na) (sP b o e)
    have sz : Sz (rowsOf z) := sz_rows zl zo
    dsimp only [gName, tSeq, tAsg]
    dsimp only [tCall, tCons, tNil]
    refine (val_fld (val_var rfl) li.o N.L.cl N.L.nr lf_rows) _ ⟨r, rowsOf z, rfl, li.r, ?_⟩
    dsimp only [gName]
    refine ⟨by show 0 ≤ sizeLine; decide, fun el nel => ?_⟩
    have s1 := same_upd (o := .lst []) nel
    have hel : (upd H1 el (.lst [])) el = some (.lst []) := upd_same
    have rel : r ≠ el := ne_of_none li.r nel
    have li := li.mono s1
    generalize (upd H1 el (.lst [])) = H2 at s1 hel li ⊢
    have s02 := s01.trans s1
    have nel0 := s01.free nel
    clear s1 sb hP sP nda n0
    have ex : ∀ b o, b ∉ [P1, P2] → H b = some o → b ∉ [a, el, P1, P2] := fun b o n e c => by
      rcases List.mem_cons.mp c with c | c
      · rw [c, na] at e
        cases e
      · rcases List.mem_cons.mp c with c | c
        · rw [c, nel0] at e
          cases e
        · exact n c
    have pa1 : P1 ≠ a := fun c => by
      obtain ⟨ps, h1, _⟩ := tab.a
      rw [c, na] at h1
      cases h1
    have pa2 : P2 ≠ a := fun c => by
      obtain ⟨ps, h1, _⟩ := tab.b
      rw [c, na] at h1
      cases h1
    have pe1 : P1 ≠ el := fun c => by
      obtain ⟨ps, h1, _⟩ := tab.a
      rw [c, nel0] at h1
      cases h1
    have pe2 : P2 ≠ el := fun c => by
      obtain ⟨ps, h1, _⟩ := tab.b
      rw [c, nel0] at h1
      cases h1
    have kR : match pactGo m (toldR (rowsOf z) 0) (rowsOf z) 400 0 [] with
        | .error e => ErrT [P1, P2] P1 P2 CT (.int (e : Nat)) H E
        | .ok q => (q.1 = (rowsOf z).length → ∀ (H' : Hp) (p : Addr), But [P1, P2] H H' → Tabs P1 P2 H' → PactAt H' p q.2 → Q (.ref p) H') ∧ (q.1 ≠ (rowsOf z).length → ErrT [P1, P2] P1 P2 CT (.int (q.1 : Nat)) H E) := by
      unfold pactR at k
      cases q : pactGo m (toldR (rowsOf z) 0) (rowsOf z) 400 0 [] with
      | error e =>
        rw [q] at k
        exact k
      | ok q' =>
        rw [q] at k
        dsimp only at k ⊢
        refine ⟨fun e => ?_, fun e => ?_⟩
        · rw [if_pos e] at k
          exact k
        · rw [if_neg e] at k
          exact k
    clear k
    -- the end
    have fin : ∀ (H3 : Hp) (at_ : Nat) (ts : List Addr) (sts : List StA) (v : V), LinesAt CL H3 a da r (rowsOf z) at_ → H3 el = some (.lst (ts.map V.ref)) → Paired (StAt H3) ts sts → But [a, el, P1, P2] H H3 → Tabs P1 P2 H3 → .ok (at_, sts) = pactGo m (toldR (rowsOf z) 0) (rowsOf z) 400 0 [] →
        tSeq (tDrop (tMeth CL "need_end" (spNeedEnd CL CT) [] E (tVar 3) tNil)) (tRet (tThen (tVar 5) (kTup K))) { nx := fun _ H' => Q .non H', rt := Q } [some (.int m), some (.str z), some .non, some (.ref a), some v, some (.ref el)] H3 := by
      intro H3 at_ ts sts v li3 he3 pr3 bt3 tb3 e3
      rw [← e3] at kR
      obtain ⟨k1, k2⟩ := kR
      have bt : But [P1, P2] H H3 := fun b o n e => bt3 b o (ex b o n e) e
      dsimp only [tSeq, tDrop]
      refine meth0_run (val_var rfl) li3.o (lf_no (by decide +kernel) (by decide +kernel)) ?_
      refine ⟨a, da, r, rowsOf z, at_, rfl, li3, fun e => ?_, fun e => ErrT.of (k2 e) bt tb3⟩
      dsimp only [tRet, tThen]
      refine (val_var rfl) _ (.inl ⟨el, ts.map V.ref, rfl, SqL.of he3, fun t nt => ?_⟩)
      have s4 := same_upd (o := .tup (ts.map V.ref)) nt
      exact k1 e _ t (bt.trans (But.of_same s4)) (tb3.same s4) ⟨ts, upd_same, Paired.mapP pr3 fun t q h => h.mono fun b xs e => s4 _ _ e⟩
    dsimp only [tNext]
    refine ⟨fun f σ H' => ∃ at_ ts sts, RP CL P1 P2 H a da r el (rowsOf z) z m (pactGo m (toldR (rowsOf z) 0) (rowsOf z) 400 0 []) f σ H' at_ ts sts, ⟨400, 0, [], [], rfl, rfl, li, hel, .nil, But.of_same s02, tab.same s02, rel, rfl⟩, fun f σ H' h => ?_⟩
    obtain ⟨at_, ts, sts, rfl, fn, li3, he3, pr3, bt3, tb3, re3, sp⟩ := h
    clear li hel s02 s01
    have lts : ts.length = sts.length := Paired.length pr3
    dsimp only [tAnd, tTest]
    refine (val_op (val_lenL (val_var rfl) (SqL.of he3)) val_c fun Q q => ⟨_, _, rfl, rfl, q⟩) _ ⟨_, rfl, ?_⟩
    have ed : decide ((((ts.map V.ref).length : Nat) : Int) < 400) = decide (sts.length < 400) := decide_eq_decide.mpr (by rw [List.length_map, lts]; omega)
    rw [ed]
    cases f with
    | zero =>
      rw [decide_eq_false (by omega)]
      refine iteF (iteF ?_)
      exact fin H' at_ ts sts _ li3 he3 pr3 bt3 tb3 sp
    | succ f =>
      rw [decide_eq_true (by omega)]
      refine iteT ?_
      refine meth_run (val_var rfl) li3.o (lf_no (by decide +kernel) (by decide +kernel)) ?_
      refine val_c _ ⟨a, da, r, rowsOf z, at_, 0, rfl, li3, sz, by decide, fun H4 wp s4 nw hwp => ?_⟩
      have wz := words_ok (n := at_) (dp := 0) sz
      have li4 := li3.mono s4
      have he4 := s4 _ _ he3
      have bt4 := bt3.trans (But.of_same s4)
      have tb4 := tb3.same s4
      have pr4 : Paired (StAt H4) ts sts := Paired.mapP pr3 fun t q h => h.mono fun b xs e => s4 _ _ e
      clear li3 he3 pr3 bt3 tb3 s4
      have vl := val_lenL (val_var (σ := [some (V.int m), some (.str z), some .non, some (.ref a), some (.int (toldR (rowsOf z) 0 : Nat)), some (.ref el)]) (i := 5) rfl) (SqL.of (K := K) he4)
      have llen : (((ts.map V.ref).length : Nat) : Int) = ((sts.length : Nat) : Int) := by rw [List.length_map, lts]
      rw [llen] at vl
      dsimp only [tLst, tCons, tNil]
      refine val_c _ ((val_strI vl (log_small (by omega))) _ ?_)
      refine ⟨by show 2 ≤ sizeLine; decide, fun q nq => ?_⟩
      have s5 := same_upd (o := .lst ([(("state" : Str)), toString ((sts.length : Nat) : Int)].map V.str)) nq
      have hq : (upd H4 q (.lst ([(("state" : Str)), toString ((sts.length : Nat) : Int)].map V.str))) q = some (.lst ([(("state" : Str)), toString ((sts.length : Nat) : Int)].map V.str)) := upd_same
      show rEqD K (.ref wp) (.ref q) (upd H4 q (.lst ([(("state" : Str)), toString ((sts.length : Nat) : Int)].map V.str))) _
      generalize (upd H4 q (.lst ([(("state" : Str)), toString ((sts.length : Nat) : Int)].map V.str))) = H5 at s5 hq ⊢
      refine ⟨.list ((wordsAt (rowsOf z) at_ 0).map PyData.str), .list ([(("state" : Str)), toString ((sts.length : Nat) : Int)].map PyData.str), .lst (SqL.of (s5 _ _ hwp)) (dpAll_strs _), .lst (SqL.of hq) (dpAll_strs _), shaped_strs fun y hy => (wz y hy).1, shaped_strs fun y hy => ?_, ?_⟩
      · rcases List.mem_cons.mp hy with c | c
        · rw [c]
          decide +kernel
        · rw [List.mem_singleton.mp c]
          exact num_ok (by omega)
      · have e : PyData.eqv (.list ((wordsAt (rowsOf z) at_ 0).map PyData.str)) (.list ([(("state" : Str)), toString ((sts.length : Nat) : Int)].map PyData.str)) = decide (wordsAt (rowsOf z) at_ 0 = [(("state" : Str)), toString ((sts.length : Nat) : Int)]) := by
          rw [PyData.eqv]
          exact eqv_strs _ _
        rw [e]
        have li5 := li4.mono s5
        have he5 := s5 _ _ he4
        have bt5 := bt4.trans (But.of_same s5)
        have tb5 := tb4.same s5
        have pr5 : Paired (StAt H5) ts sts := Paired.mapP pr4 fun t q h => h.mono fun b xs e => s5 _ _ e
        clear li4 he4 pr4 bt4 tb4 s5 vl hq nq hwp nw
        have sp : (if wordsAt (rowsOf z) at_ 0 = ([("state" : Str), toString ((sts.length : Nat) : Int)] : List Str) then (match stR m (toldR (rowsOf z) 0) ((rowsOf z).drop (at_ + 1)) (at_ + 1) [] with
            | .error e => .error e
            | .ok q => pactGo m (toldR (rowsOf z) 0) (rowsOf z) f q.1 (sts ++ [q.2])) else .ok (at_, sts)) = pactGo m (toldR (rowsOf z) 0) (rowsOf z) 400 0 [] := sp
        refine ⟨_, rfl, ?_⟩
        by_cases cw : wordsAt (rowsOf z) at_ 0 = [(("state" : Str)), toString ((sts.length : Nat) : Int)]
        · rw [if_pos cw] at sp
          rw [decide_eq_true cw]
          refine iteT ⟨fun σ' H' => ∃ at_ ts sts, RP CL P1 P2 H a da r el (rowsOf z) z m (pactGo m (toldR (rowsOf z) 0) (rowsOf z) 400 0 []) f σ' H' at_ ts sts, fun σ' H' h => ⟨f, Nat.lt_succ_self f, h⟩, ?_⟩
          have hn : at_ < (rowsOf z).length := by
            cases q : (rowsOf z)[at_]? with
            | none =>
              unfold wordsAt at cw
              rw [q] at cw
              cases cw
            | some _ => exact (List.getElem?_eq_some_iff.mp q).1
          dsimp only [tSeq, tDrop]
          refine meth0_run (val_var rfl) li5.o (lf_no (by decide +kernel) (by decide +kernel)) ?_
          refine ⟨a, da, r, rowsOf z, at_, rfl, li5, hn, fun H6 sb6 li6 => ?_⟩
          have ne : el ≠ a := ne_of he5 li5.o fun c => nomatch c
          have he6 := sb6 _ _ ne he5
          have tb6 : Tabs P1 P2 H6 := ⟨let ⟨ps, h1, h2⟩ := tb5.a; ⟨ps, sb6 _ _ pa1 h1, h2⟩, let ⟨ps, h1, h2⟩ := tb5.b; ⟨ps, sb6 _ _ pa2 h1, h2⟩⟩
          have bt6 : But [a, el, P1, P2] H H6 := fun b o n e => sb6 b o (fun c => n (by rw [c]; simp)) (bt5 b o n e)
          have pr6 : Paired (StAt H6) ts sts := Paired.mapP pr5 fun t q h => h.mono fun b xs e => sb6 _ _ (ne_of e li5.o fun c => nomatch c) e
          clear li5 he5 pr5 bt5 tb5 sb6
          refine bm_run (x := .ref el) (val_var rfl) (.inl ⟨rfl, _, SqL.of he6⟩) ?_
          dsimp only [tCall, tCons, tNil]
          refine (val_var rfl) _ ((val_var rfl) _ ((val_var rfl) _ ((val_var rfl) _ ?_)))
          refine ⟨a, da, r, rowsOf z, at_ + 1, m, toldR (rowsOf z) 0, rfl, li6, sz, m4, tb6, pne, ?_⟩
          cases hst : stR m (toldR (rowsOf z) 0) ((rowsOf z).drop (at_ + 1)) (at_ + 1) [] with
          | error e =>
            rw [hst] at sp
            have sp : Except.error e = pactGo m (toldR (rowsOf z) 0) (rowsOf z) 400 0 [] := sp
            rw [← sp] at kR
            have kR : ErrT [P1, P2] P1 P2 CT (.int (e : Nat)) H E := kR
            exact kR.back fun b o n e => ⟨fun c => by
              rcases List.mem_cons.mp c with c | c
              · exact ex b o n e (by rw [c]; simp)
              · exact n c, bt6 b o (ex b o n e) e⟩
          | ok q' =>
            rw [hst] at sp
            have sp : pactGo m (toldR (rowsOf z) 0) (rowsOf z) f q'.1 (sts ++ [q'.2]) = pactGo m (toldR (rowsOf z) 0) (rowsOf z) 400 0 [] := sp
            obtain ⟨at', acc⟩ := q'
            show ∀ (H' : Hp) (p : Addr), But [a, P1, P2] H6 H' → Tabs P1 P2 H' → LinesAt CL H' a da r (rowsOf z) at' → StAt H' p acc → _
            intro H7 p7 b7 t7 li7 sa
            have kp7 : ∀ b o, b ≠ a → (∀ ps, o ≠ .tbl ps) → H6 b = some o → H7 b = some o := fun b o n no e => b7 b o (fun c => by
              rcases List.mem_cons.mp c with c | c
              · exact n c
              · rcases List.mem_cons.mp c with c | c
                · obtain ⟨ps, h1, _⟩ := tb6.a
                  rw [c, h1] at e
                  exact no ps (Option.some.inj e).symm
                · obtain ⟨ps, h1, _⟩ := tb6.b
                  rw [List.mem_singleton.mp c, h1] at e
                  exact no ps (Option.some.inj e).symm) e
            have he7 := kp7 el _ ne (fun ps (c : HO.lst (ts.map V.ref) = .tbl ps) => nomatch c) he6
            have pr7 : Paired (StAt H7) ts sts := Paired.mapP pr6 fun t q h => h.mono fun b xs e => kp7 b _ (ne_of e li6.o fun c => nomatch c) (fun ps (c : HO.tup xs = .tbl ps) => nomatch c) e
            have bt7 : But [a, el, P1, P2] H H7 := fun b o n e => b7 b o (fun c => n (by
              rcases List.mem_cons.mp c with c | c
              · rw [c]; simp
              · rcases List.mem_cons.mp c with c | c
                · rw [c]; simp
                · rw [List.mem_singleton.mp c]; simp)) (bt6 b o n e)
            refine ⟨el, _, _, rfl, rfl, he7, by rw [List.length_map, lts]; exact Nat.lt_of_lt_of_le (show sts.length < 401 by omega) (by decide), ?_⟩
            have eL : (ts.map V.ref) ++ [V.ref p7] = (ts ++ [p7]).map V.ref := by rw [List.map_append]; rfl
            rw [eL]
            have up : ∀ b o, b ≠ el → H7 b = some o → (upd H7 el (.lst ((ts ++ [p7]).map V.ref))) b = some o := fun b o n e => by
              rw [upd_ne n]
              exact e
            have hel7 : (upd H7 el (.lst ((ts ++ [p7]).map V.ref))) el = some (.lst ((ts ++ [p7]).map V.ref)) := upd_same
            generalize (upd H7 el (.lst ((ts ++ [p7]).map V.ref))) = H8 at up hel7 ⊢
            have tup : ∀ b xs, H7 b = some (.tup xs) → H8 b = some (.tup xs) := fun b xs e => up b _ (ne_of e he7 fun c => nomatch c) e
            refine ⟨at', ts ++ [p7], sts ++ [acc], rfl, by rw [List.length_append]; show f + (sts.length + 1) = 400; omega, ⟨up _ _ ne.symm li7.o, up _ _ re3 li7.r, li7.le⟩, hel7, Paired.snoc (Paired.mapP pr7 fun t q h => h.mono tup) (sa.mono tup), fun b o n e => up b o (fun c => n (by rw [c]; simp)) (bt7 b o n e), ⟨let ⟨ps, h1, h2⟩ := t7.a; ⟨ps, up _ _ pe1 h1, h2⟩, let ⟨ps, h1, h2⟩ := t7.b; ⟨ps, up _ _ pe2 h1, h2⟩⟩, re3, sp⟩
        · rw [if_neg cw] at sp
          rw [decide_eq_false cw]
          refine iteF ?_
          exact fin H5 at_ ts sts _ li5 he5 pr5 bt5 tb5 sp
end
end K5
namespace K5
open PySem PySem.Spec PyProof.Rows L2
/-! ### read_pact -/
def spReadPact (CW CT P1 P2 : Addr) : Sp := fun vs H Q E => ∃ (x y : V) (Tx Ty : String), vs = [x, y] ∧ Kd H x Tx ∧ Kd H y Ty ∧ Tabs P1 P2 H ∧ P1 ≠ P2 ∧ (worthsOk x = false → ErrT [P1, P2] P1 P2 CW x H E) ∧
  ∀ m : Nat, x = .int m → worthsOk x = true → m ≤ 4 → (isS y = false → ErrT [P1, P2] P1 P2 CT (.int (-1)) H E) ∧
    ∀ z : Str, y = .str z → z.length ≤ 14000 ∧ PyData.strOk z = true ∧ match pactR m (rowsOf z) with
      | .error e => ErrT [P1, P2] P1 P2 CT (.int (e : Nat)) H E
      | .ok sts => ∀ (H' : Hp) (p : Addr), But [P1, P2] H H' → Tabs P1 P2 H' → PactAt H' p sts → Q (.ref p) H'
abbrev s_read_pact : Stmt := topS 15
theorem sc_read_pact : FnScope ["worths", "text"] ["worths", "text"] (defScope s_read_pact) := ⟨rfl, rfl, rfl, by decide +kernel, rfl, by decide +kernel, by decide +kernel⟩
section
variable {P : Program} {w : World} {K : PySem.W.Frag} {mg : Str → Option Value} {base : Heap} {CW CT P1 P2 fE fW fP : Addr} {dE dW dP : FuncData}
theorem ok_read_pact {f : Addr} {fd : FuncData} (TW : Er K mg "BadWorths" CW fE) (GE : FnOk P w K mg base CX0 1 fE dE ["self", "value"] (spErr K)) (bE : Binds K dE ["self", "value"] [])
    (Dw : Df K mg "is_worths" s_is_worths fW dW ["value"]) (Gw : FnOk P w K mg base CX0 2 fW dW ["value"] spIsWorths)
    (Dp : Df K mg "pact_of_doors" s_pact_of_doors fP dP ["worths", "text", "doors"]) (Gp : FnOk P w K mg base (L2.CX P w) 8 fP dP ["worths", "text", "doors"] (spPact CT P1 P2))
    (D : Df K mg "read_pact" s_read_pact f fd ["worths", "text"]) : FnOk P w K mg base (L2.CX P w) 9 f fd ["worths", "text"] (spReadPact CW CT P1 P2) := by
  refine D.F.okX sc_read_pact (fun vs H Q E h => ?_) (fun cdv A0 outer s H vs Q E hr h => ?_)
  · obtain ⟨x, y, Tx, Ty, rfl, _⟩ := h
    rfl
  · obtain ⟨x, y, Tx, Ty, rfl, hx, hy, tab, pne, kW, k⟩ := h
    have S := sc_read_pact
    refine ⟨_, (pss_cons (ps_if (pt_not (pt_val (pe_call Gw (hr.mono (by decide)) (by rfl) Dw.g Dw.F.kp Dw.b .nil pass0 (pa_cons (pv 0) pa_nil))))
        (pss_one (ps_raise rfl (takes_of rfl rfl rfl rfl) (pmk_oex TW.O TW.iC TW.tI GE (hr.mono (by decide)) bE .nil pass0 (by rfl) TW.g (pa_cons (pv 0) pa_nil))))
        pss_nil)
      (pss_one (ps_ret (pe_call Gp (hr.mono (by decide)) (by rfl) Dp.g Dp.F.kp Dp.b .nil (pxp rfl rfl rfl rfl) (pa_cons (pv 0) (pa_cons (pv 1) (pa_cons pe_non pa_nil))))))), ?_⟩
    refine (val_call (va_cons (val_var rfl) va_nil) fun Q q => ⟨x, Tx, rfl, hx, q⟩) _ ⟨_, rfl, ?_⟩
    cases hw : worthsOk x with
    | false =>
      refine iteT ?_
      exact raise_run TW.O TW.nv (val_var rfl) (ErrT.of (kW hw) (But.of_same fun b o e => e) tab)
    | true =>
      refine iteF ?_
      obtain ⟨wn, rfl⟩ : ∃ wn, x = .int wn := by
        cases hx with
        | int i => exact ⟨i, rfl⟩
        | _ => exact absurd (show false = true from hw) Bool.false_ne_true
      have hw2 : (decide (2 ≤ wn) && decide (wn ≤ 4)) = true := hw
      rw [Bool.and_eq_true] at hw2
      have h2 := of_decide_eq_true hw2.1
      have h4 := of_decide_eq_true hw2.2
      obtain ⟨m, rfl⟩ : ∃ m : Nat, wn = (m : Int) := ⟨wn.toNat, by omega⟩
      obtain ⟨kS, kz⟩ := k m rfl hw (by omega)
      dsimp only [tNext, tSeq, tRet]
      dsimp only [tCall, tCons, tNil]
      refine (val_var rfl) _ ((val_var rfl) _ (val_c _ ?_))
      exact ⟨m, y, Ty, rfl, hy, by omega, tab, pne, kS, kz⟩
end
end K5
namespace K5
open PySem PySem.Spec PyProof.Rows L2
/-! ### signs, as the law looks at them -/
def abc : Str := "abcdefghijklmnopqrstuvwxyz"
theorem abc_mem : ∀ c : Nat, decide (c ∈ abc.cps.toList) = decide (97 ≤ c ∧ c ≤ 122) := by
  intro c
  have h : abc.cps.toList = (List.range 26).map (· + 97) := by decide +kernel
  rw [h]
  refine decide_eq_decide.mpr ⟨fun h => ?_, fun h => ?_⟩
  · obtain ⟨i, hi, rfl⟩ := List.mem_map.mp h
    have := List.mem_range.mp hi
    omega
  · exact List.mem_map.mpr ⟨c - 97, List.mem_range.mpr (by omega), by omega⟩
theorem uni_low : ∀ c : Nat, c < 128 → ((Unicode.isAlpha c && !(Unicode.isUpper c || Unicode.isTitle c)) = decide (97 ≤ c ∧ c ≤ 122)) ∧ ((97 ≤ c ∧ c ≤ 122) → Unicode.isLower c = true) := by
  have h : ∀ c : Fin 128, ((Unicode.isAlpha c.val && !(Unicode.isUpper c.val || Unicode.isTitle c.val)) = decide (97 ≤ c.val ∧ c.val ≤ 122)) ∧ ((97 ≤ c.val ∧ c.val ≤ 122) → Unicode.isLower c.val = true) := by decide +kernel
  exact fun c hc => h ⟨c, hc⟩
/-- over the signs of a text -/
theorem lc_str {z : Str} {g : TG} {tt : TT} {te : TE} {vs : List Nat} {σ : L2.St} {H1 : Hp} {D : Addr} {Qd : Hp → Prop} (Pv : Nat → Hp → Prop) (h0 : Pv 0 (upd H1 D (.lst [])))
    (hs : ∀ i c H, z.cps.toList[i]? = some c → Pv i H → g (.str ⟨#[c]⟩) (wipe σ vs) H fun σ2 H2 => wipe σ2 vs = wipe σ vs ∧ tt σ2 H2 fun b H3 =>
      if b = true then te σ2 H3 fun y H4 => ∃ acc, H4 D = some (.lst acc) ∧ acc.length < sizeLine ∧ Pv (i + 1) (upd H4 D (.lst (acc ++ [y]))) else Pv (i + 1) H3) (hd : ∀ H, Pv z.cps.size H → Qd H) :
    ∃ W : Nat → Nat → Hp → Prop, (∃ m, W 0 m (upd H1 D (.lst []))) ∧ ∀ i m H, W i m H →
      ((Its z).stop i H ∧ Qd H) ∨ ((Its z).go i H ∧ ∃ Nx : Hp → Prop, (∀ H', Nx H' → ∃ m', m' < m ∧ W (i + 1) m' H') ∧ ∀ x H', (Its z).yld i H x H' → g x (wipe σ vs) H' fun σ2 H2 => wipe σ2 vs = wipe σ vs ∧ tt σ2 H2 fun b H3 =>
        if b = true then te σ2 H3 fun y H4 => ∃ acc, H4 D = some (.lst acc) ∧ acc.length < sizeLine ∧ Nx (upd H4 D (.lst (acc ++ [y]))) else Nx H3) := by
  refine ⟨fun i m H => m = z.cps.size - i ∧ i ≤ z.cps.size ∧ Pv i H, ⟨z.cps.size, by simp, Nat.zero_le _, h0⟩, ?_⟩
  rintro i m H ⟨rfl, hi, p⟩
  by_cases hlt : i < z.cps.size
  · refine .inr ⟨hlt, Pv (i + 1), fun H' p' => ⟨z.cps.size - (i + 1), by omega, rfl, hlt, p'⟩, fun x H' y => ?_⟩
    obtain ⟨e, c, hc, y⟩ := y
    subst e y
    exact hs i c _ (by rw [Array.getElem?_toList]; exact hc) p
  · have e : i = z.cps.size := by omega
    subst e
    exact .inl ⟨Nat.le_refl _, hd H p⟩
section
variable {K : PySem.W.Frag} {H : Hp}
theorem dp_strs {l : List Str} : DpAll K H (l.map V.str) (l.map PyData.str) := by
  induction l with
  | nil => exact .nil
  | cons z l ih => exact .cons (.str z) ih
theorem strs_shaped : ∀ {l : List Str}, (∀ z ∈ l, PyData.strOk z = true) → PyData.canLayAll0 (l.map PyData.str) = true
  | [], _ => rfl
  | z :: l, h => by
    show (PyData.canLay0 (.str z) && PyData.canLayAll0 (l.map PyData.str)) = true
    rw [strs_shaped fun y hy => h y (List.mem_cons_of_mem _ hy), show PyData.canLay0 (.str z) = PyData.strOk z from rfl, h z (List.mem_cons_self ..)]
    rfl
theorem strs_depth : ∀ {l : List Str}, PyData.depthAll (l.map PyData.str) = 0
  | [] => rfl
  | z :: l => by
    show max 0 (PyData.depthAll (l.map PyData.str)) = 0
    rw [strs_depth]
    rfl
theorem lst_shaped {l : List Str} (h : ∀ z ∈ l, PyData.strOk z = true) : SeqAt.shaped (.list (l.map PyData.str)) = true := by
  unfold SeqAt.shaped
  rw [Bool.and_eq_true]
  refine ⟨strs_shaped h, decide_eq_true ?_⟩
  show PyData.depthAll (l.map PyData.str) + 1 ≤ 64
  rw [strs_depth]
  decide
theorem eqv_nil {l : List Str} : PyData.eqv (.list (l.map PyData.str)) (.list []) = decide (l = []) := by
  cases l with
  | nil => rfl
  | cons z l => exact (decide_eq_false (fun e => nomatch e)).symm
end

def lowAll (z : Str) : Bool := z.cps.toList.all fun c => decide (97 ≤ c ∧ c ≤ 122)
theorem low_name {z : Str} (h1 : 1 ≤ z.length) : (Txt.isascii z && (Txt.isalpha z && Txt.islower z)) = lowAll z := by
  obtain ⟨⟨l⟩⟩ := z
  have hl : 0 < l.length := h1
  unfold Txt.isascii Txt.isalpha Txt.islower lowAll
  have e0 : decide ((⟨⟨l⟩⟩ : Str).length > 0) = true := decide_eq_true hl
  rw [e0, Bool.true_and, List.all_toArray, List.all_toArray, List.any_toArray, List.any_toArray]
  show (l.all (fun c => decide (c < 128)) && (l.all Unicode.isAlpha && (l.any Unicode.isLower && !l.any fun c => Unicode.isUpper c || Unicode.isTitle c))) = l.all fun c => decide (97 ≤ c ∧ c ≤ 122)
  apply Bool.eq_iff_iff.mpr
  constructor
  · intro h
    rw [Bool.and_eq_true, Bool.and_eq_true, Bool.and_eq_true] at h
    obtain ⟨ha, hb, hc, hd⟩ := h
    rw [List.all_eq_true] at ha hb ⊢
    intro c m
    have c1 : c < 128 := of_decide_eq_true (ha c m)
    rw [← (uni_low c c1).1, hb c m, Bool.true_and]
    have hd' : (l.any fun c => Unicode.isUpper c || Unicode.isTitle c) = false := by
      cases q : (l.any fun c => Unicode.isUpper c || Unicode.isTitle c) with
      | false => rfl
      | true => rw [q] at hd; cases hd
    rw [List.any_eq_false] at hd'
    have := hd' c m
    cases q : (Unicode.isUpper c || Unicode.isTitle c) with
    | false => rfl
    | true => exact absurd q this
  · intro h
    rw [List.all_eq_true] at h
    have r : ∀ c ∈ l, 97 ≤ c ∧ c ≤ 122 := fun c m => of_decide_eq_true (h c m)
    have q : ∀ c ∈ l, Unicode.isAlpha c = true ∧ (Unicode.isUpper c || Unicode.isTitle c) = false := fun c m => by
      have e := (uni_low c (by have := r c m; omega)).1
      rw [decide_eq_true (r c m), Bool.and_eq_true] at e
      refine ⟨e.1, ?_⟩
      cases x : (Unicode.isUpper c || Unicode.isTitle c) with
      | false => rfl
      | true => rw [x] at e; exact absurd e.2 (by decide)
    rw [Bool.and_eq_true, Bool.and_eq_true, Bool.and_eq_true]
    refine ⟨List.all_eq_true.mpr fun c m => decide_eq_true (by have := r c m; omega), List.all_eq_true.mpr fun c m => (q c m).1, ?_, ?_⟩
    · cases l with
      | nil => exact absurd hl (Nat.lt_irrefl _)
      | cons c l => exact List.any_eq_true.mpr ⟨c, List.mem_cons_self .., (uni_low c (by have := r c (List.mem_cons_self ..); omega)).2 (r c (List.mem_cons_self ..))⟩
    · have : (l.any fun c => Unicode.isUpper c || Unicode.isTitle c) = false := List.any_eq_false.mpr fun c m e => by
        rw [(q c m).2] at e
        cases e
      rw [this]
      rfl
theorem isName_low (z : Str) : isName z = ((decide ((1 : Int) ≤ (z.length : Int)) && decide ((z.length : Int) ≤ 8)) && lowAll z) := by
  unfold isName
  by_cases h : 1 ≤ z.length
  · rw [low_name h]
  · rw [decide_eq_false (by omega : ¬ (1 : Int) ≤ (z.length : Int))]
    rfl
def nums : Str := "0123456789"
theorem nums_mem : ∀ c : Nat, decide (c ∈ nums.cps.toList) = decide (48 ≤ c ∧ c ≤ 57) := by
  intro c
  have h : nums.cps.toList = (List.range 10).map (· + 48) := by decide +kernel
  rw [h]
  refine decide_eq_decide.mpr ⟨fun h => ?_, fun h => ?_⟩
  · obtain ⟨i, hi, rfl⟩ := List.mem_map.mp h
    have := List.mem_range.mp hi
    omega
  · exact List.mem_map.mpr ⟨c - 48, List.mem_range.mpr (by omega), by omega⟩
theorem snocV' {α : Type} {l : List α} {i : Nat} {c : α} (h : l[i]? = some c) : l.take (i + 1) = l.take i ++ [c] := by
  rw [List.take_succ, h]
  rfl
/-- the signs of which p does not hold, as a list of texts -/
def oddP (p : Nat → Bool) (z : Str) : List Str := (z.cps.toList.filter fun c => !p c).map fun c => (⟨#[c]⟩ : Str)
theorem oddP_none (p : Nat → Bool) (z : Str) : decide (oddP p z = []) = z.cps.toList.all p := by
  unfold oddP
  induction z.cps.toList with
  | nil => rfl
  | cons c r ih =>
    rw [List.all_cons, List.filter_cons]
    cases h : p c with
    | true =>
      rw [if_neg (by simp), Bool.true_and]
      exact ih
    | false =>
      rw [if_pos (show (!false) = true from rfl), Bool.false_and]
      exact decide_eq_false fun e => nomatch e
theorem oddP_ok {p : Nat → Bool} {z : Str} (zo : PyData.strOk z = true) : ∀ y ∈ oddP p z, PyData.strOk y = true := fun y hy => by
  obtain ⟨c, hc, rfl⟩ := List.mem_map.mp hy
  have hm : c ∈ z.cps.toList := (List.mem_filter.mp hc).1
  unfold PyData.strOk at zo ⊢
  rw [Array.all_eq_true'] at zo
  have := zo c (Array.mem_toList_iff.mp hm)
  simpa using this
theorem signs_run {z : Str} {p : Nat → Bool} {j : Nat} {tt : TT} {σ : L2.St} {H : Hp} {L : Addr} {Qd : Hp → Prop} (nL : H L = none) (zl : z.length ≤ 14000) (hw : ∀ c : Nat, wipe ((wipe σ [j]).set j (some (.str ⟨#[c]⟩))) [j] = wipe σ [j]) (hg : ∀ c : Nat, ((wipe σ [j]).set j (some (.str ⟨#[c]⟩)))[j]? = some (some (.str ⟨#[c]⟩)))
    (ht : ∀ (c : Nat) (H' : Hp) (R : Bool → Hp → Prop), R (!p c) H' → tt ((wipe σ [j]).set j (some (.str ⟨#[c]⟩))) H' R) (k : ∀ H', Same H H' → H' L = some (.lst ((oddP p z).map V.str)) → Qd H') :
    ∃ W : Nat → Nat → Hp → Prop, (∃ m, W 0 m (upd H L (.lst []))) ∧ ∀ i m H, W i m H →
      ((Its z).stop i H ∧ Qd H) ∨ ((Its z).go i H ∧ ∃ Nx : Hp → Prop, (∀ H', Nx H' → ∃ m', m' < m ∧ W (i + 1) m' H') ∧ ∀ x H', (Its z).yld i H x H' → gName j x (wipe σ [j]) H' fun σ2 H2 => wipe σ2 [j] = wipe σ [j] ∧ tt σ2 H2 fun b H3 =>
        if b = true then tVar j σ2 H3 fun y H4 => ∃ acc, H4 L = some (.lst acc) ∧ acc.length < sizeLine ∧ Nx (upd H4 L (.lst (acc ++ [y]))) else Nx H3) := by
  refine lc_str (z := z) (fun i H' => Same H H' ∧ H' L = some (.lst ((((z.cps.toList.take i).filter fun c => !p c).map fun c => (⟨#[c]⟩ : Str)).map V.str))) ⟨same_upd nL, upd_same⟩ (fun i c H' hc h => ?_) fun H' h => ?_
  · obtain ⟨s1, hL⟩ := h
    refine ⟨hw c, ht c H' _ ?_⟩
    have lc : z.cps.toList.length ≤ 14000 := zl
    have tk : z.cps.toList.take (i + 1) = z.cps.toList.take i ++ [c] := snocV' hc
    cases hl : p c with
    | true =>
      refine iteF ⟨s1, ?_⟩
      rw [tk, List.filter_append, List.filter_cons, hl]
      rw [show (if (!true) = true then c :: List.filter (fun c => !p c) [] else List.filter (fun c => !p c) []) = [] from rfl, List.append_nil]
      exact hL
    | false =>
      refine iteT ?_
      refine (val_var (hg c)) _ ⟨_, hL, ?_, ?_, ?_⟩
      · rw [List.length_map, List.length_map]
        refine Nat.lt_of_le_of_lt (List.length_filter_le ..) ?_
        exact Nat.lt_of_le_of_lt (List.length_take_le' ..) (Nat.lt_of_le_of_lt lc (by decide))
      · intro b o e
        rw [upd_ne (ne_of_none e nL)]
        exact s1 _ _ e
      · rw [upd_same, tk, List.filter_append, List.filter_cons, hl]
        rw [show (if (!false) = true then c :: List.filter (fun c => !p c) [] else List.filter (fun c => !p c) []) = [c] from rfl, List.map_append, List.map_append]
        rfl
  · obtain ⟨s1, hL⟩ := h
    rw [show z.cps.toList.take z.cps.size = z.cps.toList from List.take_of_length_le (by rw [Array.length_toList]; exact Nat.le_refl _)] at hL
    exact k H' s1 hL
theorem tst_open {r : R2} {ta tb : TE} {σ : L2.St} {H : Hp} {Q : Bool → Hp → Prop} (h : ta σ H fun x H1 => tb σ H1 fun y H2 => r x y H2 fun v H' => ∃ k, v = .bl k ∧ Q k H') : tTest (tOp r ta tb) σ H Q := h
/-- [s for s in z if s not in A] -/
theorem signs_lc {z : Str} {p : Nat → Bool} {j : Nat} {te : TE} {tt : TT} {σ : L2.St} {H : Hp} {Q : VK} (hz : Val te σ H (.str z)) (zl : z.length ≤ 14000) (hw : ∀ c : Nat, wipe ((wipe σ [j]).set j (some (.str ⟨#[c]⟩))) [j] = wipe σ [j]) (hg : ∀ c : Nat, ((wipe σ [j]).set j (some (.str ⟨#[c]⟩)))[j]? = some (some (.str ⟨#[c]⟩)))
    (ht : ∀ (c : Nat) (H' : Hp) (R : Bool → Hp → Prop), R (!p c) H' → tt ((wipe σ [j]).set j (some (.str ⟨#[c]⟩))) H' R) (k : ∀ L H', Same H H' → H' L = some (.lst ((oddP p z).map V.str)) → Q (.ref L) H') : tLc (iStr te) (gName j) tt (tVar j) [j] σ H Q := by
  unfold tLc iStr
  exact hz _ ⟨z, rfl, fun L nL => signs_run nL zl hw hg ht fun H' s h => k L H' s h⟩
/-! ### numbers -/
def isDig (c : Nat) : Bool := decide (48 ≤ c ∧ c ≤ 57)
def allDig (z : Str) : Bool := z.cps.toList.all isDig
def lNum (z : Str) : Option Nat := if z = "" ∨ 9 < z.length ∨ allDig z = false then none else if 1 < z.length ∧ z.cps.toList.head? = some 48 then none else some (PySem.NumText.digitsVal z.cps.toList)
def optV : Option Nat → V
  | none => .non
  | some n => .int (n : Nat)
def spLNum : Sp := fun vs H Q _ => ∃ z : Str, vs = [.str z] ∧ z.length ≤ 14000 ∧ PyData.strOk z = true ∧ ∀ H', Same H H' → Q (optV (lNum z)) H'
abbrev s__law_number : Stmt := topS 32
theorem sc__law_number : FnScope ["_law_word", "_law_sign"] ["_law_word"] (defScope s__law_number) := ⟨rfl, rfl, rfl, by decide +kernel, rfl, by decide +kernel, by decide +kernel⟩
theorem intText_lnum {z : Str} {n : Nat} (h : lNum z = some n) : PySem.intText? z = some (n : Int) ∧ z.length ≤ 9 := by
  unfold lNum at h
  split at h
  · cases h
  · rename_i c
    split at h
    · cases h
    · rw [← Option.some.inj h]
      have c2 : z.length ≤ 9 := by
        have : ¬ 9 < z.length := fun x => c (.inr (.inl x))
        omega
      refine ⟨PySem.intText_digits (fun d hd => ?_) (fun e => ?_) (by omega), c2⟩
      · have hA : allDig z = true := by
          cases q : allDig z with
          | true => rfl
          | false => exact absurd (.inr (.inr q)) c
        unfold allDig at hA
        exact of_decide_eq_true (List.all_eq_true.mp hA d hd)
      · refine c (.inl (len_zero ?_))
        have : z.cps.toList.length = 0 := by rw [e]; rfl
        exact this
section
variable {P : Program} {w : World} {K : PySem.W.Frag} {mg : Str → Option Value} {base : Heap}
theorem ok__law_number {f : Addr} {fd : FuncData} (B : Bt mg) (D : Df K mg "_law_number" s__law_number f fd ["_law_word"]) : FnOk P w K mg base CX0 1 f fd ["_law_word"] spLNum := by
  refine D.F.ok sc__law_number (fun vs H Q E h => ?_) (fun cdv A outer s H vs Q E hr h => ?_)
  · obtain ⟨z, rfl, _⟩ := h
    rfl
  · obtain ⟨z, rfl, zl, zo, k⟩ := h
    have S := sc__law_number
    have hu := hr.units
    refine ⟨_, (pss_cons (ps_if (PW.pt (pw_or (pt_cmpR op_eq (pv 0) pe_str (nomark _)) (pw_or (pt_cmpR op_gt (pe_callB call_len_str (by rfl) B.m_len PySem.boot_len (pa_cons (pv 0) pa_nil)) pe_int (nomark _)) (pw_or1 (pt_cmpR (op_neD (by exact hu)) (pe_lc (own := [("_law_sign", 1)]) (g := gName 1) rfl S.nd (pi_str (pv 0)) (blkOk_by (own := [("_law_sign", 1)]) (N := ["_law_word", "_law_sign"]) (sc := defScope s__law_number) (by decide +kernel)) (fun _ _ _ _ _ => pg_name (i := 1) S.nd rfl (Or.inl rfl)) (fun _ _ _ _ _ => pts_one (pt_cmpR op_notIn_str (pv 1) pe_str (by rfl))) (fun _ _ _ _ _ => pv 1)) (pe_lst pa_nil) (nomark _))))))
        (pss_one (ps_ret pe_non))
        pss_nil)
      (pss_one (ps_ret (pe_ifExp (PW.pt (pw_and (pt_cmpR op_gt (pe_callB call_len_str (by rfl) B.m_len PySem.boot_len (pa_cons (pv 0) pa_nil)) pe_int (nomark _)) (pw_and1 (pt_cmpR op_eq (pe_item_str (pv 0) pe_int (fun _ _ => rfl)) pe_str (nomark _))))) pe_non (pe_callTy call_int_str (by rfl) B.m_int PyProof.Rows.boot_int (pa_cons (pv 0) pa_nil)))))), ?_⟩
    have vl : ∀ H', Val (tCB rLenS (tCons (tVar 0) tNil)) [some (.str z), none] H' (.int z.length) := fun H' => val_lenS (val_var rfl) (big_size (by omega))
    dsimp only [tSeq, tIfS, tOr]
    refine (ans_eq2 (val_var rfl) val_c rfl) _ ?_
    by_cases c0 : z = ""
    · rw [decide_eq_true (by rw [c0])]
      have e : lNum z = none := if_pos (.inl c0)
      rw [e] at k
      exact iteT (iteT (val_c _ (k H (Same.refl _))))
    · rw [decide_eq_false (fun e => c0 (V.str.inj e))]
      refine iteF ?_
      refine (ansI (i := z.length) (j := 9) (vl _) val_c) _ ?_
      by_cases c9 : 9 < z.length
      · rw [decide_eq_true (by omega)]
        have e : lNum z = none := if_pos (.inr (.inl c9))
        rw [e] at k
        exact iteT (iteT (val_c _ (k H (Same.refl _))))
      · rw [decide_eq_false (by omega)]
        refine iteF ?_
        refine tst_open (signs_lc (p := isDig) (val_var rfl) zl (fun c => rfl) (fun c => rfl) (fun c H' R r => ?_) fun L H1 s1 hL => ?_)
        · refine tst_open ?_
          refine (val_var rfl) _ (val_c _ ⟨⟨#[c]⟩, nums, rfl, rfl, _, rfl, ?_⟩)
          rw [PySem.StrLaws.found_one, nums_mem]
          exact r
        · dsimp only [tLst, tNil]
          refine ⟨Nat.zero_le _, fun r nr => ?_⟩
          have s2 := same_upd (o := .lst []) nr
          refine ⟨.list ((oddP isDig z).map PyData.str), .list [], .lst (SqL.of (s2 _ _ hL)) dp_strs, .lst (SqL.of upd_same) .nil, lst_shaped (oddP_ok zo), by decide, _, rfl, ?_⟩
          have s12 := s1.trans s2
          generalize (upd H1 r (.lst [])) = H2 at s12 ⊢
          rw [eqv_nil, oddP_none]
          cases ca : z.cps.toList.all isDig with
          | false =>
            have e : lNum z = none := if_pos (.inr (.inr ca))
            rw [e] at k
            exact iteT (val_c _ (k _ s12))
          | true =>
            refine iteF ?_
            have e0 : lNum z = if 1 < z.length ∧ z.cps.toList.head? = some 48 then none else some (PySem.NumText.digitsVal z.cps.toList) := if_neg fun h => by
              rcases h with h | h | h
              · exact c0 h
              · exact c9 h
              · rw [show allDig z = true from ca] at h
                cases h
            dsimp only [tNext, tRet, tIf, tAnd]
            refine (ansI (i := z.length) (j := 1) (vl _) val_c) _ ?_
            have fin : ∀ n, lNum z = some n → tCB (fun xs H Q => ∃ a n, xs = [.str a] ∧ PySem.intText? a = some n ∧ a.length ≤ 640 ∧ Q (.int n) H) (tCons (tVar 0) tNil) [some (.str z), none] H2 Q := fun n hn => by
              obtain ⟨h1, h2⟩ := intText_lnum hn
              rw [hn] at k
              exact (val_intS (val_var rfl) h1 (by omega)) _ (k _ s12)
            by_cases c1 : 1 < z.length
            · rw [decide_eq_true (by omega)]
              refine iteT ?_
              obtain ⟨c, r2, ez⟩ : ∃ c r, z.cps.toList = c :: r := by
                cases q : z.cps.toList with
                | nil =>
                  have : z.cps.toList.length = 0 := by rw [q]; rfl
                  have h2 : z.length = 0 := this
                  omega
                | cons c r => exact ⟨c, r, rfl⟩
              have hc : z.cps[(0 : Int).toNat]? = some c := by
                rw [← Array.getElem?_toList, ez]
                rfl
              have vi : Val (tOp (fun x y H Q => ∃ z i c, x = .str z ∧ y = .int i ∧ 0 ≤ i ∧ i < 2 ^ 63 ∧ i < z.length ∧ z.cps[i.toNat]? = some c ∧ Q (.str ⟨#[c]⟩) H) (tVar 0) (tC (.int 0))) [some (.str z), none] H2 (.str ⟨#[c]⟩) :=
                val_op (val_var rfl) val_c fun Q q => ⟨z, 0, c, rfl, rfl, by decide, by decide, by omega, hc, q⟩
              refine (ans_eq2 vi val_c rfl) _ ?_
              by_cases c48 : c = 48
              · rw [c48, decide_eq_true (show V.str ⟨#[48]⟩ = V.str "0" from rfl)]
                rw [if_pos ⟨c1, by rw [ez, c48]; rfl⟩] at e0
                rw [e0] at k
                exact iteT (val_c _ (k _ s12))
              · rw [decide_eq_false (fun e => c48 (by
                  have e2 := V.str.inj e
                  have e3 : (#[c] : Array Nat) = #[48] := congrArg Str.cps e2
                  injection e3 with e3
                  injection e3))]
                rw [if_neg (fun h => c48 (by rw [ez] at h; exact Option.some.inj h.2))] at e0
                exact iteF (fin _ e0)
            · rw [decide_eq_false (by omega)]
              refine iteF (iteF ?_)
              rw [if_neg (fun h => c1 h.1)] at e0
              exact fin _ e0
end
end K5
namespace K5
open PySem PySem.Spec PyProof.Rows L2
/-! ### words of a line, worths and answers, by the law -/
def lRest (z : Str) : Str := Txt.lstripChars z " "
def lWords (z : Str) (dp : Nat) : Option (List Str) := if (z.length : Int) - ((lRest z).length : Int) ≠ 2 * (dp : Nat) ∨ ("" : Str) ∈ Txt.split (lRest z) " " then none else some (Txt.split (lRest z) " ")
def OW (H : Hp) (x : V) : Option (List Str) → Prop
  | none => x = .non
  | some ws => ∃ p, x = .ref p ∧ H p = some (.lst (ws.map V.str))
def spLWords : Sp := fun vs H Q _ => ∃ (z : Str) (dp : Nat), vs = [.str z, .int dp] ∧ z.length ≤ 14000 ∧ dp ≤ 3 ∧ ∀ (H' : Hp) (x : V), Same H H' → OW H' x (lWords z dp) → Q x H'
def lWorths (m : Nat) (z : Str) : List Int := if z = "any" then (List.range m).map Int.ofNat else match lNum z with
  | some n => if n < m then [(n : Int)] else []
  | none => []
def lAnswers (m : Nat) (z : Str) : List Int := if z = "lost" then [-1] else if z = "busy" then [-2] else lWorths m z
def spLList (f : Nat → Str → List Int) : Sp := fun vs H Q _ => ∃ (m : Nat) (z : Str), vs = [.int m, .str z] ∧ m ≤ 4 ∧ z.length ≤ 14000 ∧ PyData.strOk z = true ∧ ∀ (H' : Hp) (p : Addr), Same H H' → H p = none → H' p = some (.lst ((f m z).map V.int)) → Q (.ref p) H'
abbrev s__law_words_at : Stmt := topS 33
theorem sc__law_words_at : FnScope ["_law_line", "_law_deep", "_law_rest", "_law_words"] ["_law_line", "_law_deep"] (defScope s__law_words_at) := ⟨rfl, rfl, rfl, by decide +kernel, rfl, by decide +kernel, by decide +kernel⟩
abbrev s__law_worths_in : Stmt := topS 34
theorem sc__law_worths_in : FnScope ["_law_worths", "_law_word", "_law_number_here"] ["_law_worths", "_law_word"] (defScope s__law_worths_in) := ⟨rfl, rfl, rfl, by decide +kernel, rfl, by decide +kernel, by decide +kernel⟩
abbrev s__law_answers_in : Stmt := topS 35
theorem sc__law_answers_in : FnScope ["_law_worths", "_law_word"] ["_law_worths", "_law_word"] (defScope s__law_answers_in) := ⟨rfl, rfl, rfl, by decide +kernel, rfl, by decide +kernel, by decide +kernel⟩
section
variable {P : Program} {w : World} {K : PySem.W.Frag} {mg : Str → Option Value} {base : Heap}
theorem ok__law_words_at {f : Addr} {fd : FuncData} (B : Bt mg) (D : Df K mg "_law_words_at" s__law_words_at f fd ["_law_line", "_law_deep"]) : FnOk P w K mg base CX0 1 f fd ["_law_line", "_law_deep"] spLWords := by
  refine D.F.ok sc__law_words_at (fun vs H Q E h => ?_) (fun cdv A outer s H vs Q E hr h => ?_)
  · obtain ⟨z, dp, rfl, _⟩ := h
    rfl
  · obtain ⟨z, dp, rfl, zl, d3, k⟩ := h
    have rl : (lRest z).length ≤ z.length := PyProof.Rows.len_lstripChars z " "
    have S := sc__law_words_at
    refine ⟨_, (pss_cons (ps_set (i := 2) S.nd rfl (.inl rfl) (pe_bm PySem.F.plainAttrs_str PySem.F.slot_str_lstrip PySem.F.type_str_lstrip mt_lstripChars (pv 0) (pa_cons pe_str pa_nil)))
      (pss_cons (ps_set (i := 3) S.nd rfl (.inl rfl) (pe_bm PySem.F.plainAttrs_str PySem.F.slot_str_split PySem.F.type_str_split mt_split (pv 2) (pa_cons pe_str pa_nil)))
      (pss_one (ps_ret (pe_ifExp (PW.pt (pw_or (pt_cmpR op_ne (pe_op op_sub (pe_callB call_len_str (by rfl) B.m_len PySem.boot_len (pa_cons (pv 0) pa_nil)) (pe_callB call_len_str (by rfl) B.m_len PySem.boot_len (pa_cons (pv 2) pa_nil))) (pe_op op_mul pe_int (pv 1)) (nomark _)) (pw_or1 (pt_cmpR op_in_seq pe_str (pv 3) (by rfl))))) pe_non (pv 3)))))), ?_⟩
    dsimp only [tSeq, tAsg]
    refine ⟨_, rfl, rfl, z, " ", rfl, rfl, big_size (by omega), ?_⟩
    dsimp only [gName]
    refine ⟨_, rfl, rfl, lRest z, " ", rfl, rfl, by decide +kernel, big_size (by omega), fun p np => ?_⟩
    have hp : (upd H p (.lst ((Txt.split (lRest z) " ").map V.str))) p = some (.lst ((Txt.split (lRest z) " ").map V.str)) := upd_same
    have s1 := same_upd (o := .lst ((Txt.split (lRest z) " ").map V.str)) np
    generalize (upd H p (.lst ((Txt.split (lRest z) " ").map V.str))) = H1 at hp s1 ⊢
    dsimp only [gName, tNext, tRet, tIf, tOr]
    have rl : (lRest z).length ≤ z.length := PyProof.Rows.len_lstripChars z " "
    have v1 : Val (tOp (rI0 fun i j => .int (i - j)) (tCB rLenS (tCons (tVar 0) tNil)) (tCB rLenS (tCons (tVar 2) tNil))) [some (.str z), some (.int dp), some (.str (lRest z)), some (.ref p)] H1 (.int ((z.length : Int) - ((lRest z).length : Int))) :=
      val_i0 (val_lenS (val_var rfl) (big_size (by omega))) (val_lenS (val_var rfl) (big_size (by omega)))
    have v2 : Val (tOp (rI CMul fun i j => .int (i * j)) (tC (.int 2)) (tVar 1)) [some (.str z), some (.int dp), some (.str (lRest z)), some (.ref p)] H1 (.int (2 * (dp : Nat))) := val_iC val_c (val_var rfl) (.inl ⟨by decide, by decide⟩)
    refine (ans_cmp v1 v2 fun Q q => ⟨rfl, q⟩) _ ?_
    by_cases c1 : (z.length : Int) - ((lRest z).length : Int) = 2 * (dp : Nat)
    · rw [c1, decide_eq_true rfl]
      refine iteF ?_
      refine tst_open ?_
      refine val_c _ ((val_var rfl) _ ⟨p, _, rfl, .inl (SqL.of hp), rfl, ?_, _, rfl, ?_⟩)
      · rw [List.all_map, List.all_eq_true]
        intro z hz
        rfl
      · rw [inV_strs]
        by_cases c2 : ("" : Str) ∈ Txt.split (lRest z) " "
        · have e : lWords z dp = none := if_pos (.inr c2)
          rw [e] at k
          rw [decide_eq_true c2]
          exact iteT (val_c _ (k _ _ s1 rfl))
        · have e : lWords z dp = some (Txt.split (lRest z) " ") := if_neg fun h => h.elim (fun h => h c1) c2
          rw [e] at k
          rw [decide_eq_false c2]
          exact iteF ((val_var rfl) _ (k _ _ s1 ⟨p, rfl, hp⟩))
    · have e : lWords z dp = none := if_pos (.inl c1)
      rw [e] at k
      rw [decide_eq_false (fun h => c1 (V.int.inj h))]
      exact iteT (iteT (val_c _ (k _ _ s1 rfl)))
theorem ok__law_worths_in {f fN : Addr} {fd dN : FuncData} (B : Bt mg) (D : Df K mg "_law_worths_in" s__law_worths_in f fd ["_law_worths", "_law_word"]) (Dn : Df K mg "_law_number" s__law_number fN dN ["_law_word"]) : FnOk P w K mg base CX0 2 f fd ["_law_worths", "_law_word"] (spLList lWorths) := by
  have Gn : FnOk P w K mg base CX0 1 fN dN ["_law_word"] spLNum := ok__law_number B Dn
  refine D.F.ok sc__law_worths_in (fun vs H Q E h => ?_) (fun cdv A outer s H vs Q E hr h => ?_)
  · obtain ⟨m, z, rfl, _⟩ := h
    rfl
  · obtain ⟨m, z, rfl, m4, zl, zo, k⟩ := h
    have S := sc__law_worths_in
    refine ⟨_, (pss_cons (ps_if (pt_cmpR op_eq (pv 1) pe_str (nomark _))
        (pss_one (ps_ret (pe_listRg (by rfl) (by rfl) B.m_list (prg_1 (by rfl) B.m_range (pv 0)))))
        pss_nil)
      (pss_cons (ps_set (i := 2) S.nd rfl (.inl rfl) (pe_call Gn (hr.mono (by decide)) (by rfl) Dn.g Dn.F.kp Dn.b .nil pass0 (pa_cons (pv 1) pa_nil)))
      (pss_one (ps_ret (pe_ifExp (PW.pt (pw_and (pt_cmpR op_notN1 (pv 2) pe_non (nomark _)) (pw_and1 (pt_cmpR op_lt (pv 2) (pv 0) (nomark _))))) (pe_lst (pa_cons (pv 2) pa_nil)) (pe_lst pa_nil)))))), ?_⟩
    refine (ans_eq2 (val_var rfl) val_c rfl) _ ?_
    by_cases c : z = "any"
    · subst c
      rw [decide_eq_true rfl]
      refine iteT ?_
      dsimp only [tRet, tLstRg, tRg1]
      refine (val_var (v := .int (m : Nat)) rfl) _ ⟨_, rfl, RgOk.of_le (by decide) (by omega) (by decide) (by omega), fun q nq => ?_⟩
      refine k _ q (same_upd nq) nq ?_
      rw [upd_same]
      have e : lWorths m "any" = (List.range m).map Int.ofNat := if_pos rfl
      rw [e]
      unfold rgV
      rw [List.map_map, show ((m : Int) - 0).toNat = m by omega]
      congr 2
      refine List.map_congr_left fun i _ => ?_
      show V.int (0 + (i : Int)) = V.int (i : Int)
      rw [Int.zero_add]
    · rw [decide_eq_false (fun e => c (V.str.inj e))]
      refine iteF ?_
      dsimp only [tNext, tSeq, tAsg]
      dsimp only [tCall, tCons, tNil]
      refine (val_var rfl) _ ⟨z, rfl, zl, zo, fun H1 s1 => ?_⟩
      have e : lWorths m z = match lNum z with
        | some n => if n < m then [(n : Int)] else []
        | none => [] := if_neg c
      rw [e] at k
      dsimp only [gName, tRet, tIf, tAnd]
      cases q : lNum z with
      | none =>
        rw [q] at k
        refine (ans_cmp (b := false) (val_var (v := .non) rfl) val_c fun Q q => ⟨rfl, q⟩) _ (iteF (iteF ?_))
        exact ⟨Nat.zero_le _, fun p np => k _ p (s1.trans (same_upd np)) (s1.free np) upd_same⟩
      | some n =>
        rw [q] at k
        refine (ans_cmp (b := true) (val_var (v := .int (n : Nat)) rfl) val_c fun Q q => ⟨rfl, q⟩) _ (iteT ?_)
        refine (ansI (i := (n : Nat)) (j := (m : Nat)) (val_var rfl) (val_var rfl)) _ ?_
        by_cases c2 : n < m
        · rw [decide_eq_true (by omega)]
          have k : ∀ (H' : Hp) (p : Addr), Same H H' → H p = none → H' p = some (.lst ((if n < m then [(n : Int)] else []).map V.int)) → Q (.ref p) H' := k
          rw [if_pos c2] at k
          exact iteT ((val_var rfl) _ ⟨by show 1 ≤ sizeLine; decide, fun p np => k _ p (s1.trans (same_upd np)) (s1.free np) upd_same⟩)
        · rw [decide_eq_false (by omega)]
          have k : ∀ (H' : Hp) (p : Addr), Same H H' → H p = none → H' p = some (.lst ((if n < m then [(n : Int)] else []).map V.int)) → Q (.ref p) H' := k
          rw [if_neg c2] at k
          exact iteF ⟨Nat.zero_le _, fun p np => k _ p (s1.trans (same_upd np)) (s1.free np) upd_same⟩
theorem ok__law_answers_in {f fW : Addr} {fd dW : FuncData} (D : Df K mg "_law_answers_in" s__law_answers_in f fd ["_law_worths", "_law_word"]) (Dw : Df K mg "_law_worths_in" s__law_worths_in fW dW ["_law_worths", "_law_word"]) (Gw : FnOk P w K mg base CX0 2 fW dW ["_law_worths", "_law_word"] (spLList lWorths)) :
    FnOk P w K mg base CX0 3 f fd ["_law_worths", "_law_word"] (spLList lAnswers) := by
  refine D.F.ok sc__law_answers_in (fun vs H Q E h => ?_) (fun cdv A outer s H vs Q E hr h => ?_)
  · obtain ⟨m, z, rfl, _⟩ := h
    rfl
  · obtain ⟨m, z, rfl, m4, zl, zo, k⟩ := h
    have S := sc__law_answers_in
    refine ⟨_, (pss_one (ps_ret (pe_ifExp (pt_cmpR op_eq (pv 1) pe_str (nomark _)) (pe_lst (pa_cons (pe_un un_neg pe_int) pa_nil)) (pe_ifExp (pt_cmpR op_eq (pv 1) pe_str (nomark _)) (pe_lst (pa_cons (pe_un un_neg pe_int) pa_nil)) (pe_call Gw (hr.mono (by decide)) (by rfl) Dw.g Dw.F.kp Dw.b .nil pass0 (pa_cons (pv 0) (pa_cons (pv 1) pa_nil))))))), ?_⟩
    dsimp only [tRet, tIf]
    refine (ans_eq2 (val_var rfl) val_c rfl) _ ?_
    by_cases c : z = "lost"
    · rw [decide_eq_true (by rw [c])]
      have e : lAnswers m z = [-1] := if_pos c
      rw [e] at k
      refine iteT ?_
      dsimp only [tLst, tCons, tNil]
      exact (val_neg val_c) _ ⟨by show 1 ≤ sizeLine; decide, fun p np => k _ p (same_upd np) np upd_same⟩
    · rw [decide_eq_false (fun e => c (V.str.inj e))]
      refine iteF ((ans_eq2 (val_var rfl) val_c rfl) _ ?_)
      by_cases c2 : z = "busy"
      · rw [decide_eq_true (by rw [c2])]
        have e : lAnswers m z = [-2] := by
          unfold lAnswers
          rw [if_neg c, if_pos c2]
        rw [e] at k
        refine iteT ?_
        dsimp only [tLst, tCons, tNil]
        exact (val_neg val_c) _ ⟨by show 1 ≤ sizeLine; decide, fun p np => k _ p (same_upd np) np upd_same⟩
      · rw [decide_eq_false (fun e => c2 (V.str.inj e))]
        have e : lAnswers m z = lWorths m z := by
          unfold lAnswers
          rw [if_neg c, if_neg c2]
        rw [e] at k
        refine iteF ?_
        dsimp only [tCall, tCons, tNil]
        exact (val_var rfl) _ ((val_var rfl) _ ⟨m, z, rfl, m4, zl, zo, k⟩)
end
end K5
namespace K5
open PySem PySem.Spec PyProof.Rows L2
/-! ### xs[k::2] -/
def ev2 {α : Type} : List α → List α
  | [] => []
  | [x] => [x]
  | x :: _ :: r => x :: ev2 r
theorem ev2_pick {α : Type} : ∀ l : List α, ((List.range ((l.length + 1) / 2)).filterMap fun j => l[2 * j]?) = ev2 l
  | [] => by
    have e : (([] : List α).length + 1) / 2 = 0 := by simp
    rw [e]
    rfl
  | [x] => by
    have e : ([x].length + 1) / 2 = 1 := by simp
    rw [e]
    rfl
  | x :: y :: r => by
    have e : ((x :: y :: r).length + 1) / 2 = (r.length + 1) / 2 + 1 := by
      show (r.length + 1 + 1 + 1) / 2 = _
      omega
    rw [e, List.range_succ_eq_map, List.filterMap_cons]
    show x :: List.filterMap _ (List.map Nat.succ (List.range ((r.length + 1) / 2))) = x :: ev2 r
    rw [List.filterMap_map, ← ev2_pick r]
    rfl
theorem fm_same {α β : Type} {f g : α → Option β} : ∀ {l : List α}, (∀ m ∈ l, f m = g m) → l.filterMap f = l.filterMap g
  | [], _ => rfl
  | x :: l, h => by
    rw [List.filterMap_cons, List.filterMap_cons, h x (List.mem_cons_self ..), fm_same fun m hm => h m (List.mem_cons_of_mem _ hm)]
theorem pick_step (items : Array Value) (k : Nat) : slicePick items (some (k : Int)) none (some 2) = (ev2 (items.toList.drop k)).toArray := by
  have eb : sliceBounds (some (k : Int)) none (some 2) items.size = (((min k items.size : Nat) : Int), (items.size : Int), 2) := by
    unfold sliceBounds
    simp only [Option.getD_some]
    have h1 : ¬ ((k : Int) < 0) := by omega
    simp only [h1, if_false]
    rw [if_pos (by decide), if_pos (by decide)]
    refine Prod.ext ?_ rfl
    show max 0 (min (k : Int) (items.size : Int)) = ((min k items.size : Nat) : Int)
    omega
  unfold slicePick
  rw [eb]
  congr 1
  unfold sliceRange
  dsimp only
  rw [if_pos (by decide : (2 : Int) > 0), List.filterMap_map]
  rw [← ev2_pick (items.toList.drop k)]
  have hl : (items.toList.drop k).length = items.size - k := by rw [List.length_drop, Array.length_toList]
  rw [hl]
  have hc : (if ((min k items.size : Nat) : Int) < (items.size : Int) then ((items.size : Int) - ((min k items.size : Nat) : Int) + 2 - 1) / 2 else 0).toNat = (items.size - k + 1) / 2 := by
    split <;> omega
  rw [hc]
  refine fm_same fun j hj => ?_
  have hj := List.mem_range.mp hj
  show items[(((min k items.size : Nat) : Int) + 2 * (j : Int)).toNat]? = (items.toList.drop k)[2 * j]?
  rw [List.getElem?_drop, Array.getElem?_toList]
  congr 1
  omega
theorem ev2_len {α : Type} : ∀ l : List α, (ev2 l).length ≤ l.length
  | [] => Nat.le_refl _
  | [_] => Nat.le_refl _
  | _ :: _ :: r => by
    have := ev2_len r
    show (ev2 r).length + 1 ≤ r.length + 1 + 1
    omega
theorem ev2_vals : ∀ {xs : List V} {us : List Value}, Vals xs us → Vals (ev2 xs) (ev2 us)
  | _, _, .nil => .nil
  | _, _, .cons a .nil => .cons a .nil
  | _, _, .cons a (.cons _ r) => .cons a (ev2_vals r)
def tStep2 (K : PySem.W.Frag) (k : Nat) (te : TE) : TE := fun σ H Q => te σ H fun x H1 => ∃ a xs, x = .ref a ∧ SqL K H1 a xs ∧ ∀ p, H1 p = none → Q (.ref p) (upd H1 p (.lst (ev2 (xs.drop k))))
theorem pe_step2 {X : Cx} {e : Expr} {te : TE} {k k1 k2 : Nat} {p1 p2 p3 pos : Pos} (he : PE X e te) : PE X (.Subscript e (.Slice (some (.Constant (.int (k : Nat)) k1 p1)) none (some (.Constant (.int 2) k2 p2)) p3) pos) (tStep2 X.K k te) := by
  refine ⟨fun pins s σ H Q I h => ?_⟩
  refine Subscript_ (thn (he.run pins s σ H _ I h) fun v s1 ⟨x, H1, I1, r1, q1⟩ => ?_)
  obtain ⟨a, xs, ex, hx, q⟩ := q1
  subst ex
  cases r1
  have hlo : PO X (some (.Constant (.int (k : Nat)) k1 p1)) (tPart (tC (.int (k : Nat)))) := po_some pe_int
  have hst : PO X (some (.Constant (.int 2) k2 p2)) (tPart (tC (.int 2))) := po_some pe_int
  refine wpAny_Slice (thn (hlo.run pins s1 σ H1 (fun o H2 => o = some ((k : Nat) : Int) ∧ H2 = H1) I1 ⟨_, rfl, rfl, rfl⟩) fun vl s2 ⟨l, H2, I2, pl, el, e2⟩ => ?_)
  subst el e2
  refine thn (po_none.run pins s2 σ H2 (fun o H3 => o = none ∧ H3 = H2) I2 ⟨rfl, rfl⟩) fun vu s3 ⟨u, H3, I3, pu, eu, e3⟩ => ?_
  subst eu e3
  refine thn (hst.run pins s3 σ H3 (fun o H4 => o = some 2 ∧ H4 = H3) I3 ⟨_, rfl, rfl, rfl⟩) fun vs s4 ⟨o, H4, I4, ps, eo, e4⟩ => ?_
  subst eo e4
  have I5 : L2.Inv X pins σ H4 { s4 with heap := s4.heap.push { cls := .type "slice", data := .fields #[vl, vu, vs] } } := I4.kept (t' := s4.toks) fun b ob q => Heap.get?_push_of_some _ q
  obtain ⟨its, r, ht, hz⟩ := I5.list hx
  have hlen := r.length
  show wpAny (model X.prog X.w) X.A (subscriptTail e (.Slice (some (.Constant (.int (k : Nat)) k1 p1)) none (some (.Constant (.int 2) k2 p2)) p3) (.ref a) (.ref s4.heap.objs.size)) (EP X pins σ Q) X.xe { s4 with heap := s4.heap.push { cls := .type "slice", data := .fields #[vl, vu, vs] } }
  refine tail_any (ops := [.ref a, .ref s4.heap.objs.size]) ht.isList.typeIs (slot_list_getitem.lookup) ?_ (by with_unfolding_all rfl)
  refine wpAny_getItem_list_slice ht.isList (Heap.IsSliceOf.new _ vl vu vs) pl pu ps (by simp) ?_ (by rw [List.size_toArray]; omega)
  rw [pick_step]
  refine ⟨.ref _, _, I5.laid (t' := s4.toks) (o := .lst (ev2 (xs.drop k))) (fun b ob q => Heap.get?_push_of_some _ q) (Nat.le_refl _) ?_, rfl, q _ (I5.hok.fresh (Nat.le_refl _))⟩
  refine ⟨Nat.le_trans (ev2_len _) (Nat.le_trans (by rw [List.length_drop]; exact Nat.sub_le ..) hz), _, 0, ev2_vals (r.drop k), Heap.get?_push_size _ rfl⟩
end K5
namespace K5
open PySem PySem.Spec PyProof.Rows L2
/-! ### d.update(e), dict(pairs) -/
section
variable {X : Cx}
def rUpdK : V → List V → Hp → VK → Prop := fun x xs H Q => ∃ (a b : Addr) (kvs more : List (Key × V)), x = .ref a ∧ xs = [.ref b] ∧ a ≠ b ∧ H a = some (.dK kvs) ∧ H b = some (.dK more) ∧ kvs.length + more.length ≤ sizeLine ∧ Q .non (upd H a (.dK (mergeK kvs more)))
theorem mt_updK : MtR X "dict.update" rUpdK := by
  intro pins s σ H x xs v us Q I rx rs h
  obtain ⟨a, b, kvs, more, rfl, rfl, ne, ha, hb, few, q⟩ := h
  obtain rfl : v = Value.ref a := rx
  obtain ⟨u, rfl, ru⟩ := rs.one
  obtain rfl : u = Value.ref b := ru
  obtain ⟨za, la, va, ra, da⟩ := dk_of I.hok ha
  obtain ⟨zb, lb, vb, rb, db⟩ := dk_of I.hok hb
  refine call_meetsIn PySem.F.slot_dict_update da.typeIs PySem.F.entry_dict_update (PySem.F.args_dict_update_2 _ _) (meets_dict_update (mixKind X.prog X.w) a b ne lb) ⟨va, vb, da, db, by rw [← ra.length, ← rb.length]; exact few, fun h' da' _ sb => ?_⟩
  have he : ∃ q, h'.get? a = some q := let ⟨q, _, _, hq, _⟩ := da'; ⟨q, hq⟩
  exact ⟨.non, _, d_write (t' := s.toks) I (by rw [ha]; exact True.intro) sb he (dk_new (Nat.le_trans (length_mergeK more kvs) few) la (KV.merge rb ra) da'), rfl, q⟩
def mergeT (kvs more : List (List Key × V)) : List (List Key × V) := more.foldl (fun acc kv => putK acc kv.1 kv.2) kvs
theorem length_mergeT : ∀ (more kvs : List (List Key × V)), (mergeT kvs more).length ≤ kvs.length + more.length
  | [], kvs => Nat.le_refl _
  | p :: r, kvs => by
    have h1 := length_mergeT r (putK kvs p.1 p.2)
    have h2 := length_putK kvs p.1 p.2
    show (mergeT (putK kvs p.1 p.2) r).length ≤ kvs.length + (r.length + 1)
    omega
theorem KT.merge {H : Hp} : ∀ {more : List (List Key × V)} {rs : List (List Key × Addr × Value)} {kvs : List (List Key × V)} {vs : List (List Key × Addr × Value)}, KT H more rs → KT H kvs vs → KT H (mergeT kvs more) (storedAllH vs rs)
  | [], _, _, _, .nil, h => h
  | p :: ps, _, _, _, .cons (b := x) (l₂ := xs) a t, h => by
    have e := h.put p.1 a.2.1 a.2.2
    have m := KT.merge t e
    show KT H (mergeT (putK _ p.1 p.2) ps) (storedAllH (storedH _ x.1 x.2.1 x.2.2) xs)
    rw [← a.1]
    exact m
theorem kt_of {H : Hp} : ∀ {kvs : List (List Key × V)} {xs : List (List Key × Addr × Value)}, xs.length = kvs.length → (∀ (j : Nat) (x : List Key × Addr × Value), xs[j]? = some x → ∃ p : List Key × V, kvs[j]? = some p ∧ p.1 = x.1 ∧ H x.2.1 = some (.tup (x.1.map kV)) ∧ RelV p.2 x.2.2) → KT H kvs xs
  | [], [], _, _ => .nil
  | [], _ :: _, e, _ => by cases e
  | _ :: _, [], e, _ => by cases e
  | p :: ps, x :: xs, e, h => by
    obtain ⟨p', h1, h2, h3, h4⟩ := h 0 x rfl
    obtain rfl : p = p' := Option.some.inj h1
    exact .cons ⟨h2, by rw [h2]; exact h3, h4⟩ (kt_of (Nat.succ.inj e) fun j y ey => h (j + 1) y ey)
theorem kt_keys {H : Hp} : ∀ {kvs : List (List Key × V)} {xs : List (List Key × Addr × Value)}, KT H kvs xs → kvs.map (·.1) = xs.map (·.1)
  | [], _, .nil => rfl
  | p :: ps, _, .cons a t => by rw [List.map_cons, List.map_cons, kt_keys t, a.1]
def rUpdT (P : Program) (w : World) : V → List V → Hp → VK → Prop := fun x xs H Q => ∃ (a b : Addr) (kvs more : List (List Key × V)), x = .ref a ∧ xs = [.ref b] ∧ a ≠ b ∧ H a = some (.dT kvs) ∧ H b = some (.dT more) ∧ kvs.length + more.length ≤ sizeLine ∧
  (kvs ≠ [] ∨ (more.map fun p => (tupleKind (mixKind P w)).hash p.1).Nodup) ∧ Q .non (upd H a (.dT (mergeT kvs more)))
theorem mt_updT (hu : X.A.units + 64 < cLine) : MtR X "dict.update" (rUpdT X.prog X.w) := by
  intro pins s σ H x xs v us Q I rx rs h
  obtain ⟨a, b, kvs, more, rfl, rfl, ne, ha, hb, few, hap, q⟩ := h
  obtain rfl : v = Value.ref a := rx
  obtain ⟨u, rfl, ru⟩ := rs.one
  obtain rfl : u = Value.ref b := ru
  obtain ⟨za, la, va, ra, da⟩ := dt_of I.hok ha
  obtain ⟨zb, lb, vb, rb, db⟩ := dt_of I.hok hb
  have e1 : kvs.length = va.length := Paired.length ra
  have e2 : more.length = vb.length := Paired.length rb
  refine call_update_dictH (tupleKind_room_in1 (by omega)) ne lb da db ?_ (by omega) fun h' da' _ sb => ?_
  · rcases hap with h | h
    · refine .inl fun c => h ?_
      rw [c] at e1
      exact List.eq_nil_of_length_eq_zero e1
    · refine .inr ⟨fun x hx => ?_, ?_⟩
      · obtain ⟨o, es, ep, h1, h2, h3, h4, h5, h6⟩ := db
        obtain ⟨ob, its, n, g1, g2, g3⟩ := h5 x hx
        exact ⟨ob, g1, g2⟩
      · have e3 := congrArg (List.map (tupleKind (mixKind X.prog X.w)).hash) (kt_keys rb)
        rw [List.map_map, List.map_map] at e3
        have h : (List.map ((tupleKind (mixKind X.prog X.w)).hash ∘ fun x => x.1) more).Nodup := h
        rw [e3] at h
        exact h
  · obtain ⟨q', es, ep, hq, h2, h3, h4, _, h5⟩ := da'
    refine ⟨.non, _, d_write (t' := s.toks) (ob := .dT (mergeT kvs more)) I (by rw [ha]; exact True.intro) sb ⟨q', hq⟩ ⟨Nat.le_trans (length_mergeT more kvs) few, la, _, (KT.merge rb ra).keeps fun c ys ec => ?_, q', es, ep, hq, h2, h3, h4, h5⟩, rfl, q⟩
    rw [upd_ne (ne_of ec ha (fun z => nomatch z))]
    exact ec
theorem pt_of {pins : List (Addr × Obj)} {σ : L2.St} {H : Hp} {s : Shared} (I : Inv X pins σ H s) : ∀ zs : List (Addr × List Key × Addr × V), (∀ z ∈ zs, H z.1 = some (.tup [.ref z.2.2.1, z.2.2.2]) ∧ H z.2.2.1 = some (.tup (z.2.1.map kV))) →
    ∃ ps : List (List Key × Addr × Value), ps.map (fun p => (p.1, p.2.1)) = zs.map (fun z => (z.2.1, z.2.2.1)) ∧ ∀ (j : Nat) (p : List Key × Addr × Value), ps[j]? = some p → ∃ z, zs[j]? = some z ∧ (p.1 = z.2.1 ∧ p.2.1 = z.2.2.1 ∧ RelV z.2.2.2 p.2.2 ∧ H z.2.2.1 = some (.tup (z.2.1.map kV))) ∧ IsTup s.heap z.1 #[.ref p.2.1, p.2.2]
  | [], _ => ⟨[], rfl, fun j p e => by cases e⟩
  | z :: zs, h => by
    obtain ⟨ps, h1, h2⟩ := pt_of I zs fun y hy => h y (List.mem_cons_of_mem _ hy)
    obtain ⟨g1, g2⟩ := h z (List.mem_cons_self ..)
    obtain ⟨its, rv, ht, _⟩ := I.tuple (SqT.of g1)
    cases rv with
    | cons ra rb =>
      cases rb with
      | cons rb rc =>
        cases rc
        cases ra
        rename_i y
        refine ⟨(z.2.1, z.2.2.1, y) :: ps, by rw [List.map_cons, List.map_cons, h1], fun j p e => ?_⟩
        cases j with
        | zero =>
          obtain rfl : (z.2.1, z.2.2.1, y) = p := Option.some.inj e
          exact ⟨z, rfl, ⟨rfl, rfl, rb, g2⟩, ht⟩
        | succ j => exact h2 j p e
/-- dict(xs) of a list of pairs (key, value), the keys tuples -/
theorem call_dictPT (hcalm : X.calm = true) (hu : X.A.units + 64 < cLine) : CallR X (.type "dict") (fun xs H Q => ∃ (a : Addr) (zs : List (Addr × List Key × Addr × V)), xs = [.ref a] ∧ H a = some (.lst (zs.map fun z => V.ref z.1)) ∧
    (∀ z ∈ zs, H z.1 = some (.tup [.ref z.2.2.1, z.2.2.2]) ∧ H z.2.2.1 = some (.tup (z.2.1.map kV))) ∧ ∀ p, H p = none → Q (.ref p) (upd H p (.dT (mergeT [] (zs.map fun z => (z.2.1, z.2.2.2)))))) := by
  intro pins s σ H xs us Q I r q
  obtain ⟨a, zs, rfl, hq, hz, q⟩ := q
  obtain ⟨u, eu, rx⟩ := vals1 r
  subst eu
  cases rx
  obtain ⟨its, rv, pl, hsz⟩ := I.list (SqL.of hq)
  have ei : its = zs.map fun z => Value.ref z.1 := by
    have e : (zs.map fun z => V.ref z.1) = (zs.map (·.1)).map V.ref := by rw [List.map_map]; rfl
    rw [e] at rv
    have := refs_at rv
    rw [this, List.map_map]
    rfl
  subst ei
  rw [List.length_map] at hsz
  obtain ⟨ps, hp1, hp2⟩ := pt_of I zs hz
  obtain ⟨o, n, ho, hc, hd, hdat⟩ := pl
  have lps : ps.length = zs.length := by
    have e := congrArg List.length hp1
    rw [List.length_map, List.length_map] at e
    exact e
  have la : ∀ j k v, (ps.map fun p => (Value.ref p.2.1, p.2.2))[j]? = some (k, v) → ((zs.map fun z => Value.ref z.1).toArray)[j]? = some (.ref ((zs.getD j (0, [], 0, .non)).1)) ∧ PairAt s.heap ((zs.getD j (0, [], 0, .non)).1) k v := fun j k v e => by
    rw [List.getElem?_map] at e
    cases hj : ps[j]? with
    | none => rw [hj] at e; cases e
    | some p =>
      rw [hj] at e
      have e : (Value.ref p.2.1, p.2.2) = (k, v) := Option.some.inj e
      obtain ⟨z, hzj, h1, h2⟩ := hp2 j p hj
      have ed : zs.getD j (0, [], 0, .non) = z := by rw [List.getD_eq_getElem?_getD, hzj]; rfl
      rw [ed, List.getElem?_toArray, List.getElem?_map, hzj]
      injection e with e1 e2
      subst e1 e2
      obtain ⟨ob, g1, g2, g3, g4⟩ := h2
      exact ⟨rfl, .inl ⟨ob, g1, g2, g3, g4⟩⟩
  have small : (ps.map fun p => (Value.ref p.2.1, p.2.2)).length ≤ sizeLine := by rw [List.length_map, lps]; exact hsz
  refine call_dict_pairsH (knd := tupleKind (mixKind X.prog X.w)) (ps := ps) (PairArg.list a (zs.map fun z => Value.ref z.1).toArray (fun j => (zs.getD j (0, [], 0, .non)).1) (ps.map fun p => (Value.ref p.2.1, p.2.2))) (I.ok.hd hcalm) (tupleKind_room_in1 (by show X.A.units + 1 + 1 < cLine; omega)) ⟨⟨o, n, ho, hc, hd, hdat⟩, by rw [List.size_toArray, List.length_map, List.length_map, lps], la⟩ ⟨by rw [List.length_map], fun i key v e => ?_⟩ (fun h' hk x hx => ?_) small fun h' tk dd keep => ?_
  · have e : (ps.map fun p => (Value.ref p.2.1, p.2.2))[i]? = some (key, v) := e
    rw [List.getElem?_map] at e
    cases hj : ps[i]? with
    | none => rw [hj] at e; cases e
    | some p =>
      rw [hj] at e
      have e : (Value.ref p.2.1, p.2.2) = (key, v) := Option.some.inj e
      injection e with e1 e2
      exact ⟨p.1, p.2.1, by rw [← e2], e1.symm⟩
  · obtain ⟨j, hj⟩ := List.mem_iff_getElem?.mp hx
    obtain ⟨z, _, ⟨g1, g2, _, g4⟩, _⟩ := hp2 j x hj
    rw [g1, g2]
    exact key_of (I.hok.kept fun b u e => hk b u (Nat.ne_of_lt (Heap.lt_size e)) List.not_mem_nil e) g4
  · have keep : ∀ b o, s.heap.get? b = some o → h'.get? b = some o := fun b o e => keep b o List.not_mem_nil e
    have hm : (s.heap.objs.size == sysModules) = false := beq_eq_false_iff_ne.mpr (Nat.ne_of_gt I.big)
    have hn := I.hok.fresh (Nat.le_refl s.heap.objs.size)
    have kt : KT H (zs.map fun z => (z.2.1, z.2.2.2)) ps := kt_of (by rw [List.length_map]; exact lps) fun j p e => by
      obtain ⟨z, h1, ⟨g1, g2, g3, g4⟩, _⟩ := hp2 j p e
      refine ⟨(z.2.1, z.2.2.2), by rw [List.getElem?_map, h1]; rfl, g1.symm, ?_, g3⟩
      rw [g1, g2]
      exact g4
    have hlen : (mergeT [] (zs.map fun z => (z.2.1, z.2.2.2))).length ≤ sizeLine := by
      refine Nat.le_trans (length_mergeT _ _) ?_
      rw [List.length_map]
      show 0 + zs.length ≤ sizeLine
      omega
    obtain ⟨q', es, ep, hq', h2, h3, h4, _, h5⟩ := dd
    exact ⟨.ref s.heap.objs.size, upd H s.heap.objs.size (.dT (mergeT [] (zs.map fun z => (z.2.1, z.2.2.2)))), I.laid (t' := tk) keep (Nat.le_refl _)
      (show ObjOk X.prog X.w _ _ _ (.dT (mergeT [] (zs.map fun z => (z.2.1, z.2.2.2)))) from ⟨hlen, hm, _, (KT.merge kt .nil).keeps fun c ys ec => by rw [upd_ne (ne_of_none ec hn)]; exact ec, q', es, ep, hq', h2, h3, h4, h5⟩), rfl, q _ hn⟩
end
end K5
namespace K5
open PySem PySem.Spec PyProof.Rows L2
theorem lWorths_nodup {m : Nat} {z : Str} : (lWorths m z).Nodup ∧ ((m ≤ 4) → (lWorths m z).length ≤ 4) := by
  unfold lWorths
  split
  · refine ⟨List.Pairwise.map Int.ofNat (fun a b h e => h (Int.ofNat.inj e)) List.nodup_range, fun h => ?_⟩
    rw [List.length_map, List.length_range]
    exact h
  · split
    · split
      · exact ⟨List.nodup_cons.mpr ⟨List.not_mem_nil, List.nodup_nil⟩, fun _ => by simp⟩
      · exact ⟨List.nodup_nil, fun _ => by simp⟩
    · exact ⟨List.nodup_nil, fun _ => by simp⟩
theorem lAnswers_nodup {m : Nat} {z : Str} : (lAnswers m z).Nodup ∧ ((m ≤ 4) → (lAnswers m z).length ≤ 4) := by
  unfold lAnswers
  split
  · exact ⟨List.nodup_cons.mpr ⟨List.not_mem_nil, List.nodup_nil⟩, fun _ => by simp⟩
  · split
    · exact ⟨List.nodup_cons.mpr ⟨List.not_mem_nil, List.nodup_nil⟩, fun _ => by simp⟩
    · exact lWorths_nodup
theorem mergeK_new : ∀ (more acc : List (Int × Int)), (more.map (·.1)).Nodup → (∀ a ∈ more.map (·.1), a ∉ acc.map (·.1)) → mergeK (dkv acc) (dkv more) = dkv (acc ++ more)
  | [], acc, _, _ => by rw [List.append_nil]; rfl
  | q :: r, acc, nd, h => by
    rw [List.map_cons, List.nodup_cons] at nd
    show mergeK (putK (dkv acc) (.inl q.1) (.int q.2)) (dkv r) = _
    rw [dkv_put (h q.1 (List.mem_cons_self ..)), mergeK_new r (acc ++ [(q.1, q.2)]) nd.2 fun a ha hm => ?_, List.append_assoc]
    · rfl
    · rw [List.map_append] at hm
      rcases List.mem_append.mp hm with hm | hm
      · exact h a (List.mem_cons_of_mem _ ha) hm
      · rw [List.mem_singleton.mp hm] at ha
        exact nd.1 ha
section
variable {K : PySem.W.Frag} {H : Hp}
theorem dp_ints {l : List Int} : DpAll K H (l.map V.int) (l.map PyData.int) := by
  induction l with
  | nil => exact .nil
  | cons z l ih => exact .cons (.int z) ih
theorem ints_lay : ∀ {l : List Int}, PyData.canLayAll0 (l.map PyData.int) = true
  | [] => rfl
  | z :: l => by
    show (PyData.canLay0 (.int z) && PyData.canLayAll0 (l.map PyData.int)) = true
    rw [ints_lay]
    rfl
theorem ints_depth : ∀ {l : List Int}, PyData.depthAll (l.map PyData.int) = 0
  | [] => rfl
  | z :: l => by
    show max 0 (PyData.depthAll (l.map PyData.int)) = 0
    rw [ints_depth]
    rfl
theorem ints_shaped {l : List Int} : SeqAt.shaped (.list (l.map PyData.int)) = true := by
  unfold SeqAt.shaped
  rw [Bool.and_eq_true]
  refine ⟨ints_lay, decide_eq_true ?_⟩
  show PyData.depthAll (l.map PyData.int) + 1 ≤ 64
  rw [ints_depth]
  decide
theorem eqvI_nil {l : List Int} : PyData.eqv (.list (l.map PyData.int)) (.list []) = decide (l = []) := by
  cases l with
  | nil => rfl
  | cons z l => exact (decide_eq_false (fun e => nomatch e)).symm
end
theorem paired_mapR {α β γ : Type} {R : α → β → Prop} {S : α → γ → Prop} {f : β → γ} (h : ∀ a b, R a b → S a (f b)) : ∀ {l : List α} {m : List β}, Paired R l m → Paired S l (m.map f)
  | _, _, .nil => .nil
  | _, _, .cons a t => .cons (h _ _ a) (paired_mapR h t)
end K5
namespace K5
open PySem PySem.Spec PyProof.Rows L2
/-! ### a row, by the law -/
abbrev LO := List (Int × Nat)
def lOuts (m : Nat) : List (Str × Str) → LO → Option LO
  | [], acc => some acc
  | (aw, ew) :: r, acc => match lNum (if r = [] then ew else cutS ew none (some (-1))) with
    | none => none
    | some later => if (r ≠ [] ∧ cutS ew (some (-1)) none ≠ ",") ∨ lAnswers m aw = [] ∨ (∃ a ∈ lAnswers m aw, a ∈ acc.map (·.1)) then none else lOuts m r (acc ++ (lAnswers m aw).map fun a => (a, later))
def lRow (m : Nat) (ws : List Str) : Option (Str × List Int × LO) := match ws with
  | a :: b :: c :: d :: e :: r => if c ≠ "->" ∨ ws.length % 2 = 0 ∨ a = "any" ∨ ¬ (1 ≤ a.length ∧ a.length ≤ 8) ∨ lowAll a = false then none else match lOuts m ((ev2 (d :: e :: r)).zip (ev2 (e :: r))) [] with
    | none => none
    | some o => if lWorths m b = [] then none else some (a, lWorths m b, o)
  | _ => none
theorem ev2_map {α β : Type} (f : α → β) : ∀ l : List α, (ev2 l).map f = ev2 (l.map f)
  | [] => rfl
  | [_] => rfl
  | x :: _ :: r => by
    show f x :: (ev2 r).map f = f x :: ev2 (r.map f)
    rw [ev2_map f r]
theorem ev2_length {α : Type} : ∀ l : List α, (ev2 l).length = (l.length + 1) / 2
  | [] => by simp [ev2]
  | [_] => by simp [ev2]
  | _ :: _ :: r => by
    show (ev2 r).length + 1 = (r.length + 2 + 1) / 2
    rw [ev2_length r]
    omega
theorem ev2_mem {α : Type} {x : α} : ∀ {l : List α}, x ∈ ev2 l → x ∈ l
  | [_], h => h
  | y :: z :: r, h => by
    rcases List.mem_cons.mp (show x ∈ y :: ev2 r from h) with c | c
    · rw [c]
      exact List.mem_cons_self ..
    · exact List.mem_cons_of_mem _ (List.mem_cons_of_mem _ (ev2_mem c))
theorem lRow_few {m : Nat} {ws : List Str} (h : ws.length < 5) : lRow m ws = none := by
  match ws, h with
  | [], _ => rfl
  | [_], _ => rfl
  | [_, _], _ => rfl
  | [_, _, _], _ => rfl
  | [_, _, _, _], _ => rfl
  | _ :: _ :: _ :: _ :: _ :: _, h => exact absurd h (by simp)
theorem five_of {ws : List Str} (h : ¬ ws.length < 5) : ∃ a b c d e r, ws = a :: b :: c :: d :: e :: r := by
  match ws, h with
  | a :: b :: c :: d :: e :: r, _ => exact ⟨a, b, c, d, e, r, rfl⟩
  | [], h => exact absurd (by decide) h
  | [_], h => exact absurd (by simp) h
  | [_, _], h => exact absurd (by simp) h
  | [_, _, _], h => exact absurd (by simp) h
  | [_, _, _, _], h => exact absurd (by simp) h
def lI (o : LO) : List (Int × Int) := o.map fun q => (q.1, ((q.2 : Nat) : Int))
abbrev lkv (o : LO) : List (Key × V) := dkv (lI o)
theorem lI_keys (o : LO) : (lI o).map (·.1) = o.map (·.1) := by
  unfold lI
  rw [List.map_map]
  rfl
def OR (H : Hp) (x : V) : Option (Str × List Int × LO) → Prop
  | none => x = .non
  | some q => ∃ p u d, x = .ref p ∧ H p = some (.tup [.str q.1, .ref u, .ref d]) ∧ H u = some (.lst (q.2.1.map V.int)) ∧ H d = some (.dK (lkv q.2.2))
def spLRow : Sp := fun vs H Q _ => ∃ (m : Nat) (p : Addr) (ws : List Str), vs = [.int m, .ref p] ∧ m ≤ 4 ∧ H p = some (.lst (ws.map V.str)) ∧ ws.length ≤ 14001 ∧ (∀ z ∈ ws, PyData.strOk z = true ∧ z.length ≤ 14000) ∧ ∀ (H' : Hp) (x : V), Same H H' → OR H' x (lRow m ws) → Q x H'
abbrev s__law_row_in : Stmt := topS 36
abbrev nmRow : List Str := ["_law_worths", "_law_words", "_law_found", "_law_ends", "_law_at", "_law_end", "_law_is_last", "_law_later", "_law_answers", "_law_some_here", "_law_sign", "_law_one"]
theorem sc__law_row_in : FnScope nmRow ["_law_worths", "_law_words"] (defScope s__law_row_in) := ⟨rfl, rfl, rfl, by decide +kernel, rfl, by decide +kernel, by decide +kernel⟩
structure EnR (P : Program) (w : World) (K : PySem.W.Frag) (mg : Str → Option Value) (base : Heap) (fN fA fW : Addr) (dN dA dW : FuncData) : Prop where
  B : Bt mg
  me : mg "enumerate" = none
  md : mg "dict" = none
  Dn : Df K mg "_law_number" s__law_number fN dN ["_law_word"]
  Gn : FnOk P w K mg base CX0 1 fN dN ["_law_word"] spLNum
  Da : Df K mg "_law_answers_in" s__law_answers_in fA dA ["_law_worths", "_law_word"]
  Ga : FnOk P w K mg base CX0 3 fA dA ["_law_worths", "_law_word"] (spLList lAnswers)
  Dw : Df K mg "_law_worths_in" s__law_worths_in fW dW ["_law_worths", "_law_word"]
  Gw : FnOk P w K mg base CX0 2 fW dW ["_law_worths", "_law_word"] (spLList lWorths)
section
variable {P : Program} {w : World} {K : PySem.W.Frag} {mg : Str → Option Value} {base : Heap} {fN fA fW : Addr} {dN dA dW : FuncData}
theorem ok__law_row_in {f : Addr} {fd : FuncData} (N : EnR P w K mg base fN fA fW dN dA dW) (D : Df K mg "_law_row_in" s__law_row_in f fd ["_law_worths", "_law_words"]) : FnOk P w K mg base CX0 4 f fd ["_law_worths", "_law_words"] spLRow := by
  refine D.F.ok sc__law_row_in (fun vs H Q E h => ?_) (fun cdv A outer s H vs Q E hr h => ?_)
  · obtain ⟨m, p, ws, rfl, _⟩ := h
    rfl
  · obtain ⟨m, p, ws, rfl, m4, hp, wl, wz, k⟩ := h
    have S := sc__law_row_in
    have hu := hr.units
    refine ⟨_, (pss_cons (ps_if (PW.pt (pw_or (pt_cmpR op_lt (pe_callB call_len_seq (by rfl) N.B.m_len PySem.boot_len (pa_cons (pv 1) pa_nil)) pe_int (nomark _)) (pw_or (pt_cmpR op_ne (pe_ix ix_list (pv 1) pe_int (fun _ _ => rfl)) pe_str (nomark _)) (pw_or (pt_cmpR op_eq (pe_op op_mod (pe_callB call_len_seq (by rfl) N.B.m_len PySem.boot_len (pa_cons (pv 1) pa_nil)) pe_int) pe_int (nomark _)) (pw_or1 (pt_cmpR op_eq (pe_ix ix_list (pv 1) pe_int (fun _ _ => rfl)) pe_str (nomark _)))))))
        (pss_one (ps_ret pe_non))
        pss_nil)
      (pss_cons (ps_if (PW.pt (pw_or (pt_not (pt_chain op_le op_le pe_int (pe_callB call_len_str (by rfl) N.B.m_len PySem.boot_len (pa_cons (pe_ix ix_list (pv 1) pe_int (fun _ _ => rfl)) pa_nil)) pe_int)) (pw_or1 (pt_cmpR (op_neD (by exact hu)) (pe_lc (own := [("_law_sign", 10)]) (g := gName 10) rfl S.nd (pi_str (pe_ix ix_list (pv 1) pe_int (fun _ _ => rfl))) (blkOk_by (own := [("_law_sign", 10)]) (N := nmRow) (sc := defScope s__law_row_in) (by decide +kernel)) (fun _ _ _ _ _ => pg_name (i := 10) S.nd rfl (Or.inl rfl)) (fun _ _ _ _ _ => pts_one (pt_cmpR op_notIn_str (pv 10) pe_str (by rfl))) (fun _ _ _ _ _ => pv 10)) (pe_lst pa_nil) (nomark _)))))
        (pss_one (ps_ret pe_non))
        pss_nil)
      (pss_cons (ps_asg (pe_tup (pa_cons pe_dnewK (pa_cons (pe_step2 (pv 1)) pa_nil))) (pg_tup (by rfl) (pgs_cons (pg_name (i := 2) S.nd rfl (.inr rfl)) (pgs_cons (pg_name (i := 3) S.nd rfl (.inl rfl)) pgs_nil))))
      (pss_cons (ps_for PassesOwn.never rfl (pi_enum (by rfl) N.me (pa_cons (pv 3) pa_nil)) (pg_tup (by rfl) (pgs_cons (pg_name (i := 4) S.nd rfl (.inl rfl)) (pgs_cons (pg_name (i := 5) S.nd rfl (.inl rfl)) pgs_nil)))
        (pss_cons (ps_set (i := 6) S.nd rfl (.inl rfl) (pe_cmpR op_eq (pv 4) (pe_op op_sub (pe_callB call_len_seq (by rfl) N.B.m_len PySem.boot_len (pa_cons (pv 3) pa_nil)) pe_int) (nomark _)))
        (pss_cons (ps_set (i := 7) S.nd rfl (.inr rfl) (pe_call N.Gn (hr.mono (by decide)) (by rfl) N.Dn.g N.Dn.F.kp N.Dn.b .nil pass0 (pa_cons (pe_ifExp (pt_truth (pv 6) (by intro _; rfl)) (pv 5) (pe_slice sl_str (pv 5) po_none (po_some (pe_un un_neg pe_int)))) pa_nil)))
        (pss_cons (ps_set (i := 8) S.nd rfl (.inl rfl) (pe_call N.Ga (hr.mono (by decide)) (by rfl) N.Da.g N.Da.F.kp N.Da.b .nil pass0 (pa_cons (pv 0) (pa_cons (pe_ix ix_list (pe_step2 (pv 1)) (pv 4) (fun _ _ => rfl)) pa_nil))))
        (pss_cons (ps_if (PW.pt (pw_or (pt_cmpR op_isN1 (pv 7) pe_non (nomark _)) (pw_or (PW.pt (pw_and (pt_not (pt_truth (pv 6) (by intro _; rfl))) (pw_and1 (pt_cmpR op_ne (pe_slice sl_str (pv 5) (po_some (pe_un un_neg pe_int)) po_none) pe_str (nomark _))))) (pw_or1 (pt_cmpR (op_eqD (by exact hu)) (pv 8) (pe_lst pa_nil) (nomark _))))))
          (pss_one (ps_ret pe_non))
          pss_nil)
        (pss_cons (ps_if (pt_cmpR (op_neD (by exact hu)) (pe_lc (own := [("_law_one", 11)]) (g := gName 11) rfl S.nd (pi_list (pv 8)) (blkOk_by (own := [("_law_one", 11)]) (N := nmRow) (sc := defScope s__law_row_in) (by decide +kernel)) (fun _ _ _ _ _ => pg_name (i := 11) S.nd rfl (Or.inl rfl)) (fun _ _ _ _ _ => pts_one (pt_cmp (pc_din (hu_of hr) (pv 11) (pv 2)))) (fun _ _ _ _ _ => pv 11)) (pe_lst pa_nil) (nomark _))
          (pss_one (ps_ret pe_non))
          pss_nil)
        (pss_one (ps_expr (pe_bm PySem.F.plainAttrs_dict PySem.F.slot_dict_update PySem.F.type_dict_update mt_updK (pv 2) (pa_cons (pe_callTy (call_dictP rfl) (by rfl) N.md (by decide +kernel) (pa_cons (pe_lc (own := [("_law_one", 11)]) (g := gName 11) (tt := tYes) rfl S.nd (pi_list (pv 8)) (blkOk_by (own := [("_law_one", 11)]) (N := nmRow) (sc := defScope s__law_row_in) (by decide +kernel)) (fun _ _ _ _ _ => pg_name (i := 11) S.nd rfl (Or.inl rfl)) (fun _ _ _ _ _ => pts_nil) (fun _ _ _ _ _ => pe_tup (pa_cons (pv 11) (pa_cons (pv 7) pa_nil)))) pa_nil)) pa_nil))))))))))
      (pss_cons (ps_set (i := 9) S.nd rfl (.inl rfl) (pe_call N.Gw (hr.mono (by decide)) (by rfl) N.Dw.g N.Dw.F.kp N.Dw.b .nil pass0 (pa_cons (pv 0) (pa_cons (pe_ix ix_list (pv 1) pe_int (fun _ _ => rfl)) pa_nil))))
      (pss_one (ps_ret (pe_ifExp (pt_cmpR (op_neD (by exact hu)) (pv 9) (pe_lst pa_nil) (nomark _)) (pe_tup (pa_cons (pe_ix ix_list (pv 1) pe_int (fun _ _ => rfl)) (pa_cons (pv 9) (pa_cons (pv 2) pa_nil)))) pe_non)))))))), ?_⟩
    have hS : SqL K H p (ws.map V.str) := SqL.of hp
    have lw : (((ws.map V.str).length : Nat) : Int) = ((ws.length : Nat) : Int) := by rw [List.length_map]
    have vlen : ∀ σ : L2.St, σ[1]? = some (some (.ref p)) → Val (tCB (rLenSq K) (tCons (tVar 1) tNil)) σ H (.int (ws.length : Nat)) := fun σ h1 => by
      rw [← lw]
      exact val_lenL (val_var h1) hS
    have none_ : lRow m ws = none → Q .non H := fun e => by
      rw [e] at k
      exact k H _ (Same.refl _) rfl
    dsimp only [tSeq, tIfS, tOr]
    refine (ans_i0 (vlen _ rfl) val_c) _ ?_
    by_cases c5 : ws.length < 5
    · rw [decide_eq_true (by omega)]
      exact iteT (iteT (val_c _ (none_ (lRow_few c5))))
    · rw [decide_eq_false (by omega)]
      refine iteF ?_
      obtain ⟨a, b, c, d, e, r, rfl⟩ := five_of c5
      have al := (wz a (List.mem_cons_self ..))
      have hrow : lRow m (a :: b :: c :: d :: e :: r) = if c ≠ "->" ∨ (a :: b :: c :: d :: e :: r).length % 2 = 0 ∨ a = "any" ∨ ¬ (1 ≤ a.length ∧ a.length ≤ 8) ∨ lowAll a = false then none else match lOuts m ((ev2 (d :: e :: r)).zip (ev2 (e :: r))) [] with
        | none => none
        | some o => if lWorths m b = [] then none else some (a, lWorths m b, o) := rfl
      have vx : ∀ (H' : Hp) (i : Nat) (z : Str), SqL K H' p ((a :: b :: c :: d :: e :: r).map V.str) → (a :: b :: c :: d :: e :: r)[i]? = some z → ∀ σ : L2.St, σ[1]? = some (some (.ref p)) → Val (tOp (rIxL K) (tVar 1) (tC (.int (i : Nat)))) σ H' (.str z) := fun H' i z hS h σ h1 =>
        val_ixL (val_var h1) val_c hS (atI_nat (j := i) (by rw [List.getElem?_map, h]; rfl))
      refine (ans_cmp (vx H 2 c hS rfl _ rfl) val_c fun Q q => ⟨rfl, q⟩) _ ?_
      by_cases c2 : c = "->"
      · rw [decide_eq_true (show V.str c = V.str "->" by rw [c2])]
        refine iteF ?_
        have vm : Val (tOp (rI (fun _ j => 0 < j) fun i j => .int (i % j)) (tCB (rLenSq K) (tCons (tVar 1) tNil)) (tC (.int 2))) (L2.start nmRow [.int m, .ref p]) H (.int (((a :: b :: c :: d :: e :: r).length : Nat) % 2)) := val_iC (vlen _ rfl) val_c (by decide)
        refine (ans_eq2 vm val_c rfl) _ ?_
        by_cases cm : (a :: b :: c :: d :: e :: r).length % 2 = 0
        · rw [decide_eq_true (congrArg V.int (by omega))]
          exact iteT (iteT (val_c _ (none_ (hrow.trans (if_pos (.inr (.inl cm)))))))
        · rw [decide_eq_false (fun e => cm (by have := V.int.inj e; omega))]
          refine iteF ?_
          refine (ans_eq2 (vx H 0 a hS rfl _ rfl) val_c rfl) _ ?_
          by_cases ca : a = "any"
          · rw [decide_eq_true (by rw [ca])]
            exact iteT (val_c _ (none_ (hrow.trans (if_pos (.inr (.inr (.inl ca)))))))
          · rw [decide_eq_false (fun e => ca (V.str.inj e))]
            refine iteF ?_
            dsimp only [tNext, tSeq, tIfS, tOr]
            have ch : Ans (tTest (tChain (rI0 fun i j => .bl (decide (i ≤ j))) (rI0 fun i j => .bl (decide (i ≤ j))) (tC (.int 1)) (tCB rLenS (tCons (tOp (rIxL K) (tVar 1) (tC (.int (0 : Nat)))) tNil)) (tC (.int 8)))) (L2.start nmRow [.int m, .ref p]) H (decide ((1 : Int) ≤ (a.length : Int)) && decide ((a.length : Int) ≤ 8)) := fun Q q =>
              (val_chain val_c (val_lenS (vx H 0 a hS rfl _ rfl) (big_size (by omega))) val_c) _ ⟨_, rfl, q⟩
            refine (ans_not ch) _ ?_
            by_cases cl : 1 ≤ a.length ∧ a.length ≤ 8
            · rw [decide_eq_true (show (1 : Int) ≤ a.length by omega), decide_eq_true (show (a.length : Int) ≤ 8 by omega)]
              refine iteF ?_
              refine tst_open (signs_lc (p := fun c => decide (97 ≤ c ∧ c ≤ 122)) (vx H 0 a hS rfl _ rfl) (by omega) (fun c => rfl) (fun c => rfl) (fun c H' R r => ?_) fun L H1 s1 hL => ?_)
              · refine tst_open ?_
                refine (val_var rfl) _ (val_c _ ⟨⟨#[c]⟩, abc, rfl, rfl, _, rfl, ?_⟩)
                rw [PySem.StrLaws.found_one, abc_mem]
                exact r
              · dsimp only [tLst, tNil]
                refine ⟨Nat.zero_le _, fun q nq => ?_⟩
                have s2 := same_upd (o := .lst []) nq
                refine ⟨.list ((oddP (fun c => decide (97 ≤ c ∧ c ≤ 122)) a).map PyData.str), .list [], .lst (SqL.of (s2 _ _ hL)) dp_strs, .lst (SqL.of upd_same) .nil, lst_shaped (oddP_ok al.1), by decide, _, rfl, ?_⟩
                have s12 := s1.trans s2
                generalize (upd H1 q (.lst [])) = H2 at s12 ⊢
                rw [eqv_nil, oddP_none]
                have low : lowAll a = a.cps.toList.all fun c => decide (97 ≤ c ∧ c ≤ 122) := rfl
                rw [← low]
                cases hlow : lowAll a with
                | false =>
                  rw [hrow, if_pos (.inr (.inr (.inr (.inr hlow))))] at k
                  exact iteT (val_c _ (k _ _ s12 rfl))
                | true =>
                  refine iteF ?_
                  rw [hrow, if_neg (by
                    rintro (h | h | h | h | h)
                    · exact h c2
                    · exact cm h
                    · exact ca h
                    · exact h cl
                    · rw [hlow] at h
                      cases h)] at k
                  have hS2 : SqL K H2 p ((a :: b :: c :: d :: e :: r).map V.str) := SqL.of (s12 _ _ hp)
                  dsimp only [tNext, tSeq, tAsg]
                  dsimp only [tTup, tCons, tNil, tDNewK, tStep2]
                  intro dd ndd
                  have s3 := same_upd (o := .dK []) ndd
                  have hdd : (upd H2 dd (.dK [])) dd = some (.dK []) := upd_same
                  generalize (upd H2 dd (.dK [])) = H3 at s3 hdd ⊢
                  have s13 := s12.trans s3
                  refine (val_var rfl) _ ⟨p, _, rfl, SqL.of (s13 _ _ hp), fun q4 nq4 => ?_⟩
                  have e4 : ev2 (((a :: b :: c :: d :: e :: r).map V.str).drop 4) = (ev2 (e :: r)).map V.str := (ev2_map V.str (e :: r)).symm
                  rw [e4]
                  have s4 := same_upd (o := .lst ((ev2 (e :: r)).map V.str)) nq4
                  have hq4 : (upd H3 q4 (.lst ((ev2 (e :: r)).map V.str))) q4 = some (.lst ((ev2 (e :: r)).map V.str)) := upd_same
                  generalize (upd H3 q4 (.lst ((ev2 (e :: r)).map V.str))) = H4 at s4 hq4 ⊢
                  refine ⟨by show 2 ≤ sizeLine; decide, fun t nt => ?_⟩
                  have s5 := same_upd (o := .tup [.ref dd, .ref q4]) nt
                  have ht : (upd H4 t (.tup [.ref dd, .ref q4])) t = some (.tup [.ref dd, .ref q4]) := upd_same
                  generalize (upd H4 t (.tup [.ref dd, .ref q4])) = H5 at s5 ht ⊢
                  have s15 := (s13.trans s4).trans s5
                  have hdd5 := s5 _ _ (s4 _ _ hdd)
                  have hq5 := s5 _ _ hq4
                  have ndd0 : H dd = none := s12.free ndd
                  refine ⟨t, _, rfl, SqT.of ht, rfl, _, _, rfl, ?_⟩
                  dsimp only [gName]
                  refine ⟨_, _, rfl, ?_⟩
                  dsimp only [gName]
                  refine ⟨rfl, ?_⟩
                  clear s1 s2 s12 s3 s13 s4 s5 ht hq4 hdd nt nq4 ndd hS2
                  have el : (ev2 (d :: e :: r)).length = (ev2 (e :: r)).length := by
                    rw [ev2_length, ev2_length]
                    have : (a :: b :: c :: d :: e :: r).length = r.length + 5 := rfl
                    show (r.length + 2 + 1) / 2 = (r.length + 1 + 1) / 2
                    omega
                  have nle : (ev2 (e :: r)).length ≤ 14001 := Nat.le_trans (ev2_len _) (by
                    have : (a :: b :: c :: d :: e :: r).length = (e :: r).length + 4 := rfl
                    omega)
                  have wzE : ∀ z ∈ ev2 (e :: r), PyData.strOk z = true ∧ z.length ≤ 14000 := fun z hz => wz z (by
                    have := ev2_mem hz
                    exact List.mem_cons_of_mem _ (List.mem_cons_of_mem _ (List.mem_cons_of_mem _ (List.mem_cons_of_mem _ this))))
                  have wzD : ∀ z ∈ ev2 (d :: e :: r), PyData.strOk z = true ∧ z.length ≤ 14000 := fun z hz => wz z (by
                    have := ev2_mem hz
                    exact List.mem_cons_of_mem _ (List.mem_cons_of_mem _ (List.mem_cons_of_mem _ this)))
                  have e3 : ev2 (((a :: b :: c :: d :: e :: r).map V.str).drop 3) = (ev2 (d :: e :: r)).map V.str := (ev2_map V.str (d :: e :: r)).symm
                  generalize hes : ev2 (d :: e :: r) = es at el wzD e3 k
                  generalize hen : ev2 (e :: r) = en at el nle wzE hq5 k
                  unfold tFor iEnum
                  refine (val_var rfl) _ ⟨q4, _, rfl, SqL.of hq5, for_it (walk_enum (K := K) (a := q4) (xs := en.map V.str)) (fun i σ' H' => ∃ (t4 t5 t6 t7 t8 : Option V) (acc : LO), σ' = [some (.int m), some (.ref p), some (.ref dd), some (.ref q4), t4, t5, t6, t7, t8, none, none, none] ∧ Same H H' ∧ H' dd = some (.dK (lkv acc)) ∧ H' q4 = some (.lst (en.map V.str)) ∧
                    lOuts m ((es.zip en).drop i) acc = lOuts m (es.zip en) [] ∧ acc.length ≤ 4 * i) ?_ ?_ ?_ ?_⟩
                  · exact ⟨_, _, _, _, _, [], rfl, s15, hdd5, hq5, rfl, Nat.zero_le _⟩
                  · rintro i σ' H' _ ⟨_, _, _, _, _, _, _, _, _, h, _⟩
                    exact SqL.of h
                  · rintro i x σ' H6 H7 hi ⟨t4, t5, t6, t7, t8, acc, rfl, s6, hd6, hq6, er, la⟩ ⟨T, x1, y1, rfl, nT, rfl, ex, ey⟩
                    rw [List.length_map] at hi
                    obtain rfl : V.int (i : Nat) = x1 := Option.some.inj ex
                    have hen2 : en[i]? = some en[i] := List.getElem?_eq_getElem hi
                    have hes2 : es[i]? = some (es[i]'(by omega)) := List.getElem?_eq_getElem (by omega)
                    have ey : (en.map V.str)[i]? = some y1 := ey
                    obtain rfl : V.str en[i] = y1 := by
                      rw [List.getElem?_map, hen2] at ey
                      exact Option.some.inj ey
                    have hz : (es.zip en)[i]? = some (es[i]'(by omega), en[i]) := by
                      rw [List.getElem?_zip_eq_some]
                      exact ⟨hes2, hen2⟩
                    rw [drop_cons hz] at er
                    have we := wzE en[i] (List.getElem_mem hi)
                    have wd := wzD (es[i]'(by omega)) (List.getElem_mem _)
                    generalize es[i]'(by omega) = aw at hes2 er wd hz
                    generalize en[i] = ew at hen2 er we hz ⊢
                    have sT := same_upd (o := .tup [.int (i : Nat), .str ew]) nT
                    have hT : (upd H6 T (.tup [.int (i : Nat), .str ew])) T = some (.tup [.int (i : Nat), .str ew]) := upd_same
                    generalize (upd H6 T (.tup [.int (i : Nat), .str ew])) = H7 at sT hT ⊢
                    have s7 := s6.trans sT
                    have hd7 := sT _ _ hd6
                    have hq7 := sT _ _ hq6
                    refine ⟨T, _, rfl, SqT.of hT, rfl, _, _, rfl, ?_⟩
                    dsimp only [gName]
                    refine ⟨_, _, rfl, ?_⟩
                    dsimp only [gName]
                    refine ⟨rfl, ?_⟩
                    clear sT hT s6 hd6 hq6 nT
                    have bad : lOuts m ((es.zip en).drop i) acc = none → ∀ H', Same H H' → Q .non H' := fun e0 H' sh => by
                      rw [drop_cons hz, er] at e0
                      rw [e0] at k
                      exact k H' .non sh rfl
                    rw [drop_cons hz] at bad
                    have rnil : ((es.zip en).drop (i + 1) = []) ↔ i + 1 = en.length := by
                      rw [List.drop_eq_nil_iff, List.length_zip, el, Nat.min_self]
                      omega
                    generalize (es.zip en).drop (i + 1) = rest at er bad rnil
                    refine (val_op (val_var rfl) (val_i0 (val_lenL (val_var rfl) (SqL.of hq7)) val_c) fun Q q => ⟨rfl, q⟩) _ ?_
                    have eL : decide (V.int (i : Nat) = V.int ((((en.map V.str).length : Nat) : Int) - 1)) = decide (rest = []) := decide_eq_decide.mpr ⟨fun h => rnil.mpr (by have h := V.int.inj h; rw [List.length_map] at h; omega), fun h => congrArg V.int (by have h := rnil.mp h; rw [List.length_map]; omega)⟩
                    rw [eL]
                    dsimp only [gName]
                    try dsimp only [tSeq, tAsg]
                    try dsimp only [tCall, tCons, tNil]
                    have ez : (if decide (rest = []) = true then V.str ew else V.str (cutS ew none (some (-1)))) = V.str (if rest = [] then ew else cutS ew none (some (-1))) := by
                      by_cases h : rest = []
                      · rw [if_pos h, if_pos (decide_eq_true h)]
                      · rw [if_neg h, if_neg (by rw [decide_eq_false h]; exact Bool.false_ne_true)]
                    have zok : PyData.strOk (if rest = [] then ew else cutS ew none (some (-1))) = true ∧ (if rest = [] then ew else cutS ew none (some (-1))).length ≤ 14000 := by
                      by_cases h : rest = []
                      · rw [if_pos h]
                        exact we
                      · rw [if_neg h]
                        exact ⟨cut_ok we.1, Nat.le_trans cutS_le we.2⟩
                    refine (val_ite (a := decide (rest = [])) (x := .str ew) (v := .str (cutS ew none (some (-1)))) ?_ ?_ ?_) _ ?_
                    · exact fun Q q => (val_var (v := .bl (decide (rest = []))) rfl) _ ⟨decide (rest = []), rfl, q⟩
                    · exact fun _ => val_var rfl
                    · refine fun _ Q q => ?_
                      dsimp only [tSl, tNoPart, tPart]
                      exact (val_var rfl) _ ((val_neg val_c) _ ⟨_, rfl, ew, rfl, big_size (by omega), q⟩)
                    rw [ez]
                    refine ⟨_, rfl, zok.2, zok.1, fun H8 s8 => ?_⟩
                    clear ez zok
                    have s78 := s7.trans s8
                    have hd8 := s8 _ _ hd7
                    have hq8 := s8 _ _ hq7
                    clear s8 s7 hd7 hq7
                    try dsimp only [gName, tSeq, tAsg]
                    try dsimp only [tCall, tCons, tNil]
                    try dsimp only [tOp, tStep2]
                    refine (val_var rfl) _ ((val_var rfl) _ ⟨p, _, rfl, SqL.of (s78 _ _ hp), fun q3 nq3 => ?_⟩)
                    rw [e3]
                    have s9 := same_upd (o := .lst (es.map V.str)) nq3
                    have hq3 : (upd H8 q3 (.lst (es.map V.str))) q3 = some (.lst (es.map V.str)) := upd_same
                    generalize (upd H8 q3 (.lst (es.map V.str))) = H9 at s9 hq3 ⊢
                    refine (val_var rfl) _ ⟨q3, _, (i : Nat), _, rfl, rfl, SqL.of hq3, atI_nat (by rw [List.getElem?_map, hes2]; rfl), ?_⟩
                    refine ⟨m, aw, rfl, m4, wd.2, wd.1, fun H10 pa s10 npa hpa => ?_⟩
                    have sA := (s78.trans s9).trans s10
                    have hdA := s10 _ _ (s9 _ _ hd8)
                    have hqA := s10 _ _ (s9 _ _ hq8)
                    clear s78 s9 s10 hd8 hq8 hq3 nq3
                    dsimp only [gName]
                    have hlo : ∀ r', lOuts m ((aw, ew) :: rest) acc = r' ↔ (match lNum (if rest = [] then ew else cutS ew none (some (-1))) with
                      | none => none
                      | some later => if (rest ≠ [] ∧ cutS ew (some (-1)) none ≠ ",") ∨ lAnswers m aw = [] ∨ (∃ a ∈ lAnswers m aw, a ∈ acc.map (·.1)) then none else lOuts m rest (acc ++ (lAnswers m aw).map fun a => (a, later))) = r' := fun r' => Iff.rfl
                    cases hln : lNum (if rest = [] then ew else cutS ew none (some (-1))) with
                    | none =>
                      refine (ans_isN (x := .non) (b := true) (val_var rfl) (decide_eq_true rfl)) _ (iteT (iteT (val_c _ (bad ((hlo _).mpr (by rw [hln])) _ sA))))
                    | some later =>
                      refine (ans_isN (x := .int (later : Nat)) (b := false) (val_var rfl) (decide_eq_false fun c => nomatch c)) _ (iteF ?_)
                      have hlo2 : lOuts m ((aw, ew) :: rest) acc = if (rest ≠ [] ∧ cutS ew (some (-1)) none ≠ ",") ∨ lAnswers m aw = [] ∨ (∃ a ∈ lAnswers m aw, a ∈ acc.map (·.1)) then none else lOuts m rest (acc ++ (lAnswers m aw).map fun a => (a, later)) := (hlo _).mpr (by rw [hln])
                      clear hlo
                      refine (ans_and3 (a := !decide (rest = [])) (b := !decide (V.str (cutS ew (some (-1)) none) = V.str ",")) (ans_not ?_) fun _ => ?_) _ ?_
                      · exact fun Q q => (val_var (v := .bl (decide (rest = []))) rfl) _ ⟨decide (rest = []), rfl, q⟩
                      · refine ans_cmp (x := .str (cutS ew (some (-1)) none)) ?_ val_c fun Q q => ⟨rfl, q⟩
                        refine fun Q q => ?_
                        dsimp only [tSl, tNoPart, tPart]
                        exact (val_var rfl) _ ((val_neg val_c) _ ⟨_, rfl, ew, rfl, big_size (by omega), q⟩)
                      by_cases h1 : rest ≠ [] ∧ cutS ew (some (-1)) none ≠ ","
                      · rw [show (!decide (rest = []) && !decide (V.str (cutS ew (some (-1)) none) = V.str ",")) = true by
                          rw [decide_eq_false h1.1, decide_eq_false (fun e => h1.2 (V.str.inj e))]
                          rfl]
                        exact iteT (iteT (val_c _ (bad (hlo2.trans (if_pos (.inl h1))) _ sA)))
                      · rw [show (!decide (rest = []) && !decide (V.str (cutS ew (some (-1)) none) = V.str ",")) = false by
                          by_cases h2 : rest = []
                          · rw [decide_eq_true h2]
                            rfl
                          · have h3 : cutS ew (some (-1)) none = "," := Classical.byContradiction fun c => h1 ⟨h2, c⟩
                            rw [h3, decide_eq_true rfl, Bool.not_true, Bool.and_false]]
                        refine iteF ?_
                        refine tst_open ?_
                        dsimp only [tLst, tNil]
                        refine (val_var rfl) _ ⟨Nat.zero_le _, fun q5 nq5 => ?_⟩
                        have s11 := same_upd (o := .lst []) nq5
                        refine ⟨.list ((lAnswers m aw).map PyData.int), .list [], .lst (SqL.of (s11 _ _ hpa)) dp_ints, .lst (SqL.of upd_same) .nil, ints_shaped, by decide, _, rfl, ?_⟩
                        rw [eqvI_nil]
                        generalize (upd H10 q5 (.lst [])) = H11 at s11 ⊢
                        have sB := sA.trans s11
                        have hdB := s11 _ _ hdA
                        have hqB := s11 _ _ hqA
                        have hpB := s11 _ _ hpa
                        clear s11 hdA hqA hpa sA nq5
                        by_cases h2 : lAnswers m aw = []
                        · rw [decide_eq_true h2]
                          exact iteT (val_c _ (bad (hlo2.trans (if_pos (.inr (.inl h2)))) _ sB))
                        · rw [decide_eq_false h2]
                          refine iteF ?_
                          dsimp only [tNext, tSeq, tIfS]
                          refine tst_open ?_
                          have lan := lAnswers_nodup (m := m) (z := aw)
                          have l4 := lan.2 m4
                          dsimp only [tLc, iList]
                          refine (val_var rfl) _ ⟨pa, rfl, ⟨_, SqL.of hpB⟩, fun D nD => lc_list (K := K) (a := pa) (xs := (lAnswers m aw).map V.int) (fun i H' => Same H11 H' ∧ ∃ ys : List Int, H' D = some (.lst (ys.map V.int)) ∧ ys.length ≤ i ∧ (ys = [] ↔ ∀ a ∈ (lAnswers m aw).take i, a ∉ acc.map (·.1))) ?_ ?_ ?_ ?_⟩
                          · exact ⟨same_upd nD, [], upd_same, Nat.zero_le _, ⟨fun _ w hw => (nomatch hw), fun _ => rfl⟩⟩
                          · rintro j H12 _ ⟨s12, _⟩
                            exact SqL.of (s12 _ _ hpB)
                          · rintro j x H12 ex ⟨s12, ys, hD, lx, iff⟩
                            obtain ⟨w, ej, rfl⟩ : ∃ w, (lAnswers m aw)[j]? = some w ∧ x = .int w := by
                              rw [List.getElem?_map] at ex
                              cases q : (lAnswers m aw)[j]? with
                              | none => rw [q] at ex; cases ex
                              | some w => rw [q] at ex; exact ⟨w, rfl, (Option.some.inj ex).symm⟩
                            have tk : (lAnswers m aw).take (j + 1) = (lAnswers m aw).take j ++ [w] := snocV' ej
                            have jlt : j < 4 := by
                              have := (List.getElem?_eq_some_iff.mp ej).1
                              omega
                            dsimp only [gName]
                            refine ⟨rfl, ?_⟩
                            dsimp only [tB, tDIn]
                            refine (val_var rfl) _ ((val_var rfl) _ ⟨dd, _, rfl, DGet.k (k := .inl w) (s12 _ _ hdB), _, rfl, ?_⟩)
                            rw [dkv_some, lI_keys]
                            by_cases mem : w ∈ acc.map (·.1)
                            · rw [decide_eq_true mem]
                              refine iteT ?_
                              refine (val_var rfl) _ ⟨_, hD, by rw [List.length_map]; exact Nat.lt_of_le_of_lt lx (Nat.lt_of_lt_of_le jlt (by decide)), fun b o e => ?_, ys ++ [w], by rw [upd_same, List.map_append]; rfl, by rw [List.length_append]; exact Nat.succ_le_succ lx, ⟨fun h => absurd h (by simp), fun h => ?_⟩⟩
                              · rw [upd_ne (ne_of_none e nD)]
                                exact s12 b o e
                              · exact absurd mem (h w (by rw [tk]; exact List.mem_append_right _ (List.mem_singleton.mpr rfl)))
                            · rw [decide_eq_false mem]
                              refine iteF ⟨s12, ys, hD, Nat.le_succ_of_le lx, iff.trans ⟨fun h w' hw' => ?_, fun h w' hw' => h w' (by rw [tk]; exact List.mem_append_left _ hw')⟩⟩
                              rw [tk] at hw'
                              rcases List.mem_append.mp hw' with hw' | hw'
                              · exact h w' hw'
                              · rw [List.mem_singleton.mp hw']
                                exact mem
                          · rintro H12 ⟨s12, ys, hD, lx, iff⟩
                            rw [List.length_map, List.take_length] at iff
                            dsimp only [tLst, tNil]
                            refine ⟨Nat.zero_le _, fun q6 nq6 => ?_⟩
                            have s13 := same_upd (o := .lst []) nq6
                            refine ⟨.list (ys.map PyData.int), .list [], .lst (SqL.of (s13 _ _ hD)) dp_ints, .lst (SqL.of upd_same) .nil, ints_shaped, by decide, _, rfl, ?_⟩
                            rw [eqvI_nil]
                            generalize (upd H12 q6 (.lst [])) = H13 at s13 ⊢
                            have s1113 := s12.trans s13
                            have sC := sB.trans s1113
                            have hdC := s1113 _ _ hdB
                            have hqC := s1113 _ _ hqB
                            have hpC := s1113 _ _ hpB
                            clear s12 s13 s1113 hdB hqB hpB sB hD nq6 nD
                            by_cases hy : ys = []
                            · rw [decide_eq_true hy]
                              refine iteF ?_
                              have new := iff.mp hy
                              have hgo : lOuts m ((aw, ew) :: rest) acc = lOuts m rest (acc ++ (lAnswers m aw).map fun a => (a, later)) := hlo2.trans (if_neg (by
                                rintro (h | h | ⟨x, hx, hm⟩)
                                · exact h1 h
                                · exact h2 h
                                · exact new x hx hm))
                              rw [hgo] at er
                              dsimp only [tNext, tDrop]
                              refine bm_run (x := .ref dd) (val_var rfl) (.inr (.inr (.inl ⟨rfl, .inl ⟨_, hdC⟩⟩))) ?_
                              dsimp only [tCons, tNil, tCB, tLc, iList]
                              refine (val_var rfl) _ ⟨pa, rfl, ⟨_, SqL.of hpC⟩, fun D nD => lc_list (K := K) (a := pa) (xs := (lAnswers m aw).map V.int) (fun i H' => Same H13 H' ∧ ∃ ts : List Addr, H' D = some (.lst (ts.map V.ref)) ∧ ts.length ≤ i ∧ Paired (fun (t : Addr) (a : Int) => H' t = some (.tup [.int a, .int (later : Nat)])) ts ((lAnswers m aw).take i)) ?_ ?_ ?_ ?_⟩
                              · exact ⟨same_upd nD, [], upd_same, Nat.zero_le _, .nil⟩
                              · rintro j H14 _ ⟨s14, _⟩
                                exact SqL.of (s14 _ _ hpC)
                              · rintro j x H14 ex ⟨s14, ts, hD, lx, prs⟩
                                obtain ⟨w, ej, rfl⟩ : ∃ w, (lAnswers m aw)[j]? = some w ∧ x = .int w := by
                                  rw [List.getElem?_map] at ex
                                  cases q : (lAnswers m aw)[j]? with
                                  | none => rw [q] at ex; cases ex
                                  | some w => rw [q] at ex; exact ⟨w, rfl, (Option.some.inj ex).symm⟩
                                have tk : (lAnswers m aw).take (j + 1) = (lAnswers m aw).take j ++ [w] := snocV' ej
                                have jlt : j < 4 := by
                                  have := (List.getElem?_eq_some_iff.mp ej).1
                                  omega
                                dsimp only [gName]
                                refine ⟨rfl, ?_⟩
                                dsimp only [tYes]
                                rw [if_pos rfl]
                                dsimp only [tTup, tCons, tNil]
                                refine (val_var rfl) _ ((val_var (v := .int (later : Nat)) rfl) _ ⟨by show 2 ≤ sizeLine; decide, fun q nq => ?_⟩)
                                have s15 := same_upd (o := .tup [.int w, .int (later : Nat)]) nq
                                have hq15 : (upd H14 q (.tup [.int w, .int (later : Nat)])) q = some (.tup [.int w, .int (later : Nat)]) := upd_same
                                generalize (upd H14 q (.tup [.int w, .int (later : Nat)])) = H15 at s15 hq15 ⊢
                                have hD15 := s15 _ _ hD
                                refine ⟨_, hD15, by rw [List.length_map]; exact Nat.lt_of_le_of_lt lx (Nat.lt_of_lt_of_le jlt (by decide)), fun b o e => ?_, ts ++ [q], by rw [upd_same, List.map_append]; rfl, by rw [List.length_append]; exact Nat.succ_le_succ lx, ?_⟩
                                · rw [upd_ne (ne_of_none e nD)]
                                  exact s15 _ _ (s14 b o e)
                                · rw [tk]
                                  refine Paired.snoc (Paired.mapP prs fun t a e => ?_) ?_
                                  · rw [upd_ne (ne_of e hD fun c => nomatch c)]
                                    exact s15 _ _ e
                                  · rw [upd_ne (ne_of hq15 hD15 fun c => nomatch c)]
                                    exact hq15
                              · rintro H14 ⟨s14, ts, hD, lx, prs⟩
                                rw [List.length_map, List.take_length] at prs
                                have prs2 : Paired (fun (p : Addr) (kv : Key × V) => SqT K H14 p [kV kv.1, kv.2]) ts (dkv (lI ((lAnswers m aw).map fun a => (a, later)))) := by
                                  have e1 : dkv (lI ((lAnswers m aw).map fun a => (a, later))) = (lAnswers m aw).map fun a => ((.inl a : Key), V.int (later : Nat)) := by
                                    unfold dkv lI
                                    rw [List.map_map, List.map_map]
                                    rfl
                                  rw [e1]
                                  exact paired_mapR (S := fun (p : Addr) (kv : Key × V) => SqT K H14 p [kV kv.1, kv.2]) (f := fun a : Int => ((.inl a : Key), V.int (later : Nat))) (fun t a e => SqT.of e) prs
                                refine ⟨D, ts, _, rfl, SqL.of hD, prs2, fun p2 np2 => ?_⟩
                                have kk : (lI ((lAnswers m aw).map fun a => (a, later))).map (·.1) = lAnswers m aw := by
                                  rw [lI_keys, List.map_map]
                                  show List.map (fun a => a) (lAnswers m aw) = lAnswers m aw
                                  simp
                                have em : mergeK [] (dkv (lI ((lAnswers m aw).map fun a => (a, later)))) = dkv (lI ((lAnswers m aw).map fun a => (a, later))) := mergeK_new _ [] (by rw [kk]; exact lan.1) fun a _ h => nomatch h
                                rw [em]
                                have s16 := same_upd (o := .dK (dkv (lI ((lAnswers m aw).map fun a => (a, later))))) np2
                                have hp2 : (upd H14 p2 (.dK (dkv (lI ((lAnswers m aw).map fun a => (a, later)))))) p2 = some (.dK (dkv (lI ((lAnswers m aw).map fun a => (a, later))))) := upd_same
                                have nep : dd ≠ p2 := ne_of_none (s14 _ _ hdC) np2
                                generalize (upd H14 p2 (.dK (dkv (lI ((lAnswers m aw).map fun a => (a, later)))))) = H16 at s16 hp2 ⊢
                                have hd16 := s16 _ _ (s14 _ _ hdC)
                                have la2 : (dkv (lI acc)).length = acc.length := by simp [dkv, lI]
                                have lb2 : (dkv (lI ((lAnswers m aw).map fun a => (a, later)))).length = (lAnswers m aw).length := by simp [dkv, lI]
                                refine ⟨dd, p2, _, _, rfl, rfl, nep, hd16, hp2, ?_, ?_⟩
                                · rw [la2, lb2]
                                  exact Nat.le_trans (show acc.length + (lAnswers m aw).length ≤ 60000 by omega) (by decide)
                                · rw [mergeK_new (lI ((lAnswers m aw).map fun a => (a, later))) (lI acc) (by rw [kk]; exact lan.1) (by rw [kk, lI_keys]; exact new)]
                                  have eA : lI acc ++ lI ((lAnswers m aw).map fun a => (a, later)) = lI (acc ++ (lAnswers m aw).map fun a => (a, later)) := by
                                    unfold lI
                                    rw [List.map_append]
                                  rw [eA]
                                  refine ⟨_, _, _, _, _, acc ++ (lAnswers m aw).map (fun a => (a, later)), rfl, fun b o e => ?_, upd_same, ?_, er, ?_⟩
                                  · rw [upd_ne (ne_of_none e ndd0)]
                                    exact s16 _ _ (s14 _ _ (sC b o e))
                                  · rw [upd_ne (ne_of (s16 _ _ (s14 _ _ hqC)) hd16 fun c => nomatch c)]
                                    exact s16 _ _ (s14 _ _ hqC)
                                  · rw [List.length_append, List.length_map]
                                    omega
                            · rw [decide_eq_false hy]
                              have hex : ∃ x ∈ lAnswers m aw, x ∈ acc.map (·.1) := Classical.byContradiction fun c => hy (iff.mpr fun x hx hm => c ⟨x, hx, hm⟩)
                              exact iteT (val_c _ (bad (hlo2.trans (if_pos (.inr (.inr hex)))) _ sC))
                  · rintro σ' H6 ⟨t4, t5, t6, t7, t8, acc, rfl, s6, hd6, hq6, er, la⟩
                    rw [List.length_map, List.drop_eq_nil_of_le (by rw [List.length_zip]; exact Nat.min_le_right ..)] at er
                    have er : some acc = lOuts m (es.zip en) [] := er
                    rw [← er] at k
                    have k : ∀ (H' : Hp) (x : V), Same H H' → OR H' x (if lWorths m b = [] then none else some (a, lWorths m b, acc)) → Q x H' := k
                    have bl := wz b (List.mem_cons_of_mem _ (List.mem_cons_self ..))
                    dsimp only [tSeq, tAsg]
                    dsimp only [tCall, tCons, tNil]
                    refine (val_var rfl) _ ((vx H6 1 b (SqL.of (s6 _ _ hp)) rfl _ rfl) _ ⟨m, b, rfl, m4, bl.2, bl.1, fun H7 pu s7 npu hpu => ?_⟩)
                    have s67 := s6.trans s7
                    have hd7 := s7 _ _ hd6
                    dsimp only [gName, tRet, tIf]
                    refine tst_open ?_
                    dsimp only [tLst, tNil]
                    refine (val_var rfl) _ ⟨Nat.zero_le _, fun q6 nq6 => ?_⟩
                    have s8 := same_upd (o := .lst []) nq6
                    refine ⟨.list ((lWorths m b).map PyData.int), .list [], .lst (SqL.of (s8 _ _ hpu)) dp_ints, .lst (SqL.of upd_same) .nil, ints_shaped, by decide, _, rfl, ?_⟩
                    rw [eqvI_nil]
                    generalize (upd H7 q6 (.lst [])) = H8 at s8 ⊢
                    have s68 := s67.trans s8
                    by_cases hw : lWorths m b = []
                    · rw [decide_eq_true hw]
                      rw [if_pos hw] at k
                      exact iteF (val_c _ (k _ _ s68 rfl))
                    · rw [decide_eq_false hw]
                      rw [if_neg hw] at k
                      refine iteT ?_
                      dsimp only [tTup, tCons, tNil]
                      refine (vx H8 0 a (SqL.of (s68 _ _ hp)) rfl _ rfl) _ ((val_var rfl) _ ((val_var rfl) _ ⟨by show 3 ≤ sizeLine; decide, fun t nt => ?_⟩))
                      have s9 := same_upd (o := .tup [.str a, .ref pu, .ref dd]) nt
                      exact k _ _ (s68.trans s9) ⟨t, pu, dd, rfl, upd_same, s9 _ _ (s8 _ _ hpu), s9 _ _ (s8 _ _ hd7)⟩
            · have eb : (!(decide ((1 : Int) ≤ (a.length : Int)) && decide ((a.length : Int) ≤ 8))) = true := by
                rw [Bool.not_eq_true', Bool.and_eq_false_iff]
                by_cases h : 1 ≤ a.length
                · exact .inr (decide_eq_false (by omega))
                · exact .inl (decide_eq_false (by omega))
              rw [eb]
              exact iteT (iteT (val_c _ (none_ (hrow.trans (if_pos (.inr (.inr (.inr (.inl cl)))))))))
      · rw [decide_eq_false (fun e => c2 (V.str.inj e))]
        exact iteT (iteT (val_c _ (none_ (hrow.trans (if_pos (.inl c2))))))
end
end K5
namespace K5
open PySem PySem.Spec PyProof.Rows L2
/-! ### how many states stand in a text, by the law -/
def lThere : List Str → Nat → Nat
  | [], k => k
  | z :: r, k => lThere r (if z = stateRow k then k + 1 else k)
theorem log_mid {n : Nat} (h : n ≤ 20000) : n.log2 < 1920 := by
  by_cases h0 : n = 0
  · rw [h0]; decide
  · exact Nat.lt_of_lt_of_le ((Nat.log2_lt h0).mpr (show n < 2 ^ 15 by omega)) (by decide)
def spLThere : Sp := fun vs H Q _ => ∃ (r : Addr) (rows : List Str), vs = [.ref r] ∧ H r = some (.lst (rows.map V.str)) ∧ rows.length ≤ 14001 ∧ Q (.int (lThere rows 0 : Nat)) H
abbrev s__law_states_there : Stmt := topS 37
theorem sc__law_states_there : FnScope ["_law_lines", "_law_many", "_law_line"] ["_law_lines"] (defScope s__law_states_there) := ⟨rfl, rfl, rfl, by decide +kernel, rfl, by decide +kernel, by decide +kernel⟩
section
variable {P : Program} {w : World} {K : PySem.W.Frag} {mg : Str → Option Value} {base : Heap}
theorem ok__law_states_there {f : Addr} {fd : FuncData} (B : Bt mg) (D : Df K mg "_law_states_there" s__law_states_there f fd ["_law_lines"]) : FnOk P w K mg base CX0 1 f fd ["_law_lines"] spLThere := by
  refine D.F.ok sc__law_states_there (fun vs H Q E h => ?_) (fun cdv A outer s H vs Q E hr h => ?_)
  · obtain ⟨r, rows, rfl, _⟩ := h
    rfl
  · obtain ⟨r, rows, rfl, hp, hl, k⟩ := h
    have S := sc__law_states_there
    refine ⟨_, (pss_cons (ps_set (i := 1) S.nd rfl (.inl rfl) pe_int)
      (pss_cons (ps_for PassesOwn.never rfl (pi_list (pv 0)) (pg_name (i := 2) S.nd rfl (.inl rfl))
        (pss_one (ps_set (i := 1) S.nd rfl (.inl rfl) (pe_op op_add (pv 1) (pe_toInt (by rfl) B.m_int (pe_cmpR op_eq (pv 2) (pe_op op_add_str pe_str (pe_callTy call_str_int (by rfl) B.m_str (by decide +kernel) (pa_cons (pv 1) pa_nil))) (nomark _)))))))
      (pss_one (ps_ret (pv 1))))), ?_⟩
    dsimp only [tSeq, tAsg, tC, gName]
    unfold tFor iList
    refine (val_var rfl) _ ⟨r, rfl, ⟨_, SqL.of hp⟩, for_list (K := K) (a := r) (xs := rows.map V.str) (fun i σ' H' => H' = H ∧ ∃ (k : Nat) (t2 : Option V), k ≤ i ∧ σ' = [some (.ref r), some (.int (k : Nat)), t2] ∧ lThere (rows.drop i) k = lThere rows 0) ?_ ?_ ?_ ?_⟩
    · exact ⟨rfl, 0, _, Nat.zero_le _, rfl, rfl⟩
    · rintro i σ' H' _ ⟨rfl, _⟩
      exact SqL.of hp
    · rintro i x σ' H' ex ⟨rfl, k, t2, k4, rfl, er⟩
      obtain ⟨row, ej, rfl⟩ : ∃ w, rows[i]? = some w ∧ x = .str w := by
        rw [List.getElem?_map] at ex
        cases q : rows[i]? with
        | none => rw [q] at ex; cases ex
        | some w => rw [q] at ex; exact ⟨w, rfl, (Option.some.inj ex).symm⟩
      have ilt := (List.getElem?_eq_some_iff.mp ej).1
      rw [drop_cons ej] at er
      have er : lThere (rows.drop (i + 1)) (if row = stateRow k then k + 1 else k) = lThere rows 0 := er
      dsimp only [gName]
      have l6 : ("state " : Str).length = 6 := by decide +kernel
      have l5 : (Str.ofString (toString ((k : Nat) : Int))).length ≤ 5 := PyProof.Rows.toString_length_le (v := ((k : Nat) : Int)) (by omega) (by decide) (by omega)
      have v1 : ∀ σ : L2.St, σ[1]? = some (some (.int (k : Nat))) → Val (tOp (fun x y H Q => ∃ i j, x = .str i ∧ y = .str j ∧ i.length + j.length ≤ sizeLine ∧ Q (.str (i ++ j)) H) (tC (.str "state ")) (tCB (fun xs H Q => ∃ i, xs = [.int i] ∧ i.natAbs.log2 < 1920 ∧ Q (.str (toString i)) H) (tCons (tVar 1) tNil))) σ H' (.str (stateRow k)) := fun σ h1 =>
        val_op val_c (val_strI (val_var h1) (log_mid (by omega))) fun Q q => ⟨_, _, rfl, rfl, small_z (by omega), q⟩
      have e1 : (if row = stateRow k then k + 1 else k) = k + (if row = stateRow k then 1 else 0) := by split <;> rfl
      rw [e1] at er
      refine (val_i0 (i := (k : Nat)) (j := ((if row = stateRow k then 1 else 0 : Nat) : Int)) (val_var rfl) ?_) _ ?_
      · have vb := val_toIntB (ta := tOp rEq (tVar 2) (tOp (fun x y H Q => ∃ i j, x = .str i ∧ y = .str j ∧ i.length + j.length ≤ sizeLine ∧ Q (.str (i ++ j)) H) (tC (.str "state ")) (tCB (fun xs H Q => ∃ i, xs = [.int i] ∧ i.natAbs.log2 < 1920 ∧ Q (.str (toString i)) H) (tCons (tVar 1) tNil)))) (σ := [some (.ref r), some (.int (k : Nat)), some (.str row)]) (H := H') (b := decide (row = stateRow k))
          (val_op (val_var rfl) (v1 _ rfl) fun Q q => ⟨rfl, by rw [show decide (V.str row = V.str (stateRow k)) = decide (row = stateRow k) from decide_eq_decide.mpr ⟨fun e => V.str.inj e, fun e => by rw [e]⟩]; exact q⟩)
        have e2 : (if decide (row = stateRow k) = true then (1 : Int) else 0) = ((if row = stateRow k then 1 else 0 : Nat) : Int) := by
          by_cases h : row = stateRow k
          · rw [if_pos h, decide_eq_true h]
            rfl
          · rw [if_neg h, decide_eq_false h]
            rfl
        rw [e2] at vb
        exact vb
      · dsimp only [gName]
        exact ⟨rfl, k + (if row = stateRow k then 1 else 0), _, by split <;> omega, rfl, er⟩
    · rintro σ' H' ⟨rfl, k', t2, k4, rfl, er⟩
      rw [List.length_map, List.drop_length] at er
      have er : k' = lThere rows 0 := er
      rw [← er] at k
      exact (val_var rfl) _ k
end
end K5
namespace K5
open PySem PySem.Spec PyProof.Rows L2
/-! ### an error that is kept behind its suite -/
/-- an error of the class cls, its dict at d, at a -/
def ExK (cls : Value) (d : Option Addr) (a : Addr) : HO := .ext fun h => ∃ (oe : Obj) (vs : Array Value), h.get? a = some oe ∧ Zc cls d oe ∧ oe.data = .fields vs
theorem exK_ok {P : Program} {w : World} {H : Hp} {h : Heap} {a : Addr} {cls : Value} {d : Option Addr} {oe : Obj} {vs : Array Value} (e : h.get? a = some oe) (z : Zc cls d oe) (f : oe.data = .fields vs) : ObjOk P w H h a (ExK cls d a) :=
  ⟨⟨oe, vs, e, z, f⟩, ⟨oe, e⟩, fun h1 h2 ⟨o1, v1, q1, q2, q3⟩ k => ⟨o1, v1, k _ q1, q2, q3⟩⟩
section
variable {X : Cx} {pins : List (Addr × Obj)} {σ σ' : L2.St} {H H' : Hp} {s sI : Shared}
/-- what came since J may be laid on the ledger -/
theorem track {a : Addr} {o : HO} (I : Inv X pins σ H s) (J : Inv X pins σ' H' sI) (new : sI.heap.get? a = none) (hx : X.ex = []) (hn : H a = none) (nL : a ≠ X.env.locals) (ok : ObjOk X.prog X.w (upd H a o) s.heap a o) : Inv X pins σ (upd H a o) s := by
  have old : ∀ b u, X.s_0.heap.get? b = some u → b ≠ a := fun b u e z => by
    obtain ⟨u2, e2⟩ := J.base.there b u e (by rw [hx]; exact List.not_mem_nil)
    rw [z, new] at e2
    cases e2
  have kp : ∀ b u, H b = some u → upd H a o b = some u := fun b u e => by
    rw [upd_ne (ne_of_none e hn)]
    exact e
  refine ⟨I.ok, I.os, I.bare, ⟨I.base.keep, I.base.slot, fun b u e n x => ?_, I.base.there, fun b xs e => kp _ _ (I.base.tups b xs e), fun b u v e => kp _ _ (I.base.frzs b u v e), fun b ps e => ?_⟩, I.loc, I.cell, ?_, fun x c e => ?_, fun p hp => ?_, fun b u e => ?_, I.len⟩
  · rw [upd_ne (old b u e)]
    exact I.base.free b u e n x
  · obtain ⟨more, e2⟩ := I.base.tbls b ps e
    exact ⟨more, kp _ _ e2⟩
  · rw [upd_ne nL.symm]
    exact I.free
  · have nc : c ≠ a := fun z => by
      obtain ⟨v, hv⟩ := J.cell x c e
      rw [z] at hv
      obtain ⟨ob, h1, _⟩ := hv
      rw [new] at h1
      cases h1
    rw [upd_ne nc]
    exact I.freeC x c e
  · obtain ⟨e1, e2, e3⟩ := I.pin p hp
    have np : p.1 ≠ a := fun z => by
      obtain ⟨q1, _⟩ := J.pin p hp
      rw [z, new] at q1
      cases q1
    rw [upd_ne np]
    exact ⟨e1, e2, e3⟩
  · by_cases c : b = a
    · subst c
      rw [upd_same] at e
      cases e
      exact ok
    · rw [upd_ne c] at e
      exact (I.hok b u e).stay (fun c v _ q => q) (fun c q => kp _ _ q) fun c xs q => kp _ _ q
end
end K5
namespace K5
open PySem PySem.Spec PyProof.Rows L2
/-- what the clause 'except x as n' wishes, whose suite runs through; the error stays known behind it -/
def wKeep (K : PySem.W.Frag) (c : Value) (i : Nat) (ts : Addr → Value → Option Addr → TS) (Wout : WX) (D : Ends) : WX := fun cls d σ H =>
  ∃ b, PySem.W.exmOne K cls c = some b ∧
    (b = true → ∀ a, H a = none → ts a cls d { nx := fun σ' H' => D.nx (σ'.set i none) (upd H' a (ExK cls d a)), rt := fun _ _ => False, bk := fun _ _ => False, ct := fun _ _ => False } (σ.set i (some (.ref a))) H) ∧
    (b = false → Wout cls d σ H)
section
variable {X : Cx} {x n : Str} {c : Value} {i : Nat} {body suite : List Stmt} {b0 : Stmt} {np pos pos' : Pos} {tb : WX → TS} {ts : Addr → Value → Option Addr → TS} {Wout : WX}
theorem ps_try_keep (hs : X.stack = X.env :: X.outer) (hf : X.env.frame = some X.env.locals) (hex : X.ex = []) (nodup : X.N.Nodup) (at1 : X.N[i]? = some n) (loc1 : X.env.kindOf n = some .local) (names : Names X x c) (tk : Takes X Wout)
    (bodyOk : ∀ (W : WX) (pn : List (Addr × Obj)) (xe : Value → Shared → Prop), Takes (X.tr pn xe) W → PassesOwn (model X.prog X.w) X.A X.env xe → PSs (X.tr pn xe) body (tb W))
    (suiteOk : ∀ (a : Addr) (oe : Obj) (cls : Value) (d : Option Addr) (pn : List (Addr × Obj)), Zc cls d oe → (∃ vs, oe.data = .fields vs) → PSs (X.suite a ((a, oe) :: pn)) (b0 :: suite) (ts a cls d)) :
    PS X (.Try body [.ExceptHandler (some (.Name x np)) (some n) (b0 :: suite) pos'] [] [] pos) (fun D σ H => tb (wKeep X.K c i ts Wout D) D σ H) := by
  refine ⟨fun pins s σ H D I h => ?_⟩
  have okX := I.ok
  have frames : X.A.frames = some (X.env :: X.outer) := by
    rw [okX.frames, hs]
  refine wpAny_Try_except ?_
  -- what the body lets out is looked at by the clause
  let out : Value → Shared → Prop := fun e s1 => wpAny (model X.prog X.w) X.A (noteFrame e X.env) (fun _ s2 => wpAny (model X.prog X.w) X.A (setFlight e none) (fun _ s3 =>
    wpAny (model X.prog X.w) X.A (handleBy e X.env [.ExceptHandler (some (.Name x np)) (some n) (b0 :: suite) pos']) (SP X pins D) X.xe s3) X.xe s2) X.xe s1
  have catches : Takes (X.tr (X.pn ++ pins) out) (wKeep X.K c i ts Wout D) := fun u s' raised => by
    obtain ⟨a, B, sI, pins1, σ1, H1, cls, d, rfl, J0, kept, up, sky, na, os1, ag, b, isb, yes, no⟩ := raised
    have J : Inv X pins σ1 H1 sI := J0.ofTry okX
    have sky1 : Sky B (X.env :: X.outer) a (Zc cls d) X.env.locals s'.heap := by
      rw [← hs]
      exact sky
    show wpAny (model X.prog X.w) X.A (noteFrame (.ref a) X.env) _ _ _
    refine Sky.land Zc.steady frames hf sky1 fun hA flA upA => ?_
    have JA : Inv X pins σ1 H1 { s' with heap := hA } := J.landed kept flA.1 (up.trans upA) os1 ag
    obtain ⟨oA, vA, eA, zA, dA⟩ := flA.there
    -- it is no frame
    have noFrame : a ∉ frs (X.env :: X.outer) := fun q => by
      obtain ⟨_, o2, e2, nf⟩ := flA.2.2.1.mem q
      rw [eA] at e2
      cases e2
      exact nf _ dA
    have nL : a ≠ X.env.locals := fun q => noFrame (List.mem_filterMap.mpr ⟨X.env, List.mem_cons_self, by rw [hf, q]⟩)
    have nF : a ∉ X.fs := fun q => by
      obtain ⟨e, h1, h2⟩ := List.mem_filterMap.mp q
      exact noFrame (List.mem_filterMap.mpr ⟨e, List.mem_cons_of_mem _ h1, h2⟩)
    -- it is new
    have new : sI.heap.get? a = none := by
      cases e : sI.heap.get? a with
      | none => rfl
      | some o =>
        have q := kept a o e (by rw [hs]; exact noFrame)
        rw [flA.2.1] at q
        cases q
    have SA := JA.suite eA dA na nL nF
    refine wpAny_handleBy_cons (codeAny_handlers_test ?_) (fun q => nomatch q)
    have tyA : PySem.W.Looks (model X.prog X.w) hA (typeOf (.ref a)) cls := fun A Q E s k q => wpAny_typeOf_ref (k _ _ eA) (by rw [zA.1]; exact q)
    have asks := PySem.W.exm_one (M := model X.prog X.w) (JA.kIn) tyA isb
    have named : ∀ {Q : Value → Shared → Prop} {E : Value → Shared → Prop}, Q c { s' with heap := hA } → wpAny (model X.prog X.w) (X.A.mark (some (.ref a))) (eval (.Name x np) X.env) Q E { s' with heap := hA } := fun {Q E} q => by
      obtain ⟨g1, g2, g3 | ⟨g3, g4, g5⟩⟩ := names
      · exact ld_glob (X := X.suite a ((a, oA) :: (X.pn ++ pins))) SA g1 g3 q g2
      · exact ld_blt (X := X.suite a ((a, oA) :: (X.pn ++ pins))) SA g1 g3 g4 q g5 g2
    refine named (asks.here ?_)
    cases b with
    | true =>
      refine codeAny_handlers_suite_as ?_
      refine HandSPX.lands_againZ flA fun hB flB upB => ?_
      have JB : Inv X pins σ1 H1 { s' with heap := hB } := J.landed kept flB.1 ((up.trans upA).trans upB) os1 ag
      obtain ⟨oB, vB, eB, zB, dB⟩ := flB.there
      refine store_ok (X := X.suite a ((a, oB) :: (X.pn ++ pins))) (v := .ref a) (JB.suite eB dB na nL nF) nodup at1 (.inl loc1) rfl (fun s5 S5 => ?_) (.inr loc1)
      refine wpAny_mono ((suiteOk a oB cls d (X.pn ++ pins) zB ⟨_, dB⟩).run [] s5 _ H1 _ S5 (yes rfl a na)) (fun f s6 done => ?_) (fun _ _ z => False.elim z)
      cases f with
      | next =>
        obtain ⟨σ6, H6, S6, q6⟩ := done
        obtain ⟨p1, p2, _⟩ := S6.pin (a, oB) (List.mem_append_left _ List.mem_cons_self)
        have laid : Inv X pins σ6 (upd H6 a (ExK cls d a)) s6 := track (S6.unsuite okX) J new hex p2 nL (exK_ok p1 zB dB)
        exact gone_ok laid nodup at1 loc1 fun s7 J7 => ⟨_, _, J7, q6⟩
      | brk =>
        obtain ⟨_, _, _, z⟩ := done
        exact z.elim
      | cont =>
        obtain ⟨_, _, _, z⟩ := done
        exact z.elim
      | ret u =>
        obtain ⟨_, _, _, _, _, z⟩ := done
        exact z.elim
    | false =>
      show wpAny _ X.A (handleBy (.ref a) X.env []) _ _ _
      refine wpAny_handleBy_nil ?_
      obtain ⟨oC, vC, tr, _, _, eC, _, dC, at3, _⟩ := flA.2.2.2
      unfold PySem.passOn
      refine wpAny_bind (wpAny_field eC dC at3 ?_)
      rw [if_neg (show ¬ ((Value.ref tr == Value.none) = true) from by simp)]
      have on : wpAny (model X.prog X.w) X.A (setFlight (.ref a) X.env.frame) (fun _ s4 => wpAny (model X.prog X.w) X.A (throw (.ref a) : Sem Flow) (SP X pins D) X.xe s4) X.xe { s' with heap := hA } := by
        rw [hf]
        refine HandSPX.setFlight_upZ flA fun hC held upC => wpAny_throw (tk _ _ ?_)
        exact ⟨a, B, sI, pins, σ1, H1, cls, d, rfl, J, kept, (up.trans upA).trans upC, .inr (.inr (by rw [hs]; exact held)), na, os1, ag, no rfl⟩
      first
        | exact wpAny_bind (wpAny_pure (wpAny_bind on))
        | exact wpAny_bind on
  refine wpAny_mono ((bodyOk (wKeep X.K c i ts Wout D) (X.pn ++ pins) out catches PassesOwn.looking).run [] s σ H D (I.toTry _) h) (fun f s1 done => ?_) (fun e s1 z => z)
  cases f with
  | next =>
    obtain ⟨σ2, H2, J2, q⟩ := done
    exact wpAny_execs_nil ⟨σ2, H2, J2.ofTry okX, q⟩
  | brk =>
    obtain ⟨σ2, H2, J2, q⟩ := done
    exact ⟨σ2, H2, J2.ofTry okX, q⟩
  | cont =>
    obtain ⟨σ2, H2, J2, q⟩ := done
    exact ⟨σ2, H2, J2.ofTry okX, q⟩
  | ret u =>
    obtain ⟨v2, σ2, H2, J2, r2, q⟩ := done
    exact ⟨v2, σ2, H2, J2.ofTry okX, r2, q⟩
end
end K5
namespace K5
open PySem PySem.Spec PyProof.Rows L2
/-- isinstance(e, c), e a kept error that has its dict -/
def rIsK (K : PySem.W.Frag) : List V → Hp → VK → Prop := fun xs H Q => ∃ (a D dd : Addr) (fs : List (Str × V)) (c : V) (cv : Value) (b : Bool), xs = [.ref a, c] ∧ H a = some (ExK (.ref D) (some dd) a) ∧ H dd = some (.xd fs) ∧ ExcC K D ∧ (∀ u, RelV c u → u = cv) ∧ PySem.W.kitOne K (.ref D) cv = some b ∧ Q (.bl b) H
theorem inst_kept {X : Cx} {pins : List (Addr × Obj)} {σ : L2.St} {H : Hp} {s : Shared} {a D dd : Addr} {fs : List (Str × V)} (I : Inv X pins σ H s) (h1 : H a = some (ExK (.ref D) (some dd) a)) (h2 : H dd = some (.xd fs)) :
    ∃ oe od mA, PySem.W.InstAt s.heap a oe D (some od) ∧ s.heap.get? dd = some od ∧ s.heap.Ns1 dd mA ∧ ∀ f, RelO (fs.lookup f) (mA f) := by
  obtain ⟨⟨oe, vs, e, z, f⟩, _⟩ := (show ObjOk X.prog X.w H s.heap a (ExK (.ref D) (some dd) a) from I.hok a _ h1)
  obtain ⟨mA, hns, hr⟩ := (show ObjOk X.prog X.w H s.heap dd (.xd fs) from I.hok dd _ h2)
  obtain ⟨od, ho, _⟩ := lookIn_ns hns
  refine ⟨oe, od, mA, ⟨e, z.1, ?_, ?_⟩, ho, hns, hr⟩
  · unfold PySem.W.notCls
    rw [f]
  · rw [z.2]
    exact ho
theorem call_isK {X : Cx} : CallR X (.builtin "isinstance") (rIsK X.K) := by
  intro pins s σ H xs us Q I r h
  obtain ⟨a, D, dd, fs, c, cv, b, rfl, h1, h2, C, hcv, hb, q⟩ := h
  cases r with
  | cons rx rr =>
    cases rr with
    | cons rt rr =>
      cases rr
      cases rx
      have ec := hcv _ rt
      subst ec
      obtain ⟨oe, od, _, J, _⟩ := inst_kept I h1 h2
      have hcl : (PySem.W.clsIn X.K D).isSome = true := by
        obtain ⟨cd, e, _⟩ := PySem.W.any_some C.hd
        rw [e]
        rfl
      exact PySem.W.kia_one (PySem.W.kitx_exc hcl C.hg C.hk C.hs C.ha C.hn C.ht C.hm) I.kIn J hb (fun z => nomatch z) fun tk => ⟨.bl b, H, I.kept (t' := tk) fun _ _ z => z, rfl, q⟩
/-- e.n, e a kept error -/
def tXk (K : PySem.W.Frag) (n : Str) (te : TE) : TE := fun σ H Q => te σ H fun x H1 => ∃ (a C dd : Addr) (fs : List (Str × V)) (v : V), x = .ref a ∧ H1 a = some (ExK (.ref C) (some dd) a) ∧ H1 dd = some (.xd fs) ∧ XfC K C ∧ PySem.W.findIn K (.ref C) n = some none ∧ fs.lookup n = some v ∧ Q v H1
theorem pe_xk {X : Cx} {e : Expr} {te : TE} {pos : Pos} {n : Str} (he : PE X e te) (hb : attributeBase e n X.env (eval e X.env) = eval e X.env := by rfl) : PE X (.Attribute e n pos) (tXk X.K n te) := by
  refine ⟨fun pins s σ H Q I h => ?_⟩
  refine attr_of hb (thn (he.run pins s σ H _ I h) fun u s1 hh => ?_)
  obtain ⟨x, H1, I1, rx, a, C, dd, fs, v, ex, h1, h2, T, hno, l, q⟩ := hh
  subst ex
  obtain rfl : u = Value.ref a := rx
  obtain ⟨oe, od, mA, J, ho, hns, hr⟩ := inst_kept I1 h1 h2
  obtain ⟨od2, ho2, hl⟩ := lookIn_ns hns
  rw [ho] at ho2
  cases ho2
  obtain ⟨u, hu, ru⟩ := RelO.some_of (v := v) (o := mA n) (by rw [← l]; exact hr n)
  exact HandSPX.exc_get I1.kIn J T.ga T.gg T.exC (PySem.W.findObj_own T.hdC hno rfl (by rw [hl, hu])) (handed_of ru) ⟨v, H1, I1.tok _, ru, q⟩
end K5
namespace K5
open PySem PySem.Spec PyProof.Rows L2
/-- what may be known of the slots may be forgotten -/
theorem forget {X : Cx} {pins : List (Addr × Obj)} {σ : L2.St} {H : Hp} {s : Shared} (I : Inv X pins σ H s) : Inv X pins (List.replicate X.N.length none) H s := by
  obtain ⟨m, h1, _⟩ := I.loc
  refine ⟨I.ok, I.os, I.bare, I.base, ⟨m, h1, fun i x v _ e _ => ?_⟩, I.cell, I.free, I.freeC, I.pin, I.hok, List.length_replicate⟩
  rw [List.getElem?_replicate] at e
  split at e
  · cases e
  · cases e
theorem passes_forget {X : Cx} {W : WX} (k : Nat) (hk : X.N.length = k) (tk : Takes X W) : Passes (L2.CX X.prog X.w) X (fun cls d H => W cls d (List.replicate k none) H) := fun _ _ _ _ e s' I c => by
  subst hk
  exact tk e s' (XE.of_call (forget I) (fun _ _ _ h => h) c)

/-! ### what is told of a page -/
structure ErC (K : PySem.W.Frag) (CE CT CR : Addr) : Prop where
  eT : PySem.W.exmOne K (.ref CT) (.ref CE) = some true
  eR : PySem.W.exmOne K (.ref CR) (.ref CE) = some true
  xT : ExcC K CT
  xR : ExcC K CR
  fT : XfC K CT
  fR : XfC K CR
  vT : PySem.W.findIn K (.ref CT) "value" = some none
  vR : PySem.W.findIn K (.ref CR) "value" = some none
  tt : PySem.W.kitOne K (.ref CT) (.ref CT) = some true
  tr : PySem.W.kitOne K (.ref CT) (.ref CR) = some false
  rt : PySem.W.kitOne K (.ref CR) (.ref CT) = some false
  rr : PySem.W.kitOne K (.ref CR) (.ref CR) = some true
  tv : PySem.W.kitOne K (.ref CT) (.type "ValueError") = some true
  rv : PySem.W.kitOne K (.ref CR) (.type "ValueError") = some true
theorem bt_ValueError : bootBuiltins "ValueError" = some (.type "ValueError") := by decide +kernel
inductive Out9 where
  | pact (sts : List StA)
  | line (i : Int)
  | val
def told9 (x y : V) : Out9 := if worthsOk x = false then .val else match x, y with
  | .int m, .str z => match pactR m.toNat (rowsOf z) with
    | .error e => .line (e : Nat)
    | .ok sts => .pact sts
  | _, _ => .line (-1)
def OutAt (H : Hp) (x : V) (p : Addr) : Out9 → Prop
  | .pact sts => ∃ q, H p = some (.tup [.str "pact", .ref q]) ∧ PactAt H q sts
  | .line i => H p = some (.tup [.str "line", .int i])
  | .val => H p = some (.tup [.str "worths", x])
def Reads9 (sp : Sp) (CT CR P1 P2 : Addr) (x y : V) (H : Hp) : Out9 → Prop
  | .pact sts => ∀ (Q : VK) (E : XK), (∀ (H' : Hp) (p : Addr), But [P1, P2] H H' → Tabs P1 P2 H' → PactAt H' p sts → Q (.ref p) H') → sp [x, y] H Q E
  | .line i => ∀ (Q : VK) (E : XK), ErrT [P1, P2] P1 P2 CT (.int i) H E → sp [x, y] H Q E
  | .val => ∀ (Q : VK) (E : XK), ErrT [P1, P2] P1 P2 CR x H E → sp [x, y] H Q E
theorem reads9 {CW CT P1 P2 : Addr} {x y : V} {Tx Ty : String} {H : Hp} (hx : Kd H x Tx) (hy : Kd H y Ty) (tab : Tabs P1 P2 H) (pne : P1 ≠ P2) (hz : ∀ z : Str, y = .str z → z.length ≤ 14000 ∧ PyData.strOk z = true) :
    Reads9 (spReadPact CW CT P1 P2) CT CW P1 P2 x y H (told9 x y) := by
  unfold told9
  by_cases hw : worthsOk x = false
  · rw [if_pos hw]
    refine fun Q E he => ⟨x, y, Tx, Ty, rfl, hx, hy, tab, pne, fun _ => he, fun m e h2 => ?_⟩
    rw [hw] at h2
    cases h2
  · rw [if_neg hw]
    have ht : worthsOk x = true := by
      cases h : worthsOk x
      · exact absurd h hw
      · rfl
    cases hx with
    | int wn =>
      have hw2 : (decide (2 ≤ wn) && decide (wn ≤ 4)) = true := ht
      rw [Bool.and_eq_true] at hw2
      have h2 := of_decide_eq_true hw2.1
      have h4 := of_decide_eq_true hw2.2
      have notS : isS y = false → Reads9 (spReadPact CW CT P1 P2) CT CW P1 P2 (.int wn) y H (.line (-1)) := fun hs Q E he => by
        refine ⟨.int wn, y, _, Ty, rfl, .int wn, hy, tab, pne, fun h => absurd h hw, fun m e _ _ => ⟨fun _ => he, fun z ez => ?_⟩⟩
        rw [ez] at hs
        cases hs
      cases hy with
      | str z =>
        have hz1 := hz z rfl
        dsimp only
        cases hp : pactR wn.toNat (rowsOf z) with
        | error e =>
          refine fun Q E he => ⟨.int wn, .str z, _, _, rfl, .int wn, .str z, tab, pne, fun h => absurd h hw, fun m em _ _ => ⟨fun h => (nomatch h), fun z' ez => ?_⟩⟩
          injection ez with ez
          injection em with em
          subst ez
          refine ⟨hz1.1, hz1.2, ?_⟩
          rw [show m = wn.toNat by omega, hp]
          exact he
        | ok sts =>
          refine fun Q E he => ⟨.int wn, .str z, _, _, rfl, .int wn, .str z, tab, pne, fun h => absurd h hw, fun m em _ _ => ⟨fun h => (nomatch h), fun z' ez => ?_⟩⟩
          injection ez with ez
          injection em with em
          subst ez
          refine ⟨hz1.1, hz1.2, ?_⟩
          rw [show m = wn.toNat by omega, hp]
          exact he
      | non => exact notS rfl
      | bl b => exact notS rfl
      | int i => exact notS rfl
      | lst h => exact notS rfl
      | tup h => exact notS rfl
      | dK h => exact notS rfl
    | non => exact absurd rfl hw
    | bl b => exact absurd rfl hw
    | str z => exact absurd rfl hw
    | lst h => exact absurd rfl hw
    | tup h => exact absurd rfl hw
    | dK h => exact absurd rfl hw
def spToldP (P1 P2 : Addr) : Sp := fun vs H Q _ => ∃ (x y : V) (Tx Ty : String), vs = [x, y] ∧ Kd H x Tx ∧ Kd H y Ty ∧ Tabs P1 P2 H ∧ P1 ≠ P2 ∧ (∀ z : Str, y = .str z → z.length ≤ 14000 ∧ PyData.strOk z = true) ∧
  ∀ (H' : Hp) (p : Addr), But [P1, P2] H H' → Tabs P1 P2 H' → OutAt H' x p (told9 x y) → Q (.ref p) H'
theorem But.up {L : List Addr} {H H' : Hp} {a : Addr} {o : HO} (b : But L H H') (n : H' a = none) : But L H (upd H' a o) := b.trans (But.of_same (same_upd n))
theorem PactAt.same {H H' : Hp} {p : Addr} {sts : List StA} (s : Same H H') (h : PactAt H p sts) : PactAt H' p sts := by
  obtain ⟨ts, h1, h2⟩ := h
  exact ⟨ts, s _ _ h1, Paired.mapP h2 fun t q e => e.mono fun b xs h => s _ _ h⟩
abbrev s__law_told : Stmt := topS 40
theorem sc__law_told : FnScope ["_law_worths", "_law_page", "_law_found", "_law_caught", "error"] ["_law_worths", "_law_page"] (defScope s__law_told) := ⟨rfl, rfl, rfl, by decide +kernel, rfl, by decide +kernel, by decide +kernel⟩
section
variable {P : Program} {w : World} {K : PySem.W.Frag} {mg : Str → Option Value} {base : Heap} {CE CT CR P1 P2 : Addr}
theorem ok_told {f fR : Addr} {fd dR : FuncData} (B : Bt mg) (EC : ErC K CE CT CR) (gE : mg "WireError" = some (.ref CE)) (gT : mg "BadText" = some (.ref CT)) (gR : mg "BadWorths" = some (.ref CR)) (gV : mg "ValueError" = none)
    (DR : Df K mg "read_pact" s_read_pact fR dR ["worths", "text"]) (GR : FnOk P w K mg base (L2.CX P w) 9 fR dR ["worths", "text"] (spReadPact CR CT P1 P2))
    (D : Df K mg "_law_told" s__law_told f fd ["_law_worths", "_law_page"]) :
    FnOk P w K mg base (L2.CX P w) 11 f fd ["_law_worths", "_law_page"] (spToldP P1 P2) := by
  refine D.F.okX sc__law_told (fun vs H Q E h => ?_) (fun cdv A0 outer s H vs Q E hr h => ?_)
  · obtain ⟨x, y, Tx, Ty, rfl, _⟩ := h
    rfl
  · obtain ⟨x, y, Tx, Ty, rfl, hx, hy, tab, pne, hz, k⟩ := h
    have S := sc__law_told
    refine ⟨_, (pss_cons (ps_asg (pe_tup (pa_cons pe_non (pa_cons pe_non pa_nil))) (pg_tup (by rfl) (pgs_cons (pg_name (i := 2) S.nd rfl (.inl rfl)) (pgs_cons (pg_name (i := 3) S.nd rfl (.inl rfl)) pgs_nil))))
      (pss_cons (ps_try_keep (i := 4) (ts := fun _ _ _ => tAsg (tVar 4) (gName 3)) rfl rfl rfl S.nd rfl rfl ⟨by rfl, by decide, .inl gE⟩ (takes_of rfl rfl rfl rfl)
          (fun W pn xe tk ps => pss_one (ps_set (i := 2) S.nd rfl (.inl rfl) (pe_call GR (hr.mono (by omega)) (by rfl) DR.g DR.F.kp DR.b .nil (passes_forget 5 rfl tk) (pa_cons (pv 0) (pa_cons (pv 1) pa_nil)))))
          (fun a oe cls d pn hz hv => pss_one (ps_set (i := 3) S.nd rfl (.inl rfl) (pv 4))))
      (pss_cons (ps_if (pt_cmpR op_isN1 (pv 3) pe_non (nomark _))
        (pss_one (ps_ret (pe_tup (pa_cons pe_str (pa_cons (pv 2) pa_nil)))))
        pss_nil)
      (pss_cons (ps_if (PW.pt (pw_or (pt_cmpR op_eq (pe_callB call_isK (by rfl) B.m_isinstance PyProof.Rows.boot_isinstance (pa_cons (pv 3) (pa_cons (pe_glob (v := .ref CT) (by rfl) gT rfl) pa_nil))) (pe_callB call_isK (by rfl) B.m_isinstance PyProof.Rows.boot_isinstance (pa_cons (pv 3) (pa_cons (pe_glob (v := .ref CR) (by rfl) gR rfl) pa_nil))) (nomark _)) (pw_or1 (pt_not (pt_val (pe_callB call_isK (by rfl) B.m_isinstance PyProof.Rows.boot_isinstance (pa_cons (pv 3) (pa_cons (pe_tyN bt_ValueError (by rfl) gV) pa_nil))))))))
        (pss_one (ps_ret (pe_tup (pa_cons pe_str pa_nil))))
        pss_nil)
      (pss_one (ps_ret (pe_tup (pa_cons (pe_ifExp (pt_val (pe_callB call_isK (by rfl) B.m_isinstance PyProof.Rows.boot_isinstance (pa_cons (pv 3) (pa_cons (pe_glob (v := .ref CT) (by rfl) gT rfl) pa_nil)))) pe_str pe_str) (pa_cons (pe_xk (pv 3)) pa_nil))))))))), ?_⟩
    try dsimp only [tSeq, tAsg, tTup, tCons, tNil]
    refine val_c _ (val_c _ ⟨by show 2 ≤ sizeLine; decide, fun u nu => ?_⟩)
    have s1 := same_upd (o := .tup [.non, .non]) nu
    have hu : (upd H u (.tup [.non, .non])) u = some (.tup [.non, .non]) := upd_same
    generalize (upd H u (.tup [.non, .non])) = H1 at s1 hu ⊢
    refine ⟨u, _, rfl, SqT.of hu, rfl, _, _, rfl, _, _, rfl, rfl, ?_⟩
    have hx1 : Reads9 (spReadPact CR CT P1 P2) CT CR P1 P2 x y H1 (told9 x y) := reads9 (hx.mono s1) (hy.mono s1) (tab.same s1) pne hz
    try dsimp only [gName]
    try dsimp only [tSeq, tCall, tCons, tNil]
    refine (val_var rfl) _ ((val_var rfl) _ ?_)
    generalize told9 x y = o at hx1 k
    cases o with
    | pact sts =>
      refine hx1 _ _ fun H2 p b2 t2 dq => ?_
      try dsimp only [gName, tSeq, tIfS]
      refine (ans_isN (x := .non) (b := true) (val_var rfl) (decide_eq_true rfl)) _ (iteT ?_)
      try dsimp only [tRet, tTup, tCons, tNil]
      refine val_c _ ((val_var rfl) _ ⟨by show 2 ≤ sizeLine; decide, fun t nt => ?_⟩)
      have s3 := same_upd (o := .tup [.str "pact", .ref p]) nt
      exact k _ _ (((But.of_same s1).trans b2).trans (But.of_same s3)) (t2.same s3) ⟨p, upd_same, dq.same s3⟩
    | line i =>
      refine hx1 _ _ fun d H2 b2 t2 hd => ?_
      refine ⟨true, EC.eT, fun _ e he => ?_, fun z => nomatch z⟩
      have nde : d ≠ e := ne_of_none hd he
      have hE : (upd H2 e (ExK (.ref CT) (some d) e)) e = some (ExK (.ref CT) (some d) e) := upd_same
      have hD : (upd H2 e (ExK (.ref CT) (some d) e)) d = some (.xd [(("value" : Str), .int i)]) := by
        rw [upd_ne nde]
        exact hd
      have b3 : But [P1, P2] H (upd H2 e (ExK (.ref CT) (some d) e)) := ((But.of_same s1).trans b2).up he
      have t3 : Tabs P1 P2 (upd H2 e (ExK (.ref CT) (some d) e)) := t2.same (same_upd he)
      show tVar 4 _ _ _
      refine (val_var rfl) _ ?_
      dsimp only [gName]
      generalize (upd H2 e (ExK (.ref CT) (some d) e)) = H3 at hE hD b3 t3
      have nn : decide (V.ref e = V.non) = false := decide_eq_false (fun z => nomatch z)
      dsimp only [tSeq, tIfS, tTest]
      refine (val_op (z := .bl false) (val_var rfl) val_c fun Q q => ⟨rfl, by rw [nn]; exact q⟩) _ ?_
      refine ⟨_, rfl, iteF ?_⟩
      try dsimp only [tNext, tSeq, tIfS, tOr, tTest, tOp, tNot, tB, tCB, tCons, tNil]
      refine (val_var rfl) _ ⟨e, CT, d, _, .ref CT, .ref CT, true, rfl, hE, hD, EC.xT, fun u r => r, EC.tt, ?_⟩
      refine (val_var rfl) _ ⟨e, CT, d, _, .ref CR, .ref CR, false, rfl, hE, hD, EC.xT, fun u r => r, EC.tr, ?_⟩
      refine ⟨rfl, _, rfl, iteF ?_⟩
      refine (val_var rfl) _ ⟨e, CT, d, _, .ty "ValueError", .type "ValueError", true, rfl, hE, hD, EC.xT, fun u r => r, EC.tv, _, rfl, iteF ?_⟩
      try dsimp only [tRet, tTup, tIf, tB, tCB, tCons, tNil]
      refine (val_var rfl) _ ⟨e, CT, d, _, .ref CT, .ref CT, true, rfl, hE, hD, EC.xT, fun u r => r, EC.tt, _, rfl, iteT ?_⟩
      refine val_c _ ?_
      refine (val_var rfl) _ ⟨e, CT, d, _, .int i, rfl, hE, hD, EC.fT, EC.vT, lk_hd, ?_⟩
      refine ⟨by show 2 ≤ sizeLine; decide, fun t nt => ?_⟩
      exact k _ _ (b3.up nt) (t3.same (same_upd nt)) upd_same
    | val =>
      refine hx1 _ _ fun d H2 b2 t2 hd => ?_
      refine ⟨true, EC.eR, fun _ e he => ?_, fun z => nomatch z⟩
      have nde : d ≠ e := ne_of_none hd he
      have hE : (upd H2 e (ExK (.ref CR) (some d) e)) e = some (ExK (.ref CR) (some d) e) := upd_same
      have hD : (upd H2 e (ExK (.ref CR) (some d) e)) d = some (.xd [(("value" : Str), x)]) := by
        rw [upd_ne nde]
        exact hd
      have b3 : But [P1, P2] H (upd H2 e (ExK (.ref CR) (some d) e)) := ((But.of_same s1).trans b2).up he
      have t3 : Tabs P1 P2 (upd H2 e (ExK (.ref CR) (some d) e)) := t2.same (same_upd he)
      show tVar 4 _ _ _
      refine (val_var rfl) _ ?_
      dsimp only [gName]
      generalize (upd H2 e (ExK (.ref CR) (some d) e)) = H3 at hE hD b3 t3
      have nn : decide (V.ref e = V.non) = false := decide_eq_false (fun z => nomatch z)
      dsimp only [tSeq, tIfS, tTest]
      refine (val_op (z := .bl false) (val_var rfl) val_c fun Q q => ⟨rfl, by rw [nn]; exact q⟩) _ ?_
      refine ⟨_, rfl, iteF ?_⟩
      try dsimp only [tNext, tSeq, tIfS, tOr, tTest, tOp, tNot, tB, tCB, tCons, tNil]
      refine (val_var rfl) _ ⟨e, CR, d, _, .ref CT, .ref CT, false, rfl, hE, hD, EC.xR, fun u r => r, EC.rt, ?_⟩
      refine (val_var rfl) _ ⟨e, CR, d, _, .ref CR, .ref CR, true, rfl, hE, hD, EC.xR, fun u r => r, EC.rr, ?_⟩
      refine ⟨rfl, _, rfl, iteF ?_⟩
      refine (val_var rfl) _ ⟨e, CR, d, _, .ty "ValueError", .type "ValueError", true, rfl, hE, hD, EC.xR, fun u r => r, EC.rv, _, rfl, iteF ?_⟩
      try dsimp only [tRet, tTup, tIf, tB, tCB, tCons, tNil]
      refine (val_var rfl) _ ⟨e, CR, d, _, .ref CT, .ref CT, false, rfl, hE, hD, EC.xR, fun u r => r, EC.rt, _, rfl, iteF ?_⟩
      refine val_c _ ?_
      refine (val_var rfl) _ ⟨e, CR, d, _, x, rfl, hE, hD, EC.fR, EC.vR, lk_hd, ?_⟩
      refine ⟨by show 2 ≤ sizeLine; decide, fun t nt => ?_⟩
      exact k _ _ (b3.up nt) (t3.same (same_upd nt)) upd_same
end
end K5
namespace K5
open PySem PySem.Spec PyProof.Rows L2
/-! ### drawn outcomes -/
theorem take_box {σ : L2.St} {H : Hp} {b : Addr} {p q n m : Int} {tm : TE} {i : Nat} {Q : VK} (hv : σ[i]? = some (some (.ref b))) (hm : Val tm σ H (.int m)) (hb : H b = some (.lst (bx p q n))) (Bx : Box p q n) (m0 : 0 < m) (m1 : m < 1000000) (hn : n < 1000000)
    (k : ∀ (d p' n' : Int), 0 ≤ d → d < m → Box p' q n' → n' ≤ n + 1 → Q (.int d) (upd H b (.lst (bx p' q n')))) : tCall spTake [] E0 (tCons (tVar i) (tCons tm tNil)) σ H Q := by
  try dsimp only [tCall, tCons, tNil]
  refine (val_var hv) _ ?_
  refine hm _ ?_
  exact ⟨b, m, p, q, n, rfl, hb, Bx, hn, m0, m1, fun d p' n' d0 d1 B le => k d p' n' d0 d1 B le⟩
/-- a tuple of pairs of whole numbers -/
def OsAt (H : Hp) (ts : List Addr) (os : List (Int × Int)) : Prop := Paired (fun (t : Addr) (o : Int × Int) => H t = some (.tup [.int o.1, .int o.2])) ts os
theorem OsAt.app {H : Hp} : ∀ {ts : List Addr} {os : List (Int × Int)} {t : Addr} {o : Int × Int}, OsAt H ts os → H t = some (.tup [.int o.1, .int o.2]) → OsAt H (ts ++ [t]) (os ++ [o])
  | _, _, _, _, .nil, h => .cons h .nil
  | _, _, _, _, .cons x r, h => .cons x (OsAt.app r h)
theorem OsAt.len {H : Hp} {ts : List Addr} {os : List (Int × Int)} (h : OsAt H ts os) : ts.length = os.length := Paired.length h
theorem OsAt.but {H H' : Hp} {b : Addr} {l : List V} {ts : List Addr} {os : List (Int × Int)} (h : OsAt H ts os) (s : SameBut b H H') (hb : H b = some (.lst l)) : OsAt H' ts os :=
  Paired.mapP h fun t o e => s _ _ (fun c => by rw [c, hb] at e; cases e) e
section
variable {K : PySem.W.Frag}
theorem outs_lc {b l : Addr} {m w : Nat} {t4 t5 : Option V} {is : List Int} {te2 : TE} {H : Hp} {p q n : Int} {Q : VK} (hl : H l = some (.lst (is.map V.int))) (len : is.length ≤ 6) (hb : H b = some (.lst (bx p q n))) (nbl : b ≠ l) (Bx : Box p q n) (hn : n + 30 < 1000000)
    (ht : ∀ (i : Int) (H2 : Hp) (p' n' : Int) (Q2 : VK), H2 b = some (.lst (bx p' q n')) → Box p' q n' → n' < 1000000 → (∀ (H3 : Hp) (v p3 n3 : Int), SameBut b H2 H3 → 0 ≤ v → v < (w : Int) → H3 b = some (.lst (bx p3 q n3)) → Box p3 q n3 → n3 ≤ n' + 1 → Q2 (.int v) H3) →
      te2 [some (.ref b), some (.int m), some (.int w), some (.ref l), t4, some (.int i)] H2 Q2)
    (k : ∀ (H' : Hp) (r : Addr) (ts : List Addr) (os : List (Int × Int)) (p' n' : Int), SameBut b H H' → H r = none → H' r = some (.tup (ts.map V.ref)) → OsAt H' ts os → os.map (·.1) = is → (∀ o ∈ os, 0 ≤ o.2 ∧ o.2 < (w : Int)) → H' b = some (.lst (bx p' q n')) → Box p' q n' → n' ≤ n + 6 → Q (.ref r) H') :
    tLc (iList K (tVar 3)) (gName 5) tYes (tTup (tCons (tVar 5) (tCons te2 tNil))) [5] [some (.ref b), some (.int m), some (.int w), some (.ref l), t4, t5] H fun x H1 => ∃ c ys, [x] = [V.ref c] ∧ ((SqL K H1 c ys ∧ ∀ l, H1 l = none → Q (.ref l) (upd H1 l (.tup ys))) ∨ (SqT K H1 c ys ∧ Q (.ref c) H1)) := by
  dsimp only [tLc, iList]
  refine (val_var rfl) _ ⟨l, rfl, ⟨_, SqL.of hl⟩, fun M nM => ?_⟩
  have bM : b ≠ M := ne_of_none hb nM
  have lM : l ≠ M := ne_of_none hl nM
  refine lc_list (xs := is.map V.int) (fun j H2 => ∃ (ts : List Addr) (os : List (Int × Int)) (p' n' : Int), SameBut b H H2 ∧ H2 M = some (.lst (ts.map V.ref)) ∧ OsAt H2 ts os ∧ os.map (·.1) = is.take j ∧ (∀ o ∈ os, 0 ≤ o.2 ∧ o.2 < (w : Int)) ∧ H2 b = some (.lst (bx p' q n')) ∧ Box p' q n' ∧ n' ≤ n + j)
    ⟨[], [], p, n, SameBut.of_same (same_upd nM), upd_same, .nil, rfl, fun _ h => (nomatch h), same_upd nM _ _ hb, Bx, by omega⟩ (fun j H2 _ ⟨ts, os, p', n', s2, _⟩ => SqL.of (s2 _ _ nbl.symm hl)) (fun j x H2 hj hI => ?_) fun H2 hI => ?_
  · obtain ⟨ts, os, p', n', s2, hM, a, em, ev, hb2, B2, le2⟩ := hI
    obtain ⟨i, ei, rfl⟩ : ∃ i, is[j]? = some i ∧ x = .int i := by
      rw [List.getElem?_map] at hj
      cases e : is[j]? with
      | none => rw [e] at hj; cases hj
      | some i => rw [e] at hj; exact ⟨i, rfl, (Option.some.inj hj).symm⟩
    have jlt := (List.getElem?_eq_some_iff.mp ei).1
    have ol : os.length = j := by
      have := congrArg List.length em
      rw [List.length_map, List.length_take] at this
      omega
    have al := a.len
    refine ⟨rfl, ?_⟩
    dsimp only [tYes]
    rw [if_pos rfl]
    dsimp only [tTup, tCons, tNil]
    refine (val_var rfl) _ ?_
    refine ht i H2 p' n' _ hb2 B2 (by omega) fun H3 v p3 n3 s3 v0 v1 hb3 B3 le3 => ?_
    refine ⟨by show 2 ≤ sizeLine; decide, fun t nt => ?_⟩
    have hM3 := s3 _ _ bM.symm hM
    have a3 := a.but s3 hb2
    have s4 := same_upd (o := .tup [.int i, .int v]) nt
    have a4 : OsAt (upd H3 t (.tup [.int i, .int v])) (ts ++ [t]) (os ++ [(i, v)]) := OsAt.app (Paired.mapP a3 fun t' o e => s4 _ _ e) upd_same
    have hM4 := s4 _ _ hM3
    have hb4 := s4 _ _ hb3
    have tM : t ≠ M := fun e => by rw [e, hM3] at nt; cases nt
    refine ⟨ts.map V.ref, hM4, by rw [List.length_map, al, ol]; exact Nat.lt_of_lt_of_le (show j < 7 by omega) (by decide), ts ++ [t], os ++ [(i, v)], p3, n3, ?_, ?_, a4.but (SameBut.upd M _ _) hM4, ?_, ?_, by rw [upd_ne bM]; exact hb4, B3, by omega⟩
    · intro u o nu hu
      have h3 := s4 _ _ (s3 _ _ nu (s2 _ _ nu hu))
      rw [upd_ne (ne_of_none hu nM)]
      exact h3
    · rw [List.map_append]
      exact upd_same
    · rw [List.map_append, em, List.take_add_one, ei]
      rfl
    · intro o ho
      rcases List.mem_append.mp ho with ho | ho
      · exact ev o ho
      · rw [List.mem_singleton.mp ho]
        exact ⟨v0, v1⟩
  · obtain ⟨ts, os, p', n', s2, hM, a, em, ev, hb2, B2, le2⟩ := hI
    rw [List.length_map] at em le2
    refine ⟨M, ts.map V.ref, rfl, .inl ⟨SqL.of hM, fun r nr => ?_⟩⟩
    have s5 := same_upd (o := .tup (ts.map V.ref)) nr
    have nr0 : H r = none := by
      cases e : H r with
      | none => rfl
      | some o =>
        by_cases c : r = b
        · rw [c, hb2] at nr; cases nr
        · rw [s2 _ _ c e] at nr; cases nr
    exact k _ r ts os p' n' (s2.trans (SameBut.of_same s5)) nr0 upd_same (Paired.mapP a fun t' o e => s5 _ _ e) (by rw [em, List.take_length]) ev (s5 _ _ hb2) B2 (by omega)
end
def spOutsD : Sp := fun vs H Q _ => ∃ (b : Addr) (m w : Nat) (p q n : Int), vs = [.ref b, .int m, .int w] ∧ H b = some (.lst (bx p q n)) ∧ Box p q n ∧ m ≤ 4 ∧ 1 ≤ w ∧ w ≤ 4 ∧ n + 40 < 1000000 ∧
  ∀ (H' : Hp) (r : Addr) (ts : List Addr) (os : List (Int × Int)) (p' n' : Int), SameBut b H H' → H r = none → H' r = some (.tup (ts.map V.ref)) → OsAt H' ts os → (∀ o ∈ os, -2 ≤ o.1 ∧ o.1 < (m : Int) ∧ 0 ≤ o.2 ∧ o.2 < (w : Int)) → os.length ≤ m + 2 → H' b = some (.lst (bx p' q n')) → Box p' q n' → n' ≤ n + 40 → Q (.ref r) H'
theorem ints_of {m : Int} {lo : Int} : ∀ {ys : List V}, (∀ y ∈ ys, y ∈ rgV lo m) → ∃ ns : List Int, ys = ns.map V.int ∧ ∀ i ∈ ns, lo ≤ i ∧ i < m
  | [], _ => ⟨[], rfl, fun _ h => nomatch h⟩
  | y :: ys, h => by
    obtain ⟨ns, e, g⟩ := ints_of (ys := ys) fun z hz => h z (List.mem_cons_of_mem _ hz)
    have hy := h y (List.mem_cons_self ..)
    unfold rgV at hy
    obtain ⟨j, hj, rfl⟩ := List.mem_map.mp hy
    have hj := List.mem_range.mp hj
    refine ⟨(lo + (j : Nat)) :: ns, by rw [List.map_cons, e], fun i hi => ?_⟩
    rcases List.mem_cons.mp hi with rfl | hi
    · omega
    · exact g i hi
abbrev s__law_outcomes_of : Stmt := topS 28
abbrev nmOuts : List Str := ["_law_box_here", "_law_worths", "_law_many", "_law_some_here", "_law_later", "_law_answer"]
theorem sc__law_outcomes_of : FnScope nmOuts ["_law_box_here", "_law_worths", "_law_many"] (defScope s__law_outcomes_of) := ⟨rfl, rfl, rfl, by decide +kernel, rfl, by decide +kernel, by decide +kernel⟩
section
variable {P : Program} {w : World} {K : PySem.W.Frag} {mg : Str → Option Value} {base : Heap}
theorem ok_outs {f fT fS : Addr} {fd fdT fdS : FuncData} (B : Bt mg) (ms : mg "sorted" = none) (D : Df K mg "_law_outcomes_of" s__law_outcomes_of f fd ["_law_box_here", "_law_worths", "_law_many"])
    (DT : Df K mg "_law_take" sTake fT fdT ["_law_box_here", "_law_many"]) (DS : Df K mg "_law_some" s__law_some fS fdS ["_law_box_here", "_law_items", "_law_many"]) :
    FnOk P w K mg base CX0 3 f fd ["_law_box_here", "_law_worths", "_law_many"] spOutsD := by
  have GT : FnOk P w K mg base CX0 1 fT fdT ["_law_box_here", "_law_many"] spTake := ok_take (CX := CX0) DT.F B.m_int
  have GS : FnOk P w K mg base CX0 2 fS fdS ["_law_box_here", "_law_items", "_law_many"] (spSome K) := ok_some B DS DT
  refine D.F.ok sc__law_outcomes_of (fun vs H Q E h => ?_) (fun cdv A outer s H vs Q E hr h => ?_)
  · obtain ⟨b, m, w, p, q, n, rfl, _⟩ := h
    rfl
  · obtain ⟨b, m, w, p, q, n, rfl, hb, Bx, m4, w1, w4, hn, k⟩ := h
    have S := sc__law_outcomes_of
    refine ⟨_, (pss_cons (ps_set (i := 3) S.nd rfl (.inl rfl) (pe_callB cr_sorted (by rfl) ms (by decide +kernel) (pa_cons (pe_call GS (hr.mono (by decide)) (by rfl) DS.g DS.F.kp DS.b .nil pass0 (pa_cons (pv 0) (pa_cons (pe_listRg rfl (by rfl) B.m_list (prg_2 (by rfl) B.m_range (pe_un un_neg pe_int) (pv 1))) (pa_cons (pe_op op_add pe_int (pe_call GT (hr.mono (by decide)) (by rfl) DT.g DT.F.kp DT.b .nil pass0 (pa_cons (pv 0) (pa_cons (pe_op op_add (pv 1) pe_int) pa_nil)))) pa_nil)))) pa_nil)))
      (pss_cons (ps_if (pt_cmpR op_eq (pe_call GT (hr.mono (by decide)) (by rfl) DT.g DT.F.kp DT.b .nil pass0 (pa_cons (pv 0) (pa_cons pe_int pa_nil))) pe_int (nomark _))
        (pss_cons (ps_asg (pe_tup (pa_cons (pe_listRg rfl (by rfl) B.m_list (prg_2 (by rfl) B.m_range (pe_un un_neg pe_int) (pv 1))) (pa_cons (pe_call GT (hr.mono (by decide)) (by rfl) DT.g DT.F.kp DT.b .nil pass0 (pa_cons (pv 0) (pa_cons (pv 2) pa_nil))) pa_nil))) (pg_tup (by rfl) (pgs_cons (pg_name (i := 3) S.nd rfl (.inl rfl)) (pgs_cons (pg_name (i := 4) S.nd rfl (.inr rfl)) pgs_nil))))
        (pss_one (ps_ret (pe_callTy call_tuple_of (by rfl) B.m_tuple PyProof.Rows.boot_tuple (pa_cons (pe_lc (own := [("_law_answer", 5)]) (g := gName 5) (tt := tYes) rfl S.nd (pi_list (pv 3)) (blkOk_by (own := [("_law_answer", 5)]) (N := nmOuts) (sc := defScope s__law_outcomes_of) (by decide +kernel)) (fun _ _ _ _ _ => pg_name (i := 5) S.nd rfl (Or.inl rfl)) (fun _ _ _ _ _ => pts_nil) (fun _ _ _ _ _ => pe_tup (pa_cons (pv 5) (pa_cons (pv 4) pa_nil)))) pa_nil)))))
        pss_nil)
      (pss_one (ps_ret (pe_callTy call_tuple_of (by rfl) B.m_tuple PyProof.Rows.boot_tuple (pa_cons (pe_lc (own := [("_law_answer", 5)]) (g := gName 5) (tt := tYes) rfl S.nd (pi_list (pv 3)) (blkOk_by (own := [("_law_answer", 5)]) (N := nmOuts) (sc := defScope s__law_outcomes_of) (by decide +kernel)) (fun _ _ _ _ _ => pg_name (i := 5) S.nd rfl (Or.inl rfl)) (fun _ _ _ _ _ => pts_nil) (fun _ _ _ _ _ => pe_tup (pa_cons (pv 5) (pa_cons (pe_call GT (hr.mono (by decide)) (by rfl) DT.g DT.F.kp DT.b .nil pass0 (pa_cons (pv 0) (pa_cons (pv 2) pa_nil))) pa_nil)))) pa_nil)))))), ?_⟩
    have hns : ∀ {ns : List Int} {lo : Int}, rgV lo (m : Int) = ns.map V.int → ∀ i ∈ ns, lo ≤ i ∧ i < (m : Int) := fun {ns lo} e i hi => by
      have := List.mem_map_of_mem (f := V.int) hi
      rw [← e] at this
      unfold rgV at this
      obtain ⟨j, hj, e⟩ := List.mem_map.mp this
      injection e with e
      have hj := List.mem_range.mp hj
      omega
    dsimp only [tSeq, tAsg, tCB]
    dsimp only [tCall, tCons, tNil]
    refine (val_var rfl) _ ?_
    dsimp only [tLstRg, tRg2, tUn]
    refine val_c _ ⟨2, rfl, ?_⟩
    refine (val_var rfl) _ ⟨-2, m, rfl, rfl, ⟨by omega, by omega, by omega, by omega, by omega⟩, fun l nl => ?_⟩
    have bl : b ≠ l := ne_of_none hb nl
    have s1 := same_upd (o := .lst (rgV (-2) m)) nl
    have hl1 : (upd H l (.lst (rgV (-2) m))) l = some (.lst (rgV (-2) m)) := upd_same
    have hb1 := s1 _ _ hb
    generalize (upd H l (.lst (rgV (-2) m))) = H1 at s1 hl1 hb1 ⊢
    dsimp only [tOp]
    refine val_c _ (take_box rfl (val_i0 (val_var rfl) val_c) hb1 Bx (by omega) (by omega) (by omega) fun d p1 n1 d0 d1 B1 le1 => ?_)
    refine ⟨1, d, rfl, rfl, ?_⟩
    have ed : (1 : Int) + d = (((1 + d).toNat : Nat) : Int) := by omega
    have rl : (rgV (-2) (m : Int)).length = m + 2 := by rw [rgV_length]; omega
    refine ⟨b, l, rgV (-2) m, (1 + d).toNat, p1, q, n1, by rw [← ed]; rfl, upd_same, B1, SqL.of (by rw [upd_ne bl.symm]; exact hl1), by omega, by omega, by omega, fun H2 r ys rest p2 n2 s2 nr hr2 hb2 B2 le2 yl yp => ?_⟩
    have s02 : SameBut b H H2 := ((SameBut.of_same s1).trans (SameBut.upd b _ _)).trans s2
    obtain ⟨ns, rfl, nr2⟩ := ints_of (lo := -2) (m := m) (ys := ys) fun y hy => yp.mem_iff.mp (List.mem_append_left _ hy)
    rw [List.length_map] at yl
    refine ⟨r, ns, rfl, SqL.of hr2, by omega, fun is o perm _ no => ?_⟩
    have il : is.length ≤ 6 := by rw [perm.length_eq]; omega
    have ir : ∀ i ∈ is, -2 ≤ i ∧ i < (m : Int) := fun i hi => nr2 i (perm.mem_iff.mp hi)
    have ilm : is.length ≤ m + 2 := by rw [perm.length_eq]; omega
    have bo : b ≠ o := ne_of_none hb2 no
    have s3 := same_upd (o := .lst (is.map V.int)) no
    have ho3 : (upd H2 o (.lst (is.map V.int))) o = some (.lst (is.map V.int)) := upd_same
    have hb3 := s3 _ _ hb2
    have s03 := s02.trans (SameBut.of_same s3)
    generalize (upd H2 o (.lst (is.map V.int))) = H3 at s3 ho3 hb3 s03 ⊢
    dsimp only [gName]
    dsimp only [tSeq, tIfS, tTest, tOp]
    refine take_box rfl val_c hb3 B2 (by decide) (by decide) (by omega) fun d2 p3 n3 d20 d21 B3 le3 => ?_
    have s04 := s03.trans (SameBut.upd b H3 (.lst (bx p3 q n3)))
    have hb4 : (upd H3 b (.lst (bx p3 q n3))) b = some (.lst (bx p3 q n3)) := upd_same
    have ho4 : (upd H3 b (.lst (bx p3 q n3))) o = some (.lst (is.map V.int)) := by rw [upd_ne bo.symm]; exact ho3
    generalize (upd H3 b (.lst (bx p3 q n3))) = H4 at s04 hb4 ho4 ⊢
    have kfin : ∀ {lo : Int} {js : List Int}, (-2 ≤ lo) → (∀ i ∈ js, lo ≤ i ∧ i < (m : Int)) → js.length ≤ m + 2 → ∀ {H5 : Hp} {n5 : Int}, SameBut b H H5 → (∀ u, H5 u = none → H u = none) → n5 ≤ n + 20 → ∀ (H' : Hp) (r : Addr) (ts : List Addr) (os : List (Int × Int)) (p' n' : Int), SameBut b H5 H' → H5 r = none → H' r = some (.tup (ts.map V.ref)) → OsAt H' ts os → os.map (·.1) = js → (∀ o ∈ os, 0 ≤ o.2 ∧ o.2 < (w : Int)) → H' b = some (.lst (bx p' q n')) → Box p' q n' → n' ≤ n5 + 6 → Q (.ref r) H' := by
      intro lo js h2 hjs hlen H5 n5 s5 fr5 le5 H' r ts os p' n' s6 nr6 hr6 a6 em ev hb6 B6 le6
      refine k H' r ts os p' n' (s5.trans s6) (fr5 _ nr6) hr6 a6 (fun o ho => ?_) ?_ hb6 B6 (by omega)
      · have := hjs o.1 (by rw [← em]; exact List.mem_map_of_mem ho)
        have := ev o ho
        omega
      · have := congrArg List.length em
        rw [List.length_map] at this
        omega
    have fr : ∀ {H5 : Hp}, SameBut b H H5 → (∃ o, H5 b = some o) → ∀ u, H5 u = none → H u = none := fun {H5} s5 ⟨o, hb5⟩ u nu => by
      cases e : H u with
      | none => rfl
      | some o =>
        by_cases c : u = b
        · rw [c, hb5] at nu; cases nu
        · rw [s5 _ _ c e] at nu; cases nu
    refine val_c _ ⟨rfl, _, rfl, ?_⟩
    cases decide (V.int d2 = V.int 0) with
    | false =>
      refine iteF ?_
      try dsimp only [tNext, tSeq, tRet]
      dsimp only [tCB]
      refine outs_lc (b := b) (l := o) (m := m) (w := w) (t4 := none) (t5 := none) (is := is) (p := p3) (q := q) (n := n3) ho4 il hb4 bo B3 (by omega) (fun i H5 p' n' Q2 h5 B5 le5 g => ?_) ?_
      · refine take_box rfl (val_var rfl) h5 B5 (by omega) (by omega) le5 fun v p6 n6 v0 v1 B6 le6 => ?_
        exact g _ v p6 n6 (SameBut.upd b _ _) v0 v1 upd_same B6 le6
      · exact kfin (by decide) ir ilm s04 (fr s04 ⟨_, hb4⟩) (by omega)
    | true =>
      refine iteT ?_
      dsimp only [tAsg, tTup, tCons, tNil]
      dsimp only [tLstRg, tRg2, tUn]
      refine val_c _ ⟨1, rfl, ?_⟩
      refine (val_var rfl) _ ⟨-1, m, rfl, rfl, ⟨by omega, by omega, by omega, by omega, by omega⟩, fun l2 nl2 => ?_⟩
      have bl2 : b ≠ l2 := ne_of_none hb4 nl2
      have s5 := same_upd (o := .lst (rgV (-1) m)) nl2
      have hl5 : (upd H4 l2 (.lst (rgV (-1) m))) l2 = some (.lst (rgV (-1) m)) := upd_same
      have hb5 := s5 _ _ hb4
      have s05 := s04.trans (SameBut.of_same s5)
      generalize (upd H4 l2 (.lst (rgV (-1) m))) = H5 at s05 hl5 hb5 ⊢
      refine take_box rfl (val_var rfl) hb5 B3 (by omega) (by omega) (by omega) fun v p6 n6 v0 v1 B6 le6 => ?_
      have s06 := s05.trans (SameBut.upd b H5 (.lst (bx p6 q n6)))
      have hb6 : (upd H5 b (.lst (bx p6 q n6))) b = some (.lst (bx p6 q n6)) := upd_same
      have hl6 : (upd H5 b (.lst (bx p6 q n6))) l2 = some (.lst (rgV (-1) m)) := by rw [upd_ne bl2.symm]; exact hl5
      generalize (upd H5 b (.lst (bx p6 q n6))) = H6 at s06 hb6 hl6 ⊢
      refine ⟨by show 2 ≤ sizeLine; decide, fun u nu => ?_⟩
      have s7 := same_upd (o := .tup [.ref l2, .int v]) nu
      have hu : (upd H6 u (.tup [.ref l2, .int v])) u = some (.tup [.ref l2, .int v]) := upd_same
      have hb7 := s7 _ _ hb6
      have hl7 := s7 _ _ hl6
      have s07 := s06.trans (SameBut.of_same s7)
      generalize (upd H6 u (.tup [.ref l2, .int v])) = H7 at s07 hu hb7 hl7 ⊢
      refine ⟨u, _, rfl, SqT.of hu, rfl, _, _, rfl, _, _, rfl, rfl, ?_⟩
      try dsimp only [gName]
      try dsimp only [tNext, tSeq, tRet]
      dsimp only [tCB]
      obtain ⟨js, ej, jr⟩ := ints_of (lo := -1) (m := m) (ys := rgV (-1) m) fun _ h => h
      rw [ej] at hl7
      have jl : js.length = m + 1 := by
        have := congrArg List.length ej
        rw [rgV_length, List.length_map] at this
        omega
      refine outs_lc (b := b) (l := l2) (m := m) (w := w) (t4 := some (.int v)) (t5 := none) (is := js) (p := p6) (q := q) (n := n6) hl7 (by omega) hb7 bl2 B6 (by omega) (fun i H8 p' n' Q2 h8 B8 le8 g => ?_) ?_
      · exact (val_var rfl) _ (g _ v p' n' (SameBut.of_same (Same.refl _)) v0 v1 h8 B8 (by omega))
      · exact kfin (by decide) jr (by omega) s07 (fr s07 ⟨_, hb7⟩) (by omega)
end
end K5
namespace K5
open PySem PySem.Spec PyProof.Rows L2
/-! ### a drawn pact -/
abbrev RwD := (Str × Nat) × List (Int × Int)
def OuAt (H : Hp) (o : Addr) (os : List (Int × Int)) : Prop := ∃ ts : List Addr, H o = some (.tup (ts.map V.ref)) ∧ OsAt H ts os
def RowD (H : Hp) (t : Addr) (r : RwD) : Prop := ∃ o, H t = some (.tup [.str r.1.1, .int r.1.2, .ref o]) ∧ OuAt H o r.2
def StD (H : Hp) (p : Addr) (rs : List RwD) : Prop := ∃ ts : List Addr, H p = some (.tup (ts.map V.ref)) ∧ Paired (RowD H) ts rs
/-- tuples stay -/
def TKeep (H H' : Hp) : Prop := ∀ b xs, H b = some (.tup xs) → H' b = some (.tup xs)
theorem TKeep.same {H H' : Hp} (s : Same H H') : TKeep H H' := fun b xs h => s _ _ h
theorem TKeep.but {H H' : Hp} {b : Addr} {l : List V} (s : SameBut b H H') (h : H b = some (.lst l)) : TKeep H H' := fun c xs hc => s _ _ (fun e => by rw [e, h] at hc; cases hc) hc
theorem OuAt.mono {H H' : Hp} (k : TKeep H H') {o : Addr} {os : List (Int × Int)} (h : OuAt H o os) : OuAt H' o os := by
  obtain ⟨ts, h1, h2⟩ := h
  exact ⟨ts, k _ _ h1, Paired.mapP h2 fun t q e => k _ _ e⟩
theorem RowD.mono {H H' : Hp} (k : TKeep H H') {t : Addr} {r : RwD} (h : RowD H t r) : RowD H' t r := by
  obtain ⟨o, h1, h2⟩ := h
  exact ⟨o, k _ _ h1, h2.mono k⟩
theorem StD.mono {H H' : Hp} (k : TKeep H H') {p : Addr} {rs : List RwD} (h : StD H p rs) : StD H' p rs := by
  obtain ⟨ts, h1, h2⟩ := h
  exact ⟨ts, k _ _ h1, Paired.mapP h2 fun t q e => e.mono k⟩
theorem paired_app {α β : Type} {R : α → β → Prop} : ∀ {l : List α} {m : List β} {a : α} {b : β}, Paired R l m → R a b → Paired R (l ++ [a]) (m ++ [b])
  | _, _, _, _, .nil, h => .cons h .nil
  | _, _, _, _, .cons x r, h => .cons x (paired_app r h)
def poolD : List Str := ["get", "state", "put", "lost", "busy", "a", "abcdefgh", "x", "zz"]
def OsOk (os : List (Int × Int)) : Prop := os.length ≤ 6 ∧ ∀ o ∈ os, -2 ≤ o.1 ∧ o.1 < 4 ∧ 0 ≤ o.2 ∧ o.2 < 4
def RowOk (r : RwD) : Prop := r.1.1 ∈ poolD ∧ r.1.2 < 4 ∧ OsOk r.2
def spPactD : Sp := fun vs H Q _ => ∃ (b : Addr) (m : Nat) (p q n : Int), vs = [.ref b, .int m] ∧ H b = some (.lst (bx p q n)) ∧ Box p q n ∧ m ≤ 4 ∧ n + 4000 < 1000000 ∧
  ∀ (H' : Hp) (r : Addr) (ps : List Addr) (sts : List (List RwD)) (p' n' : Int), SameBut b H H' → H r = none → H' r = some (.tup (ps.map V.ref)) → Paired (StD H') ps sts → (∀ s ∈ sts, s.length ≤ 12 ∧ ∀ w ∈ s, RowOk w) → sts.length ≤ 4 → 0 < sts.length → H' b = some (.lst (bx p' q n')) → Box p' q n' → n' ≤ n + 4000 → Q (.ref r) H'
structure Pk (H : Hp) (b D S : Addr) (ds : List Str) (q : Int) (H' : Hp) (ps : List Addr) (sts : List (List RwD)) (p' n' : Int) : Prop where
  sb : SameBut b H H'
  hd : H' D = some (.lst (ds.map V.str))
  hs : H' S = some (.lst (ps.map V.ref))
  hp : Paired (StD H') ps sts
  ok : ∀ s ∈ sts, s.length ≤ 12 ∧ ∀ w ∈ s, RowOk w
  hb : H' b = some (.lst (bx p' q n'))
  bo : Box p' q n'
theorem Pk.step {H H1 H2 : Hp} {b D S : Addr} {ds : List Str} {q p1 n1 p2 n2 : Int} {ps : List Addr} {sts : List (List RwD)} (x : Pk H b D S ds q H1 ps sts p1 n1) (s : SameBut b H1 H2) (bD : b ≠ D) (bS : b ≠ S) (hb2 : H2 b = some (.lst (bx p2 q n2))) (B2 : Box p2 q n2) : Pk H b D S ds q H2 ps sts p2 n2 :=
  ⟨x.sb.trans s, s _ _ bD.symm x.hd, s _ _ bS.symm x.hs, Paired.mapP x.hp fun _ _ e => e.mono (TKeep.but s x.hb), x.ok, hb2, B2⟩
theorem Pk.same {H H1 H2 : Hp} {b D S : Addr} {ds : List Str} {q p1 n1 : Int} {ps : List Addr} {sts : List (List RwD)} (x : Pk H b D S ds q H1 ps sts p1 n1) (s : Same H1 H2) : Pk H b D S ds q H2 ps sts p1 n1 :=
  ⟨x.sb.trans (SameBut.of_same s), s _ _ x.hd, s _ _ x.hs, Paired.mapP x.hp fun _ _ e => e.mono (TKeep.same s), x.ok, s _ _ x.hb, x.bo⟩
/-- a list of ours grows -/
theorem Pk.list {H H1 : Hp} {b D S R : Addr} {ds : List Str} {q p1 n1 : Int} {ps : List Addr} {sts : List (List RwD)} {l l' : List V} (x : Pk H b D S ds q H1 ps sts p1 n1) (hr : H1 R = some (.lst l)) (nR : H R = none) (bR : b ≠ R) (DR : D ≠ R) (SR : S ≠ R) : Pk H b D S ds q (upd H1 R (.lst l')) ps sts p1 n1 :=
  ⟨fun u o nu hu => by rw [upd_ne (ne_of_none hu nR)]; exact x.sb _ _ nu hu, by rw [upd_ne DR]; exact x.hd, by rw [upd_ne SR]; exact x.hs, Paired.mapP x.hp fun _ _ e => e.mono (TKeep.but (SameBut.upd R H1 _) hr), x.ok, by rw [upd_ne bR]; exact x.hb, x.bo⟩
structure Rk (H : Hp) (b D S R : Addr) (ds : List Str) (q : Int) (H' : Hp) (ps : List Addr) (sts : List (List RwD)) (p' n' : Int) (ts : List Addr) (rs : List RwD) : Prop where
  pk : Pk H b D S ds q H' ps sts p' n'
  hr : H' R = some (.lst (ts.map V.ref))
  rr : Paired (RowD H') ts rs
  okr : ∀ w ∈ rs, RowOk w
theorem Rk.step {H H1 H2 : Hp} {b D S R : Addr} {ds : List Str} {q p1 n1 p2 n2 : Int} {ps ts : List Addr} {sts : List (List RwD)} {rs : List RwD} (x : Rk H b D S R ds q H1 ps sts p1 n1 ts rs) (s : SameBut b H1 H2) (bD : b ≠ D) (bS : b ≠ S) (bR : b ≠ R) (hb2 : H2 b = some (.lst (bx p2 q n2))) (B2 : Box p2 q n2) : Rk H b D S R ds q H2 ps sts p2 n2 ts rs :=
  ⟨x.pk.step s bD bS hb2 B2, s _ _ bR.symm x.hr, Paired.mapP x.rr fun _ _ e => e.mono (TKeep.but s x.pk.hb), x.okr⟩
theorem Rk.push {H H1 : Hp} {b D S R t o : Addr} {ds : List Str} {q p1 n1 : Int} {ps ts : List Addr} {sts : List (List RwD)} {rs : List RwD} {r : RwD} (x : Rk H b D S R ds q H1 ps sts p1 n1 ts rs) (nt : H1 t = none) (ho : OuAt H1 o r.2) (ok : RowOk r) (nR : H R = none) (bR : b ≠ R) (DR : D ≠ R) (SR : S ≠ R) :
    Rk H b D S R ds q (upd (upd H1 t (.tup [.str r.1.1, .int r.1.2, .ref o])) R (.lst (ts.map V.ref ++ [.ref t]))) ps sts p1 n1 (ts ++ [t]) (rs ++ [r]) := by
  have s := same_upd (o := .tup [.str r.1.1, .int r.1.2, .ref o]) nt
  have hR := s _ _ x.hr
  have tR : t ≠ R := fun e => by rw [e, x.hr] at nt; cases nt
  have tk : TKeep (upd H1 t (.tup [.str r.1.1, .int r.1.2, .ref o])) (upd (upd H1 t (.tup [.str r.1.1, .int r.1.2, .ref o])) R (.lst (ts.map V.ref ++ [.ref t]))) := TKeep.but (SameBut.upd R _ _) hR
  refine ⟨(x.pk.same s).list hR nR bR DR SR, by rw [List.map_append]; exact upd_same, paired_app (Paired.mapP x.rr fun _ _ e => (e.mono (TKeep.same s)).mono tk) ⟨o, by rw [upd_ne tR]; exact upd_same, (ho.mono (TKeep.same s)).mono tk⟩, fun w hw => ?_⟩
  rcases List.mem_append.mp hw with hw | hw
  · exact x.okr w hw
  · rw [List.mem_singleton.mp hw]
    exact ok
theorem strs_of {xs : List Str} : ∀ {ys : List V}, (∀ y ∈ ys, y ∈ xs.map V.str) → ∃ zs : List Str, ys = zs.map V.str ∧ ∀ z ∈ zs, z ∈ xs
  | [], _ => ⟨[], rfl, fun _ h => nomatch h⟩
  | y :: ys, h => by
    obtain ⟨zs, e, g⟩ := strs_of (ys := ys) fun z hz => h z (List.mem_cons_of_mem _ hz)
    obtain ⟨z, hz, rfl⟩ := List.mem_map.mp (h y (List.mem_cons_self ..))
    refine ⟨z :: zs, by rw [List.map_cons, e], fun i hi => ?_⟩
    rcases List.mem_cons.mp hi with rfl | hi
    · exact hz
    · exact g i hi
abbrev tRows (K : PySem.W.Frag) : TS := tIfS (tTest (tOp rNotN (tVar 9) (tC .non))) (tDrop (tBM K "list" rAppend (tVar 7) (tCons (tTup (tCons (tVar 8) (tCons (tVar 10) (tCons (tVar 9) tNil)))) tNil))) (tIfS (tTest (tOp (rI0 fun i j => V.bl (decide (j < i))) (tCall spTake [] E0 (tCons (tVar 0) (tCons (tC (V.int 3)) tNil))) (tC (V.int 0)))) (tDrop (tBM K "list" rAppend (tVar 7) (tCons (tTup (tCons (tVar 8) (tCons (tVar 10) (tCons (tCall spOutsD [] E0 (tCons (tVar 0) (tCons (tVar 1) (tCons (tVar 4) tNil)))) tNil)))) tNil))) tNext)
theorem worths_loop {K : PySem.W.Frag} {D0 : Ends} {H H8 : Hp} {b D S R : Addr} {L : Addr} {m w : Nat} {ds : List Str} {q p8 n8 : Int} {ps ts : List Addr} {sts : List (List RwD)} {rs : List RwD} {z : Str} {av : V} {t6 t10 : Option V} (bD : b ≠ D) (bS : b ≠ S) (bR : b ≠ R) (nR : H R = none) (DR : D ≠ R) (SR : S ≠ R)
    (rk : Rk H b D S R ds q H8 ps sts p8 n8 ts rs) (hz : z ∈ poolD) (al : av = .non ∨ ∃ o os, av = .ref o ∧ OuAt H8 o os ∧ OsOk os) (m4 : m ≤ 4) (w1 : 1 ≤ w) (w4 : w ≤ 4) (rl : rs.length ≤ 20) (hn : n8 + 300 < 1000000)
    (hd : ∀ (t10 : Option V) (H' : Hp) (p' n' : Int) (ts' : List Addr) (rs' : List RwD), Rk H b D S R ds q H' ps sts p' n' ts' rs' → rs'.length ≤ rs.length + 4 → n' ≤ n8 + 180 → D0.nx [some (.ref b), some (.int m), some (.ref L), some (.ref D), some (.int w), some (.ref S), t6, some (.ref R), some (.str z), some av, t10] H') :
    tFor (iRng1 (tCons (tVar 1) tNil)) (gName 10) (tRows K) D0 [some (.ref b), some (.int m), some (.ref L), some (.ref D), some (.int w), some (.ref S), t6, some (.ref R), some (.str z), some av, t10] H8 := by
  refine ⟨.int m, rfl, m, rfl, by omega, by omega, ?_⟩
  show ∃ W : Nat → Nat → L2.St → Hp → Prop, _
  refine for_range (lo := 0) (n := (m : Int).toNat) (fun c σ H' => ∃ (t10 : Option V) (p' n' : Int) (ts' : List Addr) (rs' : List RwD), σ = [some (.ref b), some (.int m), some (.ref L), some (.ref D), some (.int w), some (.ref S), t6, some (.ref R), some (.str z), some av, t10] ∧ Rk H b D S R ds q H' ps sts p' n' ts' rs' ∧ rs'.length ≤ rs.length + c ∧ n' ≤ n8 + 42 * c ∧ TKeep H8 H') ?_ ?_ ?_
  · exact ⟨t10, p8, n8, ts, rs, rfl, rk, by omega, by omega, fun _ _ h => h⟩
  · rintro c σ H9 hc ⟨t10, p9, n9, ts9, rs9, rfl, rk9, rl9, le9, tk9⟩
    have tl : ts9.length = rs9.length := Paired.length rk9.rr
    rw [show (0 : Int) + (c : Nat) = (c : Nat) by omega]
    dsimp only [gName]
    dsimp only [tRows, tIfS, tTest, tOp]
    refine (val_var rfl) _ (val_c _ ?_)
    rcases al with rfl | ⟨o, os, rfl, ho, ok⟩
    · refine ⟨rfl, _, rfl, iteF ?_⟩
      refine take_box rfl val_c rk9.pk.hb rk9.pk.bo (by decide) (by decide) (by omega) fun d p1 n1 d0 d1 B1 le1 => ?_
      have rk1 := rk9.step (SameBut.upd b H9 (.lst (bx p1 q n1))) bD bS bR upd_same B1
      have tk1 := TKeep.but (SameBut.upd b H9 (.lst (bx p1 q n1))) rk9.pk.hb
      generalize (upd H9 b (.lst (bx p1 q n1))) = H10 at rk1 tk1 ⊢
      refine val_c _ ⟨d, 0, rfl, rfl, _, rfl, ?_⟩
      cases decide ((0 : Int) < d) with
      | false =>
        refine iteF ?_
        exact ⟨_, p1, n1, ts9, rs9, rfl, rk1, by omega, by omega, fun b xs h => tk1 _ _ (tk9 _ _ h)⟩
      | true =>
        refine iteT ?_
        dsimp only [tDrop, tBM, tTup, tCons, tNil]
        refine (val_var rfl) _ ?_
        refine ⟨.inl ⟨rfl, _, SqL.of rk1.hr⟩, (val_var rfl) _ ((val_var rfl) _ ?_)⟩
        dsimp only [tCall, tCons, tNil]
        refine (val_var rfl) _ ((val_var rfl) _ ((val_var rfl) _ ?_))
        refine ⟨b, m, w, p1, q, n1, rfl, rk1.pk.hb, rk1.pk.bo, m4, w1, w4, by omega, fun H11 o2 ts2 os2 p2 n2 s11 no2 ho2 a2 ev2 ol2 hb2 B2 le2 => ?_⟩
        have rk2 := rk1.step s11 bD bS bR hb2 B2
        have tk2 := TKeep.but s11 rk1.pk.hb
        refine ⟨by show 3 ≤ sizeLine; decide, fun t nt => ?_⟩
        have ok2 : RowOk ((z, c), os2) := ⟨hz, (show c < 4 by omega), (show os2.length ≤ 6 by omega), fun o ho => by have := ev2 o ho; omega⟩
        have rk3 := rk2.push (r := ((z, c), os2)) nt ⟨ts2, ho2, a2⟩ ok2 nR bR DR SR
        have s12 := same_upd (o := .tup [.str z, .int (c : Nat), .ref o2]) nt
        have hR' := s12 _ _ rk2.hr
        refine ⟨R, ts9.map V.ref, .ref t, rfl, rfl, hR', ?_, ?_⟩
        · rw [List.length_map, tl]
          exact Nat.lt_of_lt_of_le (show rs9.length < 100 by omega) (by decide)
        · exact ⟨_, p2, n2, ts9 ++ [t], rs9 ++ [((z, c), os2)], rfl, rk3, by rw [List.length_append]; show rs9.length + 1 ≤ _; omega, by omega, fun u xs h => TKeep.but (SameBut.upd R _ _) hR' _ _ (s12 _ _ (tk2 _ _ (tk1 _ _ (tk9 _ _ h))))⟩
    · refine ⟨rfl, _, rfl, iteT ?_⟩
      dsimp only [tDrop, tBM, tTup, tCons, tNil]
      refine (val_var rfl) _ ?_
      refine ⟨.inl ⟨rfl, _, SqL.of rk9.hr⟩, (val_var rfl) _ ((val_var rfl) _ ((val_var rfl) _ ?_))⟩
      refine ⟨by show 3 ≤ sizeLine; decide, fun t nt => ?_⟩
      have ok2 : RowOk ((z, c), os) := ⟨hz, (show c < 4 by omega), ok⟩
      have rk3 := rk9.push (r := ((z, c), os)) nt (ho.mono tk9) ok2 nR bR DR SR
      have s12 := same_upd (o := .tup [.str z, .int (c : Nat), .ref o]) nt
      have hR' := s12 _ _ rk9.hr
      refine ⟨R, ts9.map V.ref, .ref t, rfl, rfl, hR', ?_, ?_⟩
      · rw [List.length_map, tl]
        exact Nat.lt_of_lt_of_le (show rs9.length < 100 by omega) (by decide)
      · exact ⟨_, p9, n9, ts9 ++ [t], rs9 ++ [((z, c), os)], rfl, rk3, by rw [List.length_append]; show rs9.length + 1 ≤ _; omega, by omega, fun u xs h => TKeep.but (SameBut.upd R _ _) hR' _ _ (s12 _ _ (tk9 _ _ h))⟩
  · rintro σ H9 ⟨t10, p9, n9, ts9, rs9, rfl, rk9, rl9, le9, _⟩
    exact hd t10 H9 p9 n9 ts9 rs9 rk9 (by omega) (by omega)
abbrev s__law_pact : Stmt := topS 29
abbrev nmPact : List Str := ["_law_box_here", "_law_worths", "_law_pool", "_law_doors", "_law_many", "_law_states", "_law_number_here", "_law_rows", "_law_door", "_law_alike", "_law_worth"]
theorem sc__law_pact : FnScope nmPact ["_law_box_here", "_law_worths"] (defScope s__law_pact) := ⟨rfl, rfl, rfl, by decide +kernel, rfl, by decide +kernel, by decide +kernel⟩
section
variable {P : Program} {w : World} {K : PySem.W.Frag} {mg : Str → Option Value} {base : Heap}
theorem ok_pactD {f fT fS fO : Addr} {fd fdT fdS fdO : FuncData} (B : Bt mg) (ms : mg "sorted" = none) (D : Df K mg "_law_pact" s__law_pact f fd ["_law_box_here", "_law_worths"])
    (DT : Df K mg "_law_take" sTake fT fdT ["_law_box_here", "_law_many"]) (DS : Df K mg "_law_some" s__law_some fS fdS ["_law_box_here", "_law_items", "_law_many"]) (DO : Df K mg "_law_outcomes_of" s__law_outcomes_of fO fdO ["_law_box_here", "_law_worths", "_law_many"]) :
    FnOk P w K mg base CX0 4 f fd ["_law_box_here", "_law_worths"] spPactD := by
  have GT : FnOk P w K mg base CX0 1 fT fdT ["_law_box_here", "_law_many"] spTake := ok_take (CX := CX0) DT.F B.m_int
  have GS : FnOk P w K mg base CX0 2 fS fdS ["_law_box_here", "_law_items", "_law_many"] (spSome K) := ok_some B DS DT
  have GO : FnOk P w K mg base CX0 3 fO fdO ["_law_box_here", "_law_worths", "_law_many"] spOutsD := ok_outs B ms DO DT DS
  refine D.F.ok sc__law_pact (fun vs H Q E h => ?_) (fun cdv A outer s H vs Q E hr h => ?_)
  · obtain ⟨b, m, p, q, n, rfl, _⟩ := h
    rfl
  · obtain ⟨b, m, p, q, n, rfl, hb, Bx, m4, hn, k⟩ := h
    have S := sc__law_pact
    refine ⟨_, (pss_cons (ps_set (i := 2) S.nd rfl (.inl rfl) (pe_lst (pa_cons pe_str (pa_cons pe_str (pa_cons pe_str (pa_cons pe_str (pa_cons pe_str (pa_cons pe_str (pa_cons pe_str (pa_cons pe_str (pa_cons pe_str pa_nil)))))))))))
      (pss_cons (ps_par3 (i := 3) (j := 4) (l := 5) (by rfl) S.nd rfl rfl rfl (by decide) (by decide) (by decide) rfl rfl rfl (pa_cons (pe_callB cr_sortedS (by rfl) ms (by decide +kernel) (pa_cons (pe_call GS (hr.mono (by decide)) (by rfl) DS.g DS.F.kp DS.b .nil pass0 (pa_cons (pv 0) (pa_cons (pv 2) (pa_cons (pe_op op_add pe_int (pe_call GT (hr.mono (by decide)) (by rfl) DT.g DT.F.kp DT.b .nil pass0 (pa_cons (pv 0) (pa_cons pe_int pa_nil)))) pa_nil)))) pa_nil))
          (pa_cons (pe_op op_add pe_int (pe_call GT (hr.mono (by decide)) (by rfl) DT.g DT.F.kp DT.b .nil pass0 (pa_cons (pv 0) (pa_cons pe_int pa_nil)))) (pa_cons (pe_lst pa_nil) pa_nil))) (by rfl))
      (pss_cons (ps_for PassesOwn.never rfl (pi_range1 (by rfl) B.m_range (pa_cons (pv 4) pa_nil)) (pg_name (i := 6) S.nd rfl (.inl rfl))
        (pss_cons (ps_set (i := 7) S.nd rfl (.inl rfl) (pe_lst pa_nil))
        (pss_cons (ps_for PassesOwn.never rfl (pi_list (pv 3)) (pg_name (i := 8) S.nd rfl (.inl rfl))
          (pss_cons (ps_set (i := 9) S.nd rfl (.inl rfl) (pe_ifExp (pt_cmpR op_eq (pe_call GT (hr.mono (by decide)) (by rfl) DT.g DT.F.kp DT.b .nil pass0 (pa_cons (pv 0) (pa_cons pe_int pa_nil))) pe_int (nomark _)) (pe_call GO (hr.mono (by decide)) (by rfl) DO.g DO.F.kp DO.b .nil pass0 (pa_cons (pv 0) (pa_cons (pv 1) (pa_cons (pv 4) pa_nil)))) pe_non))
          (pss_one (ps_for PassesOwn.never rfl (pi_range1 (by rfl) B.m_range (pa_cons (pv 1) pa_nil)) (pg_name (i := 10) S.nd rfl (.inl rfl))
            (pss_one (ps_if (pt_cmpR op_notN1 (pv 9) pe_non (nomark _))
              (pss_one (ps_expr (pe_bm PySem.F.plainAttrs_list PySem.F.slot_list_append PySem.F.type_list_append mt_append (pv 7) (pa_cons (pe_tup (pa_cons (pv 8) (pa_cons (pv 10) (pa_cons (pv 9) pa_nil)))) pa_nil))))
              (pss_one (ps_if (pt_cmpR op_gt (pe_call GT (hr.mono (by decide)) (by rfl) DT.g DT.F.kp DT.b .nil pass0 (pa_cons (pv 0) (pa_cons pe_int pa_nil))) pe_int (nomark _))
                (pss_one (ps_expr (pe_bm PySem.F.plainAttrs_list PySem.F.slot_list_append PySem.F.type_list_append mt_append (pv 7) (pa_cons (pe_tup (pa_cons (pv 8) (pa_cons (pv 10) (pa_cons (pe_call GO (hr.mono (by decide)) (by rfl) DO.g DO.F.kp DO.b .nil pass0 (pa_cons (pv 0) (pa_cons (pv 1) (pa_cons (pv 4) pa_nil)))) pa_nil)))) pa_nil))))
                pss_nil))))))))
        (pss_one (ps_expr (pe_bm PySem.F.plainAttrs_list PySem.F.slot_list_append PySem.F.type_list_append mt_append (pv 5) (pa_cons (pe_callTy call_tuple_of (by rfl) B.m_tuple PyProof.Rows.boot_tuple (pa_cons (pv 7) pa_nil)) pa_nil)))))))
      (pss_one (ps_ret (pe_callTy call_tuple_of (by rfl) B.m_tuple PyProof.Rows.boot_tuple (pa_cons (pv 5) pa_nil))))))), ?_⟩
    dsimp only [tSeq, tAsg]
    dsimp only [tLst, tCons, tNil]
    refine val_c _ (val_c _ (val_c _ (val_c _ (val_c _ (val_c _ (val_c _ (val_c _ (val_c _ ⟨by show 9 ≤ sizeLine; decide, fun L nL => ?_⟩))))))))
    have bL : b ≠ L := ne_of_none hb nL
    have s1 : Same H (upd H L (.lst (poolD.map V.str))) := same_upd nL
    have hL1 : (upd H L (.lst (poolD.map V.str))) L = some (.lst (poolD.map V.str)) := upd_same
    have hb1 := s1 _ _ hb
    dsimp only [gName]
    try dsimp only [tPar3, tCB]
    change tCall _ _ _ _ _ (upd H L (.lst (poolD.map V.str))) _
    generalize (upd H L (.lst (poolD.map V.str))) = H1 at s1 hL1 hb1 ⊢
    dsimp only [tCall]
    refine (val_var rfl) _ ((val_var rfl) _ ?_)
    dsimp only [tCons, tNil, tOp]
    refine val_c _ (take_box rfl val_c hb1 Bx (by decide) (by decide) (by omega) fun d p1 n1 d0 d1 B1 le1 => ⟨1, d, rfl, rfl, ?_⟩)
    have ed : (1 : Int) + d = (((1 + d).toNat : Nat) : Int) := by omega
    have pl : (poolD.map V.str).length = 9 := rfl
    refine ⟨b, L, poolD.map V.str, (1 + d).toNat, p1, q, n1, by rw [← ed]; rfl, upd_same, B1, SqL.of (by rw [upd_ne bL.symm]; exact hL1), by omega, by omega, by omega, fun H2 r ys rest p2 n2 s2 nr hr2 hb2 B2 le2 yl yp => ?_⟩
    have s02 : SameBut b H H2 := ((SameBut.of_same s1).trans (SameBut.upd b _ _)).trans s2
    obtain ⟨zs, rfl, zr⟩ := strs_of (xs := poolD) (ys := ys) fun y hy => yp.mem_iff.mp (List.mem_append_left _ hy)
    rw [List.length_map] at yl
    refine ⟨r, zs, rfl, SqL.of hr2, by omega, fun ds D perm _ nD => ?_⟩
    have dl : ds.length ≤ 3 := by rw [perm.length_eq]; omega
    have dr : ∀ z ∈ ds, z ∈ poolD := fun z hz => zr z (perm.mem_iff.mp hz)
    have bD : b ≠ D := ne_of_none hb2 nD
    have s3 := same_upd (o := .lst (ds.map V.str)) nD
    have hD3 : (upd H2 D (.lst (ds.map V.str))) D = some (.lst (ds.map V.str)) := upd_same
    have hb3 := s3 _ _ hb2
    have s03 := s02.trans (SameBut.of_same s3)
    generalize (upd H2 D (.lst (ds.map V.str))) = H3 at s3 hD3 hb3 s03 ⊢
    refine val_c _ (take_box rfl val_c hb3 B2 (by decide) (by decide) (by omega) fun d2 p3 n3 d20 d21 B3 le3 => ⟨1, d2, rfl, rfl, ?_⟩)
    have s04 := s03.trans (SameBut.upd b H3 (.lst (bx p3 q n3)))
    have hb4 : (upd H3 b (.lst (bx p3 q n3))) b = some (.lst (bx p3 q n3)) := upd_same
    have hD4 : (upd H3 b (.lst (bx p3 q n3))) D = some (.lst (ds.map V.str)) := by rw [upd_ne bD.symm]; exact hD3
    generalize (upd H3 b (.lst (bx p3 q n3))) = H4 at s04 hb4 hD4 ⊢
    refine ⟨Nat.zero_le _, fun S nS => ⟨_, _, _, rfl, ?_⟩⟩
    have fr : ∀ {H5 : Hp}, SameBut b H H5 → (∃ o, H5 b = some o) → ∀ u, H5 u = none → H u = none := fun {H5} s5 ⟨o, hb5⟩ u nu => by
      cases e : H u with
      | none => rfl
      | some o =>
        by_cases c : u = b
        · rw [c, hb5] at nu; cases nu
        · rw [s5 _ _ c e] at nu; cases nu
    have nS0 := fr s04 ⟨_, hb4⟩ _ nS
    have bS : b ≠ S := ne_of_none hb4 nS
    have DS' : D ≠ S := ne_of_none hD4 nS
    have s5 := same_upd (o := .lst []) nS
    have pk5 : Pk H b D S ds q (upd H4 S (.lst [])) [] [] p3 n3 := ⟨s04.trans (SameBut.of_same s5), s5 _ _ hD4, upd_same, .nil, fun _ h => (nomatch h), s5 _ _ hb4, B3⟩
    generalize (upd H4 S (.lst [])) = H5 at pk5 ⊢
    obtain ⟨w, ew⟩ : ∃ w : Nat, (1 : Int) + d2 = (w : Int) := ⟨(1 + d2).toNat, by omega⟩
    dsimp only
    rw [ew]
    refine ⟨.int w, rfl, w, rfl, by omega, by omega, ?_⟩
    show ∃ W : Nat → Nat → L2.St → Hp → Prop, _
    refine for_range (lo := 0) (n := (w : Int).toNat) (fun i σ H' => ∃ (t6 t7 t8 t9 t10 : Option V) (ps : List Addr) (sts : List (List RwD)) (p' n' : Int), σ = [some (.ref b), some (.int m), some (.ref L), some (.ref D), some (.int w), some (.ref S), t6, t7, t8, t9, t10] ∧ Pk H b D S ds q H' ps sts p' n' ∧ sts.length = i ∧ n' ≤ n3 + 800 * i) ?_ ?_ ?_
    · exact ⟨none, none, none, none, none, [], [], p3, n3, rfl, pk5, rfl, by omega⟩
    · rintro i σ H6 hi ⟨t6, t7, t8, t9, t10, ps, sts, p6, n6, rfl, pk6, sl, le6⟩
      have hi : i < w := hi
      have psl : ps.length = sts.length := Paired.length pk6.hp
      refine ⟨Nat.zero_le _, fun R nR => ?_⟩
      have nR0 : H R = none := fr pk6.sb ⟨_, pk6.hb⟩ _ nR
      have bR : b ≠ R := ne_of_none pk6.hb nR
      have DR : D ≠ R := ne_of_none pk6.hd nR
      have SR : S ≠ R := ne_of_none pk6.hs nR
      have rk7 : Rk H b D S R ds q (upd H6 R (.lst [])) ps sts p6 n6 [] [] := ⟨pk6.same (same_upd nR), upd_same, .nil, fun _ h => (nomatch h)⟩
      generalize (upd H6 R (.lst [])) = H7 at rk7 ⊢
      refine ⟨.ref D, rfl, D, rfl, ⟨_, SqL.of rk7.pk.hd⟩, ?_⟩
      show ∃ W : Nat → Nat → L2.St → Hp → Prop, _
      refine for_list (K := K) (a := D) (xs := ds.map V.str) (fun j σ H' => ∃ (t6 t8 t9 t10 : Option V) (p' n' : Int) (ts : List Addr) (rs : List RwD), σ = [some (.ref b), some (.int m), some (.ref L), some (.ref D), some (.int w), some (.ref S), t6, some (.ref R), t8, t9, t10] ∧ Rk H b D S R ds q H' ps sts p' n' ts rs ∧ rs.length ≤ 4 * j ∧ n' ≤ n6 + 230 * j) ?_ ?_ ?_ ?_
      · exact ⟨_, _, _, _, p6, n6, [], [], rfl, rk7, Nat.le_refl _, by omega⟩
      · rintro j σ H8 _ ⟨_, _, _, _, p8, n8, ts, rs, rfl, rk8, _⟩
        exact SqL.of rk8.pk.hd
      · rintro j x σ H8 ex ⟨t6, t8, t9, t10, p8, n8, ts, rs, rfl, rk8, rl, le8⟩
        obtain ⟨z, ez, rfl⟩ : ∃ z, ds[j]? = some z ∧ x = .str z := by
          rw [List.getElem?_map] at ex
          cases e : ds[j]? with
          | none => rw [e] at ex; cases ex
          | some z => rw [e] at ex; exact ⟨z, rfl, (Option.some.inj ex).symm⟩
        have jlt := (List.getElem?_eq_some_iff.mp ez).1
        have hz : z ∈ poolD := dr z (List.mem_of_getElem? ez)
        dsimp only [gName]
        dsimp only [tSeq, tAsg, tIf, tTest, tOp]
        refine take_box rfl val_c rk8.pk.hb rk8.pk.bo (by decide) (by decide) (by omega) fun d9 p9 n9 d90 d91 B9 le9 => ?_
        have rk9 := rk8.step (SameBut.upd b H8 (.lst (bx p9 q n9))) bD bS bR upd_same B9
        generalize (upd H8 b (.lst (bx p9 q n9))) = H9 at rk9 ⊢
        refine val_c _ ⟨rfl, _, rfl, ?_⟩
        cases decide (V.int d9 = V.int 0) with
        | false =>
          refine iteF ?_
          refine val_c _ ?_
          dsimp only [gName]
          refine worths_loop (K := K) bD bS bR nR0 DR SR rk9 hz (.inl rfl) m4 (by omega) (by omega) (by omega) (by omega) fun t10 H' p' n' ts' rs' rk' rl' le' => ?_
          exact ⟨t6, _, _, t10, p', n', ts', rs', rfl, rk', by omega, by omega⟩
        | true =>
          refine iteT ?_
          dsimp only [tCall, tCons, tNil]
          refine (val_var rfl) _ ((val_var rfl) _ ((val_var rfl) _ ?_))
          refine ⟨b, m, w, p9, q, n9, rfl, rk9.pk.hb, rk9.pk.bo, m4, by omega, by omega, by omega, fun H11 o2 ts2 os2 p2 n2 s11 no2 ho2 a2 ev2 ol2 hb2 B2 le2 => ?_⟩
          have rk2 := rk9.step s11 bD bS bR hb2 B2
          dsimp only [gName]
          refine worths_loop (K := K) bD bS bR nR0 DR SR rk2 hz (.inr ⟨o2, os2, rfl, ⟨ts2, ho2, a2⟩, (show os2.length ≤ 6 by omega), fun o ho => by have := ev2 o ho; omega⟩) m4 (by omega) (by omega) (by omega) (by omega) fun t10 H' p' n' ts' rs' rk' rl' le' => ?_
          exact ⟨t6, _, _, t10, p', n', ts', rs', rfl, rk', by omega, by omega⟩
      · rintro σ H8 ⟨t6, t8, t9, t10, p8, n8, ts, rs, rfl, rk8, rl, le8⟩
        rw [List.length_map] at rl le8
        dsimp only [tDrop, tBM, tCB, tCons, tNil]
        refine (val_var rfl) _ ?_
        refine ⟨.inl ⟨rfl, _, SqL.of rk8.pk.hs⟩, (val_var rfl) _ ⟨R, ts.map V.ref, rfl, .inl ⟨SqL.of rk8.hr, fun T nT => ?_⟩⟩⟩
        have s9 := same_upd (o := .tup (ts.map V.ref)) nT
        have pk9 := rk8.pk.same s9
        have bT : b ≠ T := ne_of_none rk8.pk.hb nT
        have ST : T ≠ S := fun e => by rw [e, rk8.pk.hs] at nT; cases nT
        have tk : TKeep (upd H8 T (.tup (ts.map V.ref))) (upd (upd H8 T (.tup (ts.map V.ref))) S (.lst (ps.map V.ref ++ [.ref T]))) := TKeep.but (SameBut.upd S _ _) pk9.hs
        refine ⟨S, ps.map V.ref, .ref T, rfl, rfl, pk9.hs, ?_, ?_⟩
        · rw [List.length_map, psl]
          exact Nat.lt_of_lt_of_le (show sts.length < 100 by omega) (by decide)
        · refine ⟨_, _, _, _, _, ps ++ [T], sts ++ [rs], p8, n8, rfl, ⟨fun u o nu hu => ?_, ?_, ?_, ?_, ?_, ?_, pk9.bo⟩, by rw [List.length_append, sl]; rfl, by omega⟩
          · rw [upd_ne (ne_of_none hu nS0)]
            exact pk9.sb _ _ nu hu
          · rw [upd_ne DS']
            exact pk9.hd
          · rw [List.map_append]
            exact upd_same
          · exact paired_app (Paired.mapP pk9.hp fun _ _ e => e.mono tk) ⟨ts, by rw [upd_ne ST]; exact upd_same, Paired.mapP rk8.rr fun _ _ e => (e.mono (TKeep.same s9)).mono tk⟩
          · intro s hs
            rcases List.mem_append.mp hs with hs | hs
            · exact pk9.ok s hs
            · rw [List.mem_singleton.mp hs]
              exact ⟨by omega, rk8.okr⟩
          · rw [upd_ne bS]
            exact pk9.hb
    · rintro σ H6 ⟨t6, t7, t8, t9, t10, ps, sts, p6, n6, rfl, pk6, sl, le6⟩
      dsimp only [tRet, tCB, tCons, tNil]
      refine (val_var rfl) _ ⟨S, ps.map V.ref, rfl, .inl ⟨SqL.of pk6.hs, fun r2 nr2 => ?_⟩⟩
      have s7 := same_upd (o := .tup (ps.map V.ref)) nr2
      have pk7 := pk6.same s7
      exact k _ r2 ps sts p6 n6 pk7.sb (fr pk6.sb ⟨_, pk6.hb⟩ _ nr2) upd_same pk7.hp pk7.ok (by omega) (by omega) pk7.hb pk7.bo (by omega)
end
end K5
namespace K5
open PySem PySem.Spec PyProof.Rows L2
/-! ### the word of an answer -/
def ansW (a : Int) : Str := if a = -1 then "lost" else if a = -2 then "busy" else toString a
def spAw : Sp := fun vs H Q _ => ∃ a : Int, vs = [.int a] ∧ a.natAbs.log2 < 1920 ∧ ∀ H' : Hp, Same H H' → Q (.str (ansW a)) H'
abbrev s__law_answer_word : Stmt := topS 30
theorem sc__law_answer_word : FnScope ["_law_answer"] ["_law_answer"] (defScope s__law_answer_word) := ⟨rfl, rfl, rfl, by decide +kernel, rfl, by decide +kernel, by decide +kernel⟩
section
variable {P : Program} {w : World} {K : PySem.W.Frag} {mg : Str → Option Value} {base : Heap}
theorem ok_ansW {f : Addr} {fd : FuncData} (B : Bt mg) (D : Df K mg "_law_answer_word" s__law_answer_word f fd ["_law_answer"]) :
    FnOk P w K mg base CX0 1 f fd ["_law_answer"] spAw := by
  refine D.F.ok sc__law_answer_word (fun vs H Q E h => ?_) (fun cdv A outer s H vs Q E hr h => ?_)
  · obtain ⟨a, rfl, _⟩ := h
    rfl
  · obtain ⟨a, rfl, hz, k⟩ := h
    have S := sc__law_answer_word
    have hu := hu_of hr
    refine ⟨_, (pss_one (ps_ret (pe_dget2 (by exact Nat.lt_of_le_of_lt (Nat.add_le_add_left (by decide) _) hu) (pe_disp (pps_cons (pe_un un_neg pe_int) pe_str (pps_cons (pe_un un_neg pe_int) pe_str pps_nil)) rfl rfl (fun h => nomatch h) (by decide)) (pv 0) (pe_callTy call_str_int (by rfl) B.m_str (by decide +kernel) (pa_cons (pv 0) pa_nil)) ⟨by rfl, by rfl, by rfl, by rfl⟩))), ?_⟩
    dsimp only [tRet, tDGet2, tDisp]
    intro p np
    dsimp only [tPairs, tUn]
    refine val_c _ ⟨1, rfl, val_c _ (val_c _ ⟨2, rfl, val_c _ ⟨upd_same, [(.inl (-1), .str "lost"), (.inl (-2), .str "busy")], rfl, by decide, ?_⟩⟩)⟩
    have s1 : Same H (upd (upd H p (.dK [])) p (.dK (mergeK [] [(.inl (-1), .str "lost"), (.inl (-2), .str "busy")]))) := fun b o e => by
      rw [upd_ne (ne_of_none e np), upd_ne (ne_of_none e np)]
      exact e
    have hp : (upd (upd H p (.dK [])) p (.dK (mergeK [] [(.inl (-1), .str "lost"), (.inl (-2), .str "busy")]))) p = some (.dK (mergeK [] [(.inl (-1), .str "lost"), (.inl (-2), .str "busy")])) := upd_same
    generalize (upd (upd H p (.dK [])) p (.dK (mergeK [] [(.inl (-1), .str "lost"), (.inl (-2), .str "busy")]))) = H1 at s1 hp ⊢
    refine ⟨p, rfl, .inl ⟨_, Rd.of hp⟩, (val_var rfl) _ ((val_strI (val_var rfl) hz) _ ⟨_, .inl ⟨_, .inl a, Rd.of hp, rfl, rfl⟩, ?_⟩)⟩
    have e : ((valV (mergeK [] [((.inl (-1) : Key), V.str "lost"), (.inl (-2), .str "busy")]) (.inl a)).getD (V.str (toString a))) = V.str (ansW a) := by
      have em : mergeK [] [((.inl (-1) : Key), V.str "lost"), (.inl (-2), .str "busy")] = [(.inl (-1), V.str "lost"), (.inl (-2), .str "busy")] := by decide +kernel
      rw [em]
      unfold ansW
      by_cases h1 : a = -1
      · subst h1
        rfl
      · rw [if_neg h1]
        by_cases h2 : a = -2
        · subst h2
          rfl
        · rw [if_neg h2]
          have n1 : (Sum.inl a : Key) ≠ .inl (-1) := fun e => h1 (by injection e)
          have n2 : (Sum.inl a : Key) ≠ .inl (-2) := fun e => h2 (by injection e)
          simp [valV, h1, h2, n1, n2, Ne.symm n1, Ne.symm n2, Ne.symm h1, Ne.symm h2]
    have k1 := k H1 s1
    rw [← e] at k1
    exact k1
end
end K5
namespace EnT
open PySem PySem.Spec PyProof.Rows L2
/-! ### enumerate(tuple) -/
theorem meets_new {v : Value} {o : Obj} {H : Heap → Prop} (B : Begins v o H) :
    Meets (Builtin.«enumerate.__new__» ⟨[.type "enumerate", v], []⟩) (fun _ R s => H s.heap ∧
      R (.ok (.ret (.ref (s.heap.push o).objs.size))) { s with heap := (s.heap.push o).push { cls := .type "enumerate", data := .fields #[.none, .bool false, .ref s.heap.objs.size, rawInt 0, .none, .none] } }) :=
  .of_wp fun prog w A R s h => by
    obtain ⟨hp, g, d, tk, os⟩ := s; obtain ⟨h1, h⟩ := h
    have hsub := sub_enumerate
    have q1 : ∀ {A' : Around} {E : Value → Shared → Prop} {Q : Value → Shared → Prop}, Q (.ref hp.objs.size) ⟨hp.push o, g, d, tk, os⟩ → wpAny (model prog w) A' (pyIter v) Q E ⟨hp, g, d, tk, os⟩ :=
      fun q => B.iter prog w _ _ ⟨hp, g, d, tk, os⟩ _ h1 q
    wp_walk using q1
    refine wpAny_stack_any fun st => wpAny_pure ?_
    split
    · rename_i c _ _ _ _ _
      cases (c == Value.type "enumerate")
      · wp_walk using q1
        exact ⟨_, rfl, h⟩
      · wp_walk using q1
        exact ⟨_, rfl, h⟩
    · wp_walk using q1
      exact ⟨_, rfl, h⟩
theorem begins1 {prog : Program} {w : World} {A : Around} {E : Value → Shared → Prop} {s : Shared} {v : Value} {o : Obj} {H : Heap → Prop} {Q : Value → Shared → Prop} (B : Begins v o H) (h1 : H s.heap)
    (h : ∀ h', IsEnum h' (s.heap.objs.size + 1) s.heap.objs.size 0 .none → h'.get? s.heap.objs.size = some o → h'.objs.size = s.heap.objs.size + 2 →
      (∀ b o, s.heap.get? b = some o → h'.get? b = some o) → Q (.ref (s.heap.objs.size + 1)) { s with heap := h' }) :
    wpAny (model prog w) A (call (.type "enumerate") [v]) Q E s := by
  refine callType_new F.called_enumerate (by decide) (F.typeCall_enumerate_1 _) (F.newCall_enumerate_1 _) (fun obj => F.args_object_init_2 obj _) F.entry_enumerate_new
    (meets_new B) ⟨h1, ?_⟩
  have hz : (s.heap.push o).objs.size = s.heap.objs.size + 1 := Heap.size_push ..
  show _ ∧ _
  rw [hz]
  have he : IsEnum ((s.heap.push o).push { cls := .type "enumerate", data := .fields #[.none, .bool false, .ref s.heap.objs.size, rawInt 0, .none, .none] }) (s.heap.objs.size + 1) s.heap.objs.size 0 .none := by
    have := Heap.get?_push_size (s.heap.push o) (o := { cls := .type "enumerate", data := .fields #[.none, .bool false, .ref s.heap.objs.size, rawInt 0, .none, .none] }) rfl
    rw [hz] at this; exact this
  refine ⟨⟨_, he, rfl⟩, h _ he (Heap.get?_push_of_some _ (Heap.get?_push_size _ B.free)) (by rw [Heap.size_push, hz]) fun b o x => Heap.get?_push_of_some _ (Heap.get?_push_of_some _ x)⟩
end EnT
namespace L2
open PySem PySem.Spec PyProof.Rows
/-- the tuple at a, each item in a new pair -/
def IteT (K : PySem.W.Frag) (a : Addr) : It :=
  ⟨fun i H => ∃ (xs : List V) (x : V), SqT K H a xs ∧ xs[i]? = some x, fun i H v H' => ∃ T x, v = .ref T ∧ H T = none ∧ H' = upd H T (.tup [.int (i : Nat), x]) ∧ ∀ xs, SqT K H a xs → xs[i]? = some x, fun i H => ∃ xs : List V, SqT K H a xs ∧ xs.length ≤ i⟩
theorem turn_enumT {P : Program} {w : World} {K : PySem.W.Frag} {elts : List Expr} {kk : Nat} {tpos : Pos} (a e it : Addr) (nei : e ≠ it) (nai : a ≠ it) (nae : e ≠ a) :
    Turn P w K (.Tuple elts kk tpos) (IteT K a) [e, it] e (fun i h => (∃ old, IsEnum h e it ((i : Nat) : Int) old) ∧ h.IsTupleIter it a i) where
  mem := by simp
  obj := fun i h st b hb => by
    obtain ⟨⟨old, he⟩, ⟨o, ho, hc, hd⟩⟩ := st
    have e' : b = e ∨ b = it := by simpa using hb
    rcases e' with z | z
    · rw [z]; exact ⟨_, he, fun v q => nomatch q⟩
    · rw [z]; exact ⟨o, ho, fun v q => by rw [hd] at q; cases q⟩
  keep := fun i h h' st k => let ⟨⟨old, he⟩, hi⟩ := st; ⟨⟨old, k e (by simp) _ he⟩, hi.at fun o q => k it (by simp) o q⟩
  item := by
    intro X hP hw hK hc i pins s σ H E I hf st hg
    subst hP hw hK
    obtain ⟨⟨old, he⟩, hit⟩ := st
    obtain ⟨xs, x, hq, hx⟩ := hg
    obtain ⟨its, rv, p, hz⟩ := I.tuple hq
    obtain ⟨u, hu, ru⟩ := rv.get hx
    have hel : e < s.heap.objs.size := Heap.lt_size he
    have hil : it < s.heap.objs.size := by obtain ⟨_, q, _⟩ := hit; exact Heap.lt_size q
    have hit0 : its.toArray[i]? = some u := by simpa using hu
    have ilt : i < its.toArray.size := by
      obtain ⟨q, _⟩ := Array.getElem?_eq_some_iff.mp hit0
      exact q
    have hef : e ∉ [it, a] := fun m => by
      rcases List.mem_cons.mp m with q | q
      · exact nei q
      · exact nae (List.mem_singleton.mp q)
    refine wpAny_pyNext_enum_itemD (Draws.tuple (prog := X.prog) (w := X.w) (A := X.A.in1) (show X.A.in1.handled = none from I.ok.hd hc) it a nai its.toArray) he ⟨hit, p⟩ ilt nei hef fun x' h' tk hP ho hs' hT hsz hk => ?_
    obtain rfl : u = x' := Option.some.inj (hit0.symm.trans hP)
    refine ⟨_, rfl, wpAny_letOwnedTupleGo_enum (s := { s with heap := h', toks := tk + 1 }) ho fun h'' he' sb => ?_⟩
    have hT2 : h''.get? s.heap.objs.size = some { cls := .type "tuple", data := .seq #[.int i tk, u] } := (sb.2 _ (Nat.ne_of_gt hel)).trans hT
    have new : ObjOk X.prog X.w (upd H s.heap.objs.size (.tup [.int (i : Nat), x])) h'' s.heap.objs.size (.tup [.int (i : Nat), x]) :=
      ⟨by show 2 ≤ sizeLine; decide, [.int i tk, u], .cons ⟨_, rfl⟩ (.cons ru .nil), ⟨_, hT2, rfl, _, rfl⟩⟩
    have I1 : Inv X pins σ (upd H s.heap.objs.size (.tup [.int (i : Nat), x])) { s with heap := h'', toks := tk + 1 } :=
      I.turnedNew (ch := [e, it]) (fun b ob hb q => (sb.2 b (fun z => hb (by simp [z]))).trans (hk b ob (fun z => hb (by simp [z])) (fun z => hb (by simp [z])) q)) hf (Nat.le_refl _) new
    refine ⟨.ref s.heap.objs.size, _, I1, rfl, ⟨_, x, rfl, I.hok.fresh (Nat.le_refl _), rfl, fun ys hy => by rw [I.tuple_inj hy hq]; exact hx⟩, ⟨⟨u, ?_⟩, hs'.1.at fun o q => (sb.2 it (Ne.symm nei)).trans q⟩, fun b hb => ?_⟩
    · have e1 : ((i + 1 : Nat) : Int) = (i : Int) + 1 := by omega
      rw [e1]; exact he'
    · have hb' : b < s.heap.objs.size := by
        have e' : b = e ∨ b = it := by simpa using hb
        rcases e' with z | z
        · rw [z]; exact hel
        · rw [z]; exact hil
      rw [upd_ne (Nat.ne_of_lt hb')]
      exact (hf b hb).1
  done := by
    intro X hP hw hK hc i pins s σ H E I hf st hg
    subst hP hw hK
    obtain ⟨⟨old, he⟩, hit⟩ := st
    obtain ⟨xs, hq, hx⟩ := hg
    obtain ⟨its, rv, p, hz⟩ := I.tuple hq
    obtain ⟨f0, f1, f2, f3, f4, f5⟩ := hf it (by simp)
    have hl := rv.length
    have D : Draws X.prog X.w X.A.in1 it [it, a] i (fun i v => its.toArray[i]? = some v) (fun j h => j = i ∧ h.IsTupleIter it a i ∧ h.IsTuple a its.toArray) := {
      live := fun _ _ st => let ⟨o, ho, _⟩ := st.2.1; ⟨o, ho⟩
      frame := fun _ _ _ st hk => ⟨st.1, st.2.1.at fun o e => hk it (by simp) o e, st.2.2.at fun o e => hk a (by simp) o e⟩
      item := fun j s Q E hj st hQ => absurd st.1 (Nat.ne_of_lt hj)
      done := fun s Q E st hE => wpAny_nextOf_tuple_end (I.ok.hd hc) st.2.1 st.2.2 (Array.getElem?_eq_none (by simp; omega)) hE }
    exact wpAny_pyNext_enum_endD D he ⟨rfl, hit, p⟩ fun h' eb => ⟨rfl, I.turned (t' := s.toks) (fun b o hb q => eb b o hb q) f0 f1 f3 f4 f5⟩
  self := fun A i s Q E st h => let ⟨⟨_, he⟩, _⟩ := st; wpAny_pyIter_enum he h
def iEnumT (K : PySem.W.Frag) (ta : TA) : TI := fun σ H R => ta σ H fun vs H1 => ∃ a xs, vs = [.ref a] ∧ SqT K H1 a xs ∧ R (IteT K a) H1
theorem pi_enumT {X : Cx} {e : Expr} {ta : TA} {p pos tpos : Pos} {elts : List Expr} {kk : Nat} (hg : Gl X "enumerate") (hm : X.mg "enumerate" = none) (ha : PA X [e] ta) (hs : starEach [e] X.env = [(false, eval e X.env)] := by rfl) :
    PI X (.Tuple elts kk tpos) (.Call (.Name "enumerate" p) [e] [] pos) (iEnumT X.K ta) := by
  refine ⟨fun pins s σ H R I h => ?_⟩
  refine Call_ (ld_blt I hg hm boot_enumerate (PyProof.Rows.callWith_type1 (thn (ha.run pos pins s σ H _ I h) fun us s1 ⟨vs, H1, I1, r1, q1⟩ => ?_) hs rfl))
  obtain ⟨a, xs, ex, hq, q⟩ := q1
  subst ex
  cases r1 with
  | cons r rr =>
    cases rr
    cases r
    obtain ⟨its, rv, p', hz⟩ := I1.tuple hq
    have ha' : s1.heap.IsTuple a its.toArray := p'
    have al : a < s1.heap.objs.size := by obtain ⟨_, q, _⟩ := ha'; exact Heap.lt_size q
    refine EnT.begins1 (begins_tuple a its.toArray) ha' fun h' he hit hsz hk => wpAny_pyIter_enum he ?_
    have I2 : Inv X pins σ H1 { s1 with heap := h' } := I1.kept (t' := s1.toks) hk
    refine ⟨s1.heap.objs.size + 1, [s1.heap.objs.size + 1, s1.heap.objs.size], _, _, H1, rfl, I2, turn_enumT a (s1.heap.objs.size + 1) s1.heap.objs.size (Nat.succ_ne_self _) (Nat.ne_of_lt al) (Nat.ne_of_gt (Nat.lt_succ_of_lt al)), ⟨⟨.none, he⟩, ⟨_, hit, rfl, rfl⟩⟩, fun b hb => ?_, q⟩
    have e' : b = s1.heap.objs.size + 1 ∨ b = s1.heap.objs.size := by simpa using hb
    have hle : s1.heap.objs.size ≤ b := by
      rcases e' with z | z
      · rw [z]; exact Nat.le_add_right _ _
      · rw [z]; exact Nat.le_refl _
    exact I1.fpOk hle (I1.hok.fresh hle)
theorem for_enumT {K : PySem.W.Frag} {a : Addr} {xs : List V} {g : TG} {tb : TS} {D : Ends} {σ : St} {H : Hp} (Pv : Nat → St → Hp → Prop) (h0 : Pv 0 σ H) (hl : ∀ i σ H, i ≤ xs.length → Pv i σ H → SqT K H a xs)
    (hs : ∀ i x T σ H, xs[i]? = some x → Pv i σ H → H T = none → g (.ref T) σ (upd H T (.tup [.int (i : Nat), x])) fun σ2 H2 => tb { D with nx := Pv (i + 1), ct := Pv (i + 1), bk := D.nx } σ2 H2) (hd : ∀ σ H, Pv xs.length σ H → D.nx σ H) :
    ∃ W : Nat → Nat → St → Hp → Prop, (∃ m, W 0 m σ H) ∧ ∀ i m σ H, W i m σ H →
      ((IteT K a).stop i H ∧ D.nx σ H) ∨ ((IteT K a).go i H ∧ ∃ N : St → Hp → Prop, (∀ σ' H', N σ' H' → ∃ m', m' < m ∧ W (i + 1) m' σ' H') ∧ ∀ x H', (IteT K a).yld i H x H' → g x σ H' fun σ2 H2 => tb { D with nx := N, ct := N, bk := D.nx } σ2 H2) := by
  refine ⟨fun i m σ H => m = xs.length - i ∧ i ≤ xs.length ∧ Pv i σ H, ⟨xs.length, by simp, Nat.zero_le _, h0⟩, ?_⟩
  rintro i m σ H ⟨rfl, hi, p⟩
  have q := hl i σ H hi p
  by_cases hlt : i < xs.length
  · refine .inr ⟨⟨xs, xs[i], q, by simp [hlt]⟩, Pv (i + 1), fun σ' H' p' => ⟨xs.length - (i + 1), by omega, rfl, hlt, p'⟩, fun x H' y => ?_⟩
    obtain ⟨T, x', rfl, nT, rfl, hy⟩ := y
    exact hs i x' T σ H (hy xs q) p nT
  · obtain rfl : i = xs.length := by omega
    exact .inl ⟨⟨xs, q, Nat.le_refl _⟩, hd σ H p⟩
end L2
namespace HT
open PySem PySem.Spec PyProof.Rows
section
variable {prog : Program} {w : World} {A : Around} {E : Value → Shared → Prop} {s : Shared}
/-! ### t[::-1] of a tuple -/
theorem sliceApplied_rev {sl : Addr} {n : Nat} {tk : Tok} {Q : Int × Int × Nat → Shared → Prop} (hs : s.heap.IsSliceOf sl .none .none (.int (-1) tk))
    (h : Q ((n : Int) - 1, -1, n) s) : wpAny (model prog w) A (Builtin.Slice.sliceApplied (.ref sl) (pure (n : Int))) Q E s := by
  obtain ⟨os, hos, hcs, hds⟩ := id hs
  unfold Builtin.Slice.sliceApplied Builtin.Slice.sliceFields
  refine wpAny_bind (wpAny_bind (wpAny_field hos hds (x := .none) rfl (wpAny_bind (wpAny_field hos hds (x := .none) rfl (wpAny_bind (wpAny_field hos hds (x := .int (-1) tk) rfl (wpAny_pure ?_)))))))
  refine wpAny_bind (slicePart_int ?_)
  show wpAny _ _ (if ((-1 : Int) == 0) = true then _ else _) _ _ s
  rw [if_neg (by decide)]
  refine wpAny_bind (slicePart_none (wpAny_bind (slicePart_none (wpAny_bind (wpAny_pure ?_)))))
  show wpAny _ _ (match Builtin.Slice.sliceAdjust none none (-1) (n : Int) with | (lo, hi) => pure (lo, (-1 : Int), Builtin.Slice.slicePlaces lo hi (-1))) _ _ s
  have e1 : Builtin.Slice.sliceAdjust none none (-1) (n : Int) = ((n : Int) - 1, -1) := by
    unfold Builtin.Slice.sliceAdjust
    rfl
  rw [e1]
  have e2 : Builtin.Slice.slicePlaces ((n : Int) - 1) (-1) (-1) = n := by
    unfold Builtin.Slice.slicePlaces
    rw [if_neg (by decide)]
    rw [show (-(-1) : Int) = 1 from rfl, Int.ediv_one]
    split <;> omega
  show wpAny _ _ (pure ((n : Int) - 1, (-1 : Int), Builtin.Slice.slicePlaces ((n : Int) - 1) (-1) (-1))) _ _ s
  rw [e2]
  exact wpAny_pure h
theorem filterMap_same {α β : Type} {f g : α → Option β} : ∀ {l : List α}, (∀ m ∈ l, f m = g m) → l.filterMap f = l.filterMap g
  | [], _ => rfl
  | x :: l, h => by
    rw [List.filterMap_cons, List.filterMap_cons, h x (List.mem_cons_self ..), filterMap_same fun m hm => h m (List.mem_cons_of_mem _ hm)]
theorem pick_rev (xs : Array Value) : ((List.range xs.size).filterMap fun (m : Nat) => xs[(((xs.size : Nat) : Int) - 1 + (m : Int) * (-1)).toNat]?) = xs.toList.reverse := by
  have h : ∀ m ∈ List.range xs.size, xs[(((xs.size : Nat) : Int) - 1 + (m : Int) * (-1)).toNat]? = xs.toList.reverse[m]? := fun m hm => by
    have hm := List.mem_range.mp hm
    rw [show (((xs.size : Nat) : Int) - 1 + (m : Int) * (-1)).toNat = xs.size - 1 - m by omega, List.getElem?_reverse (by rw [Array.length_toList]; exact hm), Array.length_toList, Array.getElem?_toList]
  rw [filterMap_same h]
  have e : xs.size = xs.toList.reverse.length := by rw [List.length_reverse, Array.length_toList]
  rw [e]
  generalize xs.toList.reverse = l
  induction l with
  | nil => rfl
  | cons x r ih =>
    rw [List.length_cons, List.range_succ_eq_map, List.filterMap_cons]
    show x :: List.filterMap _ (List.map Nat.succ (List.range r.length)) = _
    rw [List.filterMap_map]
    exact congrArg _ ih
theorem getItem_tuple_rev {t sl : Addr} {items : Array Value} {tk : Tok} {Q : Value → Shared → Prop} (ht : IsTup s.heap t items) (hs : s.heap.IsSliceOf sl .none .none (.int (-1) tk))
    (h : Q (.ref s.heap.objs.size) { s with heap := s.heap.push { cls := .type "tuple", data := .seq items.toList.reverse.toArray } })
    (hsz : items.size ≤ sizeLine) : wpAny (model prog w) A (getItem (.ref t) (.ref sl)) Q E s := by
  have htake : sizeOk (.seq items.toList.reverse.toArray) := by
    show items.toList.reverse.toArray.size ≤ sizeLine
    rw [List.size_toArray, List.length_reverse, Array.length_toList]
    exact hsz
  obtain ⟨os, hos, hcs, hds⟩ := id hs
  have hTs : s.TypeIs (.ref sl) "slice" := ⟨os, hos, hcs⟩
  unfold getItem
  try with_reducible refine wpAny_holding ?_
  first | refine wpAny_bind (wpAny_pure ?_) | skip
  refine wpAny_bind (wpAny_sequenceKey ht.typeIs (by decide) ?_)
  refine wpAny_bind (wpAny_callSpecial?_slot (name := Str.ofString "__getitem__") ht.typeIs PyProof.Rows.slot_tuple_getitem
    (wpAny_call_entry PyProof.Rows.slot_tuple_getitem ht.typeIs entry_tuple_getitem ?_ (args_tuple_getitem _ _)))
  show wpAny _ _ (Builtin.Tuple.tupleItemsOf (.ref t) >>= _) _ _ s
  refine wpAny_bind (tupleItemsOf_ ht ?_)
  refine wpAny_bind (wpAny_typeOf hTs ?_)
  rw [if_pos (by decide)]
  refine wpAny_bind (sliceApplied_rev hs ?_)
  have hno : ¬ (((((items.size : Nat) : Int) - 1) == 0 && (-1 : Int) == 1 && items.size == items.size) = true) := by
    intro q
    rw [Bool.and_eq_true, Bool.and_eq_true] at q
    exact absurd (eq_of_beq q.1.2) (by decide)
  show wpAny _ _ (if ((((items.size : Nat) : Int) - 1) == 0 && (-1 : Int) == 1 && items.size == items.size) = true then _ else _) _ _ s
  rw [if_neg hno, pick_rev]
  first
    | exact wpAny_bind (m := Builtin.Tuple.tupleExact _) (wpAny_newObj_type (wpAny_pure ⟨_, rfl, wpAny_pure h⟩) htake)
    | exact wpAny_bind (m := Builtin.Tuple.tupleExact _) (wpAny_newObj_type (wpAny_bind (wpAny_pure (wpAny_pure ⟨_, rfl, wpAny_pure h⟩))) htake)
    | exact wpAny_bind (wpAny_bind (m := Builtin.Tuple.tupleExact _) (wpAny_newObj_type (wpAny_pure (wpAny_pure ⟨_, rfl, wpAny_pure h⟩)) htake))
    | exact wpAny_bind (wpAny_bind (m := Builtin.Tuple.tupleExact _) (wpAny_newObj_type (wpAny_pure ⟨_, rfl, wpAny_pure h⟩) htake))
end
end HT
namespace K5
open PySem PySem.Spec PyProof.Rows L2
def tRevT (K : PySem.W.Frag) (te : TE) : TE := fun σ H Q => te σ H fun x H1 => ∃ a xs, x = .ref a ∧ SqT K H1 a xs ∧ ∀ p, H1 p = none → Q (.ref p) (upd H1 p (.tup xs.reverse))
theorem pe_revT {X : Cx} {e : Expr} {te : TE} {k : Nat} {p1 p2 p3 pos : Pos} (he : PE X e te) : PE X (.Subscript e (.Slice none none (some (.UnaryOp .USub (.Constant (.int 1) k p1) p2)) p3) pos) (tRevT X.K te) := by
  refine ⟨fun pins s σ H Q I h => ?_⟩
  refine Subscript_ (thn (he.run pins s σ H _ I h) fun v s1 ⟨x, H1, I1, r1, q1⟩ => ?_)
  obtain ⟨a, xs, ex, hx, q⟩ := q1
  subst ex
  cases r1
  have hst : PO X (some (.UnaryOp .USub (.Constant (.int 1) k p1) p2)) (tPart (tUn (rU fun i => .int (-i)) (tC (.int 1)))) := po_some (pe_un un_neg pe_int)
  refine wpAny_Slice (thn (po_none.run pins s1 σ H1 (fun o H2 => o = none ∧ H2 = H1) I1 ⟨rfl, rfl⟩) fun vl s2 ⟨l, H2, I2, pl, el, e2⟩ => ?_)
  subst el e2
  refine thn (po_none.run pins s2 σ H2 (fun o H3 => o = none ∧ H3 = H2) I2 ⟨rfl, rfl⟩) fun vu s3 ⟨u, H3, I3, pu, eu, e3⟩ => ?_
  subst eu e3
  refine thn (hst.run pins s3 σ H3 (fun o H4 => o = some (-1) ∧ H4 = H3) I3 ⟨1, rfl, -1, rfl, rfl, rfl⟩) fun vs s4 ⟨o, H4, I4, ps, eo, e4⟩ => ?_
  subst eo e4
  obtain ⟨tk, rfl⟩ : ∃ tk, vs = .int (-1) tk := by
    cases ps
    exact ⟨_, rfl⟩
  obtain rfl : vl = .none := by
    cases pl
    rfl
  obtain rfl : vu = .none := by
    cases pu
    rfl
  have I5 : L2.Inv X pins σ H4 { s4 with heap := s4.heap.push { cls := .type "slice", data := .fields #[.none, .none, .int (-1) tk] } } := I4.kept (t' := s4.toks) fun b ob q => Heap.get?_push_of_some _ q
  obtain ⟨its, r, ht, hz⟩ := I5.tuple hx
  have hlen := r.length
  show wpAny (model X.prog X.w) X.A (subscriptTail e (.Slice none none (some (.UnaryOp .USub (.Constant (.int 1) k p1) p2)) p3) (.ref a) (.ref s4.heap.objs.size)) (EP X pins σ Q) X.xe { s4 with heap := s4.heap.push { cls := .type "slice", data := .fields #[.none, .none, .int (-1) tk] } }
  refine tail_any (ops := [.ref a, .ref s4.heap.objs.size]) ht.typeIs (PyProof.Rows.slot_tuple_getitem.lookup) ?_ (by with_unfolding_all rfl)
  refine HT.getItem_tuple_rev ht (Heap.IsSliceOf.new _ .none .none (.int (-1) tk)) ?_ (by rw [List.size_toArray]; omega)
  refine ⟨.ref _, _, I5.laid (t' := s4.toks) (o := .tup xs.reverse) (fun b ob q => Heap.get?_push_of_some _ q) (Nat.le_refl _) ?_, rfl, q _ (I5.hok.fresh (Nat.le_refl _))⟩
  refine ⟨by rw [List.length_reverse]; exact hz, its.reverse, r.reverse, _, Heap.get?_push_size _ rfl, rfl, 0, ?_⟩
  rfl
end K5
namespace K5
open PySem PySem.Spec PyProof.Rows L2
/-! ### a text is split as it was joined -/
theorem cut_at {c : Nat} : ∀ {x y a b : List Nat}, c ∉ x → c ∉ y → x ++ c :: a = y ++ c :: b → x = y ∧ a = b
  | [], [], a, b, _, _, h => by
    injection h with _ h
    exact ⟨rfl, h⟩
  | [], z :: y, a, b, _, h2, h => by
    injection h with h _
    exact absurd (by rw [h]; exact List.mem_cons_self ..) h2
  | z :: x, [], a, b, h1, _, h => by
    injection h with h _
    exact absurd (by rw [← h]; exact List.mem_cons_self ..) h1
  | z :: x, w :: y, a, b, h1, h2, h => by
    injection h with e h
    obtain ⟨q1, q2⟩ := cut_at (x := x) (y := y) (fun q => h1 (List.mem_cons_of_mem _ q)) (fun q => h2 (List.mem_cons_of_mem _ q)) h
    exact ⟨by rw [e, q1], q2⟩
theorem str_list {x y : Str} (h : x.cps.toList = y.cps.toList) : x = y := by
  cases x
  cases y
  congr
  exact Array.toList_inj.mp h
theorem join_list (c : Nat) (x z : Str) (r : List Str) : (Str.join ⟨#[c]⟩ (x :: z :: r)).cps.toList = x.cps.toList ++ c :: (Str.join ⟨#[c]⟩ (z :: r)).cps.toList := by
  show (x ++ (⟨#[c]⟩ : Str) ++ Str.join ⟨#[c]⟩ (z :: r)).cps.toList = _
  rw [cps_append, cps_append, List.append_assoc]
  rfl
theorem join_inj {c : Nat} : ∀ {ps qs : List Str}, ps ≠ [] → qs ≠ [] → (∀ p ∈ ps, c ∉ p.cps.toList) → (∀ q ∈ qs, c ∉ q.cps.toList) → (Str.join ⟨#[c]⟩ ps).cps.toList = (Str.join ⟨#[c]⟩ qs).cps.toList → ps = qs
  | [], _, h, _, _, _, _ => absurd rfl h
  | _, [], _, h, _, _, _ => absurd rfl h
  | [x], [y], _, _, _, _, h => by rw [str_list (x := x) (y := y) h]
  | [x], y :: w :: r, _, _, h1, h2, h => by
    rw [join_list] at h
    have hx : c ∈ x.cps.toList := by
      rw [show x.cps.toList = _ from h]
      exact List.mem_append_right _ (List.mem_cons_self ..)
    exact absurd hx (h1 x (List.mem_cons_self ..))
  | x :: w :: r, [y], _, _, h1, h2, h => by
    rw [join_list] at h
    have hy : c ∈ y.cps.toList := by
      rw [show y.cps.toList = _ from h.symm]
      exact List.mem_append_right _ (List.mem_cons_self ..)
    exact absurd hy (h2 y (List.mem_cons_self ..))
  | x :: z :: r, y :: w :: t, _, _, h1, h2, h => by
    rw [join_list, join_list] at h
    obtain ⟨e1, e2⟩ := cut_at (h1 x (List.mem_cons_self ..)) (h2 y (List.mem_cons_self ..)) h
    rw [str_list e1, join_inj (ps := z :: r) (qs := w :: t) (fun q => nomatch q) (fun q => nomatch q) (fun p hp => h1 p (List.mem_cons_of_mem _ hp)) (fun p hp => h2 p (List.mem_cons_of_mem _ hp)) e2]
theorem split_ne (x : Str) (c : Nat) : Txt.split x ⟨#[c]⟩ ≠ [] := by
  unfold Txt.split
  split
  · exact fun e => nomatch e
  · split
    · exact fun e => nomatch e
    · rw [StrLaws.partsBetween_eq]
      obtain ⟨p, r, h⟩ := StrLaws.partsFrom_ne x (⟨#[c]⟩ : Str).length 0 (Builtin.Str.occurrences x ⟨#[c]⟩ 0 x.length (x.length + 1))
      rw [h]
      exact fun e => nomatch e
theorem split_join {c : Nat} {ps : List Str} (ne : ps ≠ []) (free : ∀ p ∈ ps, c ∉ p.cps.toList) : Txt.split (Str.join ⟨#[c]⟩ ps) ⟨#[c]⟩ = ps :=
  join_inj (split_ne _ _) ne (StrLaws.split_free _ c) free (by rw [StrLaws.join_split])
theorem rows_join {ps : List Str} (ne : ps ≠ []) (free : ∀ p ∈ ps, 10 ∉ p.cps.toList) : rowsOf (Str.join "\n" ps) = ps := by
  have e : ("\n" : Str) = ⟨#[10]⟩ := by decide +kernel
  unfold rowsOf
  rw [e]
  exact split_join ne free
end K5
namespace K5
open PySem PySem.Spec PyProof.Rows L2 PySem.NumText
/-! ### the law's numbers are the package's -/
theorem back_num : ∀ (k : Nat) (l : List Nat), l.length = k → AllDigits l → l ≠ [] → (l.length = 1 ∨ l.head? ≠ some 48) → TL.numL (digitsVal l) = l := by
  intro k
  induction k with
  | zero =>
    intro l e _ ne _
    exact absurd (List.eq_nil_of_length_eq_zero e) ne
  | succ k ih =>
    intro l e dig ne nz
    obtain ⟨l', c, rfl⟩ : ∃ l' c, l = l' ++ [c] := ⟨l.dropLast, l.getLast ne, (List.dropLast_concat_getLast ne).symm⟩
    have hc := dig c (List.mem_append_right _ (List.mem_singleton.mpr rfl))
    have dig' : AllDigits l' := fun d hd => dig d (List.mem_append_left _ hd)
    rw [digitsVal_snoc]
    cases l' with
    | nil =>
      show TL.numL (0 * 10 + (c - 48)) = [c]
      rw [TL.numL_lt (by omega)]
      congr 1
      omega
    | cons x r =>
      have nz2 : x ≠ 48 := fun h => by
        rcases nz with nz | nz
        · rw [List.length_append] at nz
          simp at nz
        · exact nz (by rw [h]; rfl)
      have hx := dig' x (List.mem_cons_self ..)
      have pos := digitsVal_pos (c := x) (cs := r) (by omega)
      have e2 := ih (x :: r) (by rw [List.length_append] at e; exact Nat.succ.inj e) dig' (by simp) (.inr (fun h => nz2 (Option.some.inj h)))
      rw [TL.numL_step (by omega), show (digitsVal (x :: r) * 10 + (c - 48)) / 10 = digitsVal (x :: r) by omega, show (digitsVal (x :: r) * 10 + (c - 48)) % 10 = c - 48 by omega, e2]
      congr 2
      omega
theorem numL_head : ∀ n : Nat, 10 ≤ n → (TL.numL n).head? ≠ some 48 := by
  intro n
  induction n using Nat.strongRecOn with
  | _ n ih =>
    intro h e
    rw [TL.numL_step h] at e
    by_cases h2 : n / 10 < 10
    · rw [TL.numL_lt h2] at e
      have e : some (48 + n / 10) = some 48 := e
      have := Option.some.inj e
      omega
    · have i2 := ih (n / 10) (by omega) (by omega)
      cases q : TL.numL (n / 10) with
      | nil => exact TL.numL_ne _ q
      | cons x r =>
        rw [q] at e i2
        exact i2 e
theorem asc_dig (z : Str) : (Txt.isascii z && Txt.isdecimal z) = (decide (0 < z.length) && allDig z) := by
  obtain ⟨⟨l⟩⟩ := z
  have back : ∀ c : Nat, 48 ≤ c ∧ c ≤ 57 → c < 128 ∧ Unicode.isDecimal c = true := by
    have h : ∀ c : Fin 58, 48 ≤ c.val → c.val < 128 ∧ Unicode.isDecimal c.val = true := by decide +kernel
    exact fun c hc => h ⟨c, by omega⟩ hc.1
  unfold Txt.isascii Txt.isdecimal allDig
  rw [List.all_toArray, List.all_toArray]
  show (l.all (fun c => decide (c < 128)) && (decide (0 < l.length) && l.all Unicode.isDecimal)) = (decide (0 < l.length) && l.all isDig)
  apply Bool.eq_iff_iff.mpr
  simp only [Bool.and_eq_true, List.all_eq_true]
  constructor
  · rintro ⟨h1, h2, h3⟩
    refine ⟨h2, fun c hc => decide_eq_true ?_⟩
    have := dec_range c (of_decide_eq_true (h1 c hc)) (h3 c hc)
    omega
  · rintro ⟨h1, h2⟩
    exact ⟨fun c hc => decide_eq_true (back c (of_decide_eq_true (h2 c hc))).1, h1, fun c hc => (back c (of_decide_eq_true (h2 c hc))).2⟩
theorem num_law (z : Str) {m : Nat} (hm : m ≤ 1000) : numOf z m = match lNum z with
    | some v => if v < m then ((v : Nat) : Int) else -1
    | none => -1 := by
  unfold numOf
  rw [asc_dig]
  by_cases c0 : z = ""
  · subst c0
    rw [show lNum "" = none from if_pos (.inl rfl)]
    exact if_pos (by decide +kernel)
  have len0 : 0 < z.length := Nat.pos_of_ne_zero fun h => c0 (len_zero h)
  by_cases c9 : 9 < z.length
  · rw [show lNum z = none from if_pos (.inr (.inl c9)), if_pos (by rw [decide_eq_true (show (3 : Int) < z.length by omega)]; rfl)]
  cases ca : allDig z with
  | false =>
    rw [show lNum z = none from if_pos (.inr (.inr ca)), if_pos (by rw [Bool.and_false, Bool.not_false, Bool.or_true])]
  | true =>
    have dig : AllDigits z.cps.toList := fun c hc => by
      unfold allDig at ca
      exact of_decide_eq_true (List.all_eq_true.mp ca c hc)
    have zl : z.cps.toList.length = z.length := by rw [Array.length_toList]; rfl
    have ne : z.cps.toList ≠ [] := fun h => by
      rw [h] at zl
      have : 0 = z.length := zl
      omega
    have hv : numV z = ((digitsVal z.cps.toList : Nat) : Int) := by
      unfold numV
      rw [intText_digits dig ne (by omega)]
      rfl
    have eq : ∀ n : Nat, (Str.ofString (toString ((n : Nat) : Int)) = z) ↔ TL.numL n = z.cps.toList := fun n => by
      have t : (Str.ofString (toString ((n : Nat) : Int))).cps.toList = TL.numL n := TL.tl_num n
      exact ⟨fun h => by rw [← t, h], fun h => str_eq (t.trans h)⟩
    have l0 : lNum z = if 1 < z.length ∧ z.cps.toList.head? = some 48 then none else some (digitsVal z.cps.toList) := if_neg fun h => by
      rcases h with h | h | h
      · exact c0 h
      · exact c9 h
      · rw [ca] at h
        cases h
    rw [l0, decide_eq_true len0]
    by_cases c1 : 1 < z.length ∧ z.cps.toList.head? = some 48
    · rw [if_pos c1]
      by_cases c3 : 3 < z.length
      · rw [if_pos (by rw [decide_eq_true (show (3 : Int) < z.length by omega)]; rfl)]
      · rw [if_neg (by rw [decide_eq_false (show ¬ (3 : Int) < z.length by omega)]; decide)]
        refine if_neg fun h => ?_
        rw [Bool.and_eq_true] at h
        have h1 := V.str.inj (of_decide_eq_true h.1)
        rw [hv] at h1
        have h2 := (eq _).mp h1
        by_cases h10 : 10 ≤ digitsVal z.cps.toList
        · exact numL_head _ h10 (by rw [h2]; exact c1.2)
        · rw [TL.numL_lt (by omega)] at h2
          have := congrArg List.length h2
          rw [zl] at this
          have : 1 = z.length := this
          omega
    · rw [if_neg c1]
      have bk := back_num _ z.cps.toList rfl dig ne (by
        by_cases h : 1 < z.length
        · exact .inr fun e => c1 ⟨h, e⟩
        · exact .inl (by omega))
      show _ = if digitsVal z.cps.toList < m then ((digitsVal z.cps.toList : Nat) : Int) else -1
      by_cases c3 : 3 < z.length
      · rw [if_pos (by rw [decide_eq_true (show (3 : Int) < z.length by omega)]; rfl)]
        refine (if_neg fun h => ?_).symm
        have := TL.numL_len (n := digitsVal z.cps.toList) (k := 3) (by decide) (by omega)
        rw [bk, zl] at this
        omega
      · rw [if_neg (by rw [decide_eq_false (show ¬ (3 : Int) < z.length by omega)]; decide), hv, decide_eq_true (show V.str (toString ((digitsVal z.cps.toList : Nat) : Int)) = V.str z by rw [(eq _).mpr bk]), Bool.true_and]
        by_cases h : digitsVal z.cps.toList < m
        · rw [if_pos h, if_pos (decide_eq_true (by omega))]
        · rw [if_neg h, if_neg (fun e => h (by have := of_decide_eq_true e; omega))]
end K5
namespace K5
open PySem PySem.Spec PyProof.Rows L2
/-! ### words: the law's are the package's -/
theorem worths_law (z : Str) {m : Nat} (hm : m ≤ 4) : lWorths m z = wOf z m := by
  unfold lWorths wOf
  split
  · rfl
  · rw [num_law z (by omega)]
    cases lNum z with
    | none =>
      show [] = if 0 ≤ (-1 : Int) then _ else _
      rw [if_neg (by decide)]
    | some v =>
      show (if v < m then [((v : Nat) : Int)] else []) = if 0 ≤ (if v < m then ((v : Nat) : Int) else -1) then [if v < m then ((v : Nat) : Int) else -1] else []
      by_cases h : v < m
      · rw [if_pos h, if_pos h, if_pos (by omega)]
      · rw [if_neg h, if_neg h, if_neg (by decide)]
theorem any_num {m : Nat} : ¬ 0 ≤ numOf "any" m := by
  have e : numOf "any" m = -1 := if_pos (by decide +kernel)
  rw [e]
  decide
theorem answers_law (z : Str) {m : Nat} (hm : m ≤ 4) : lAnswers m z = asOf z m := by
  unfold lAnswers asOf ansOf
  by_cases h1 : z = "lost"
  · subst h1
    rw [if_pos rfl, if_neg busy_lost.symm, if_pos rfl]
  · by_cases h2 : z = "busy"
    · rw [if_neg h1, if_pos h2, if_pos h2]
    · rw [if_neg h1, if_neg h2, if_neg h2, if_neg h1, worths_law z hm]
      by_cases h3 : 0 ≤ numOf z m
      · rw [if_pos h3]
        show wOf z m = [numOf z m]
        have h4 : z ≠ "any" := fun c => any_num (by rw [← c]; exact h3)
        unfold wOf
        rw [if_neg h4, if_pos h3]
      · rw [if_neg h3]
theorem marg' : ∀ d : Fin 4, (margin d.val).cps.toList = List.replicate (2 * d.val) 32 := by decide +kernel
theorem margL' {d : Nat} (h : d ≤ 3) : (margin d).cps.toList = List.replicate (2 * d) 32 := marg' ⟨d, by omega⟩
theorem len_toList' (z : Str) : z.length = z.cps.toList.length := by
  rw [Array.length_toList]
  rfl
theorem margN' {d : Nat} (h : d ≤ 3) : (margin d).length = 2 * d := by rw [len_toList', margL' h, List.length_replicate]
theorem space' : (" " : Str) = ⟨#[32]⟩ := by decide +kernel
theorem blank_empty {z : Str} {r : List Nat} (h : z.cps.toList = 32 :: r) : ("" : Str) ∈ Txt.split z " " := by
  rw [space']
  have hj := StrLaws.join_split z ⟨#[32]⟩
  have free := StrLaws.split_free z 32
  cases q : Txt.split z ⟨#[32]⟩ with
  | nil => exact absurd q (split_ne z 32)
  | cons x l =>
    rw [q] at hj free
    have fx := free x (List.mem_cons_self ..)
    have hx : x.cps.toList = [] := by
      cases l with
      | nil =>
        have e : x = z := hj
        rw [e, h] at fx
        exact absurd (List.mem_cons_self ..) fx
      | cons y l =>
        have e : (Str.join ⟨#[32]⟩ (x :: y :: l)).cps.toList = z.cps.toList := by rw [hj]
        rw [join_list, h] at e
        cases hl : x.cps.toList with
        | nil => rfl
        | cons c t =>
          rw [hl] at e fx
          injection e with e1 _
          rw [e1] at fx
          exact absurd (List.mem_cons_self ..) fx
    have e0 : x = "" := str_list (by rw [hx]; rfl)
    rw [e0]
    exact List.mem_cons_self ..
def lead (z : Str) : Nat := (z.cps.toList.takeWhile (· == 32)).length
theorem lead_take (z : Str) : z.cps.toList.take (lead z) = List.replicate (lead z) 32 := by
  have e : z.cps.toList.take (lead z) = z.cps.toList.takeWhile (· == 32) := by
    unfold lead
    generalize z.cps.toList = l
    induction l with
    | nil => rfl
    | cons x r ih =>
      rw [List.takeWhile_cons]
      split
      · rw [List.length_cons, List.take_succ_cons, ih]
      · rfl
  rw [e, List.eq_replicate_iff]
  refine ⟨rfl, fun b hb => ?_⟩
  clear e
  revert hb
  generalize z.cps.toList = l
  induction l with
  | nil => intro h; cases h
  | cons x r ih =>
    intro h
    rw [List.takeWhile_cons] at h
    split at h
    · rename_i hx
      rcases List.mem_cons.mp h with c | c
      · rw [c]
        exact eq_of_beq hx
      · exact ih c
    · cases h
theorem lead_le (z : Str) : lead z ≤ z.length := by
  unfold lead
  rw [len_toList']
  exact (List.takeWhile_prefix _).length_le
theorem lead_stop (z : Str) : ∀ r, z.cps.toList.drop (lead z) ≠ 32 :: r := by
  unfold lead
  generalize z.cps.toList = l
  induction l with
  | nil => intro r h; cases h
  | cons x t ih =>
    intro r h
    rw [List.takeWhile_cons] at h
    split at h
    · rw [List.length_cons, List.drop_succ_cons] at h
      exact ih r h
    · rename_i hx
      have h : x :: t = 32 :: r := h
      injection h with h1 _
      exact hx (by rw [h1]; rfl)
theorem rest_list (z : Str) : (lRest z).cps.toList = z.cps.toList.drop (lead z) := by
  unfold lRest Txt.lstripChars
  rw [PyProof.Rows.stripBy_eq]
  have hg : ((" " : Str).cps.contains : Nat → Bool) = (· == 32) := by
    funext c
    rw [space']
    show (#[32] : Array Nat).contains c = (c == 32)
    simp [Array.contains]
  rw [hg]
  show (Builtin.Str.strSub z (lead z) z.length).cps.toList = _
  show (z.cps.extract (lead z) z.cps.size).toList = _
  rw [Array.toList_extract]
  show (z.cps.toList.drop (lead z)).take (z.cps.size - lead z) = _
  exact List.take_of_length_le (by rw [List.length_drop, Array.length_toList]; exact Nat.le_refl _)
theorem rest_len (z : Str) : (z.length : Int) - ((lRest z).length : Int) = (lead z : Nat) := by
  have h := lead_le z
  rw [len_toList' (lRest z), rest_list, List.length_drop, ← len_toList']
  omega
theorem starts_iff {z : Str} {dp : Nat} (hd : dp ≤ 3) : Txt.startswith z (margin dp) = decide (2 * dp ≤ lead z) := by
  unfold Txt.startswith
  rw [StrLaws.subAt_eq, margN' hd, margL' hd, List.drop_zero]
  by_cases h : 2 * dp ≤ lead z
  · rw [decide_eq_true h, Bool.and_eq_true]
    refine ⟨decide_eq_true (by have := lead_le z; omega), ?_⟩
    have e : z.cps.toList.take (2 * dp) = List.replicate (2 * dp) 32 := by
      have e1 : z.cps.toList.take (2 * dp) = (z.cps.toList.take (lead z)).take (2 * dp) := by rw [List.take_take, Nat.min_eq_left h]
      rw [e1, lead_take, List.take_replicate, Nat.min_eq_left h]
    rw [e]
    exact beq_self_eq_true _
  · rw [decide_eq_false h]
    cases q : (decide (0 + 2 * dp ≤ z.length) && (z.cps.toList.take (2 * dp) == List.replicate (2 * dp) 32)) with
    | false => rfl
    | true =>
      rw [Bool.and_eq_true] at q
      have h1 := of_decide_eq_true q.1
      have h2 := eq_of_beq q.2
      have h3 := congrArg (fun l : List Nat => l[lead z]?) h2
      have h3 : (z.cps.toList.take (2 * dp))[lead z]? = (List.replicate (2 * dp) 32)[lead z]? := h3
      rw [List.getElem?_take_of_lt (by omega), List.getElem?_replicate_of_lt (by omega)] at h3
      have h4 := drop_cons h3
      exact absurd h4 (lead_stop z _)
theorem cut_list {z : Str} {dp : Nat} (hd : dp ≤ 3) (h : 2 * dp ≤ lead z) : (cutS z (some ((margin dp).length : Int)) none).cps.toList = z.cps.toList.drop (2 * dp) := by
  have hl := lead_le z
  unfold cutS
  rw [HT.sIx_nat, HT.sIx_none, margN' hd]
  show (z.cps.toList.drop (min (2 * dp) z.length)).take _ = _
  rw [Nat.min_eq_left (by omega), List.take_of_length_le (by rw [List.length_drop, ← len_toList']; exact Nat.le_refl _)]
theorem words_law (z : Str) {dp : Nat} (hd : dp ≤ 3) : rowWords z dp = (lWords z dp).getD [] := by
  unfold rowWords lWords
  rw [starts_iff hd, rest_len]
  by_cases h : 2 * dp ≤ lead z
  · rw [decide_eq_true h, if_pos rfl]
    by_cases e : lead z = 2 * dp
    · have ec : cutS z (some ((margin dp).length : Int)) none = lRest z := str_list (by rw [cut_list hd h, rest_list, e])
      unfold cleanWords restWords
      rw [ec, inV_strs]
      by_cases hm : ("" : Str) ∈ Txt.split (lRest z) " "
      · rw [if_pos (decide_eq_true hm), if_pos (.inr hm)]
        rfl
      · rw [if_neg (by rw [decide_eq_false hm]; exact Bool.false_ne_true), if_neg (fun c => c.elim (fun c => c (by omega)) hm)]
        rfl
    · rw [if_pos (.inl (by omega))]
      obtain ⟨r, hr⟩ : ∃ r, (cutS z (some ((margin dp).length : Int)) none).cps.toList = 32 :: r := by
        rw [cut_list hd h]
        have h3 : z.cps.toList[2 * dp]? = some 32 := by
          have h4 : (z.cps.toList.take (lead z))[2 * dp]? = some 32 := by rw [lead_take, List.getElem?_replicate_of_lt (by omega)]
          rw [List.getElem?_take_of_lt (by omega)] at h4
          exact h4
        exact ⟨_, drop_cons h3⟩
      unfold cleanWords restWords
      rw [inV_strs, if_pos (decide_eq_true (blank_empty hr))]
      rfl
  · rw [decide_eq_false h, if_neg Bool.false_ne_true, if_pos (.inl (by omega))]
    rfl
theorem words_ne {z : Str} {dp : Nat} {ws : List Str} (h : lWords z dp = some ws) : ws ≠ [] := by
  unfold lWords at h
  split at h
  · cases h
  · rw [← Option.some.inj h, space']
    exact split_ne _ _
end K5
namespace K5
open PySem PySem.Spec PyProof.Rows L2
/-! ### a text of outcomes, cut at ', ' -/
/-- words one behind the other -/
def glue : List (List Nat) → List Nat
  | [] => []
  | [w] => w
  | w :: x :: r => w ++ 32 :: glue (x :: r)
/-- the parts: a word that ends with ',' and has one behind it ends a part -/
def partsW : List Nat → List (List Nat) → List (List Nat)
  | acc, [] => [acc]
  | acc, [w] => [acc ++ w]
  | acc, w :: x :: r => if w.getLast? = some 44 then (acc ++ w.dropLast) :: partsW [] (x :: r) else partsW (acc ++ (w ++ [32])) (x :: r)
abbrev sepC : List Nat := [44, 32]
theorem pre_sep {c d : Nat} {r : List Nat} : TL.pre sepC (c :: d :: r) = (decide (c = 44) && decide (d = 32)) := by
  show ([c, d] == [44, 32]) = _
  by_cases h : c = 44 <;> by_cases h2 : d = 32 <;> simp [h, h2]
theorem pre_one {c : Nat} : TL.pre sepC [c] = false := by
  show ([c] == [44, 32]) = false
  simp
theorem spl_end : ∀ (w acc : List Nat), 32 ∉ w → TL.spl sepC 0 acc w = [acc ++ w]
  | [], acc, _ => by rw [List.append_nil]; rfl
  | [c], acc, h => by rw [TL.spl_miss pre_one]; rfl
  | c :: d :: w, acc, h => by
    have hd : d ≠ 32 := fun e => h (by rw [e]; simp)
    rw [TL.spl_miss (by rw [pre_sep, decide_eq_false hd, Bool.and_false]), spl_end (d :: w) (acc ++ [c]) (fun e => h (List.mem_cons_of_mem _ e)), List.append_assoc]
    rfl
theorem spl_word : ∀ (w acc R : List Nat), 32 ∉ w → TL.spl sepC 0 acc (w ++ 32 :: R) = if w.getLast? = some 44 then (acc ++ w.dropLast) :: TL.spl sepC 0 [] R else TL.spl sepC 0 (acc ++ (w ++ [32])) R
  | [], acc, R, _ => by
    rw [if_neg (by simp)]
    show TL.spl sepC 0 acc (32 :: R) = _
    rw [TL.spl_miss (TL.pre_of_head _ _ (by decide))]
    rfl
  | [c], acc, R, _ => by
    show TL.spl sepC 0 acc (c :: 32 :: R) = _
    by_cases h : c = 44
    · subst h
      rw [if_pos (show ([44] : List Nat).getLast? = some 44 from rfl), TL.spl_hit (by rw [pre_sep]; rfl)]
      show acc :: TL.spl sepC 1 [] (32 :: R) = (acc ++ []) :: TL.spl sepC 0 [] R
      rw [List.append_nil]
      all_goals rfl
    · rw [if_neg (by simpa using h), TL.spl_miss (by rw [pre_sep, decide_eq_false h]; rfl), TL.spl_miss (TL.pre_of_head _ _ (by decide)), List.append_assoc]
      all_goals rfl
  | c :: d :: w, acc, R, h => by
    have hd : d ≠ 32 := fun e => h (by rw [e]; simp)
    have ih := spl_word (d :: w) (acc ++ [c]) R (fun e => h (List.mem_cons_of_mem _ e))
    show TL.spl sepC 0 acc (c :: d :: (w ++ 32 :: R)) = _
    rw [TL.spl_miss (by rw [pre_sep, decide_eq_false hd, Bool.and_false])]
    show TL.spl sepC 0 (acc ++ [c]) ((d :: w) ++ 32 :: R) = _
    rw [ih]
    have e1 : (c :: d :: w).getLast? = (d :: w).getLast? := by simp [List.getLast?_cons_cons]
    rw [e1]
    split
    · rw [List.append_assoc]
      rfl
    · rw [List.append_assoc]
      rfl
theorem spl_glue : ∀ (ws : List (List Nat)) (acc : List Nat), ws ≠ [] → (∀ w ∈ ws, 32 ∉ w) → TL.spl sepC 0 acc (glue ws) = partsW acc ws
  | [w], acc, _, h => spl_end w acc (h w (List.mem_cons_self ..))
  | w :: x :: r, acc, _, h => by
    show TL.spl sepC 0 acc (w ++ 32 :: glue (x :: r)) = if w.getLast? = some 44 then (acc ++ w.dropLast) :: partsW [] (x :: r) else partsW (acc ++ (w ++ [32])) (x :: r)
    rw [spl_word w acc _ (h w (List.mem_cons_self ..)), spl_glue (x :: r) [] (by simp) fun y hy => h y (List.mem_cons_of_mem _ hy), spl_glue (x :: r) (acc ++ (w ++ [32])) (by simp) fun y hy => h y (List.mem_cons_of_mem _ hy)]
theorem glue_join : ∀ ws : List Str, (Str.join " " ws).cps.toList = glue (ws.map fun w => w.cps.toList)
  | [] => rfl
  | [w] => rfl
  | w :: x :: r => by
    rw [space', join_list, ← space', glue_join (x :: r)]
    rfl
def mkS (l : List Nat) : Str := ⟨l.toArray⟩
theorem mkS_list (l : List Nat) : (mkS l).cps.toList = l := rfl
theorem split_parts {ws : List Str} (ne : ws ≠ []) (h : ∀ w ∈ ws, 32 ∉ w.cps.toList) : Txt.split (Txt.join " " ws) ", " = (partsW [] (ws.map fun w => w.cps.toList)).map mkS := by
  have e : (Txt.split (Txt.join " " ws) ", ").map TL.tl = TL.spl (TL.tl (", " : Str)) 0 [] (TL.tl (Txt.join " " ws)) := TL.split_spl _ _ (by decide +kernel) (TL.kind_ok (by decide +kernel))
  have e2 : TL.tl (", " : Str) = sepC := by decide +kernel
  rw [e2, TL.join_eq] at e
  have e3 : TL.tl (Str.join " " ws) = glue (ws.map fun w => w.cps.toList) := glue_join ws
  rw [e3, spl_glue _ [] (by simpa using ne) (fun w hw => by
    obtain ⟨z, hz, rfl⟩ := List.mem_map.mp hw
    exact h z hz)] at e
  rw [TL.join_eq, ← e, List.map_map]
  refine (List.map_id _).symm.trans (List.map_congr_left fun z _ => ?_)
  exact str_list rfl
end K5
namespace K5
open PySem PySem.Spec PyProof.Rows L2
/-! ### outcomes: the law's are the package's -/
theorem cut_last (w : Str) : cutS w none (some (-1)) = mkS w.cps.toList.dropLast := by
  refine str_list ?_
  have e : HT.sIx w.length w.length (some (-1)) = w.length - 1 := by
    show (if (-1 : Int) < 0 then ((-1 : Int) + (w.length : Int)).toNat else min (-1 : Int).toNat w.length) = w.length - 1
    rw [if_pos (by decide)]
    omega
  unfold cutS
  rw [e, HT.sIx_none]
  show (w.cps.toList.drop 0).take (w.length - 1 - 0) = w.cps.toList.dropLast
  rw [List.drop_zero, Nat.sub_zero, List.dropLast_eq_take, len_toList']
theorem cut_end (w : Str) : cutS w (some (-1)) none = "," ↔ w.cps.toList.getLast? = some 44 := by
  have e : HT.sIx w.length 0 (some (-1)) = w.length - 1 := by
    show (if (-1 : Int) < 0 then ((-1 : Int) + (w.length : Int)).toNat else min (-1 : Int).toNat w.length) = w.length - 1
    rw [if_pos (by decide)]
    omega
  have ec : (cutS w (some (-1)) none).cps.toList = w.cps.toList.drop (w.cps.toList.length - 1) := by
    unfold cutS
    rw [e, HT.sIx_none]
    show (w.cps.toList.drop (w.length - 1)).take (w.length - (w.length - 1)) = _
    rw [len_toList', List.take_of_length_le (by rw [List.length_drop]; exact Nat.le_refl _)]
  have cm : ("," : Str).cps.toList = [44] := by decide +kernel
  have iff1 : cutS w (some (-1)) none = "," ↔ w.cps.toList.drop (w.cps.toList.length - 1) = [44] := by
    rw [← ec, ← cm]
    exact ⟨fun h => by rw [h], fun h => str_list h⟩
  rw [iff1]
  generalize w.cps.toList = l
  cases l with
  | nil => simp
  | cons x r =>
    have ne : x :: r ≠ [] := by simp
    obtain ⟨l', c, h⟩ : ∃ l' c, x :: r = l' ++ [c] := ⟨(x :: r).dropLast, (x :: r).getLast ne, (List.dropLast_concat_getLast ne).symm⟩
    rw [h]
    simp
theorem ends_num {w : Str} (h : w.cps.toList.getLast? = some 44) : lNum w = none := by
  refine if_pos (.inr (.inr ?_))
  unfold allDig
  rw [List.all_eq_false]
  exact ⟨44, List.mem_of_getLast? h, by decide⟩
theorem ends_ans {m : Nat} {w : Str} (h : w.cps.toList.getLast? = some 44) : lAnswers m w = [] := by
  have n1 : w ≠ "lost" := fun e => by
    rw [e] at h
    exact absurd h (by decide +kernel)
  have n2 : w ≠ "busy" := fun e => by
    rw [e] at h
    exact absurd h (by decide +kernel)
  have n3 : w ≠ "any" := fun e => by
    rw [e] at h
    exact absurd h (by decide +kernel)
  unfold lAnswers lWorths
  rw [if_neg n1, if_neg n2, if_neg n3, ends_num h]
theorem putAll_spec : ∀ (as : List Int) (b : Int) (acc : List (Int × Int)), as.Nodup → putAll as b acc = if ∃ a ∈ as, a ∈ acc.map (·.1) then none else some (acc ++ as.map fun a => (a, b))
  | [], b, acc, _ => by
    rw [if_neg (by rintro ⟨a, h, _⟩; cases h), List.map_nil, List.append_nil]
    rfl
  | a :: as, b, acc, nd => by
    rw [List.nodup_cons] at nd
    show (if a ∈ acc.map (·.1) then none else putAll as b (acc ++ [(a, b)])) = _
    by_cases h : a ∈ acc.map (·.1)
    · rw [if_pos h, if_pos ⟨a, List.mem_cons_self .., h⟩]
    · rw [if_neg h, putAll_spec as b _ nd.2]
      have e : (∃ x ∈ as, x ∈ (acc ++ [(a, b)]).map (·.1)) ↔ ∃ x ∈ a :: as, x ∈ acc.map (·.1) := by
        constructor
        · rintro ⟨x, hx, hm⟩
          rw [List.map_append] at hm
          rcases List.mem_append.mp hm with hm | hm
          · exact ⟨x, List.mem_cons_of_mem _ hx, hm⟩
          · have e2 : x = a := List.mem_singleton.mp hm
            rw [e2] at hx
            exact absurd hx nd.1
        · rintro ⟨x, hx, hm⟩
          rcases List.mem_cons.mp hx with hx | hx
          · rw [hx] at hm
            exact absurd hm h
          · exact ⟨x, hx, by rw [List.map_append]; exact List.mem_append_left _ hm⟩
      by_cases h2 : ∃ x ∈ a :: as, x ∈ acc.map (·.1)
      · rw [if_pos h2, if_pos (e.mpr h2)]
      · rw [if_neg h2, if_neg (fun c => h2 (e.mp c)), List.append_assoc]
        rfl
theorem outRow_law {m n : Nat} (hm : m ≤ 4) (hn : n ≤ 1000) (w e : Str) (acc : LO) : outRow m n [w, e] (lI acc) = match lNum e with
    | none => none
    | some v => if v < n ∧ lAnswers m w ≠ [] ∧ ¬ ∃ a ∈ lAnswers m w, a ∈ acc.map (·.1) then some (lI (acc ++ (lAnswers m w).map fun a => (a, v))) else none := by
  show (if asOf w m ≠ [] ∧ 0 ≤ numOf e n then putAll (asOf w m) (numOf e n) (lI acc) else none) = _
  rw [← answers_law w hm, num_law e hn]
  cases lNum e with
  | none => exact if_neg fun h => absurd (show 0 ≤ (-1 : Int) from h.2) (by decide)
  | some v =>
    show (if lAnswers m w ≠ [] ∧ 0 ≤ (if v < n then ((v : Nat) : Int) else -1) then putAll (lAnswers m w) (if v < n then ((v : Nat) : Int) else -1) (lI acc) else none) = if v < n ∧ lAnswers m w ≠ [] ∧ ¬ ∃ a ∈ lAnswers m w, a ∈ acc.map (·.1) then some (lI (acc ++ (lAnswers m w).map fun a => (a, v))) else none
    by_cases h : v < n
    · rw [if_pos h]
      by_cases h2 : lAnswers m w = []
      · rw [if_neg (fun c => c.1 h2), if_neg (fun c => c.2.1 h2)]
      · rw [if_pos ⟨h2, by omega⟩, putAll_spec _ _ _ (lAnswers_nodup).1, lI_keys]
        by_cases h3 : ∃ a ∈ lAnswers m w, a ∈ acc.map (·.1)
        · rw [if_pos h3, if_neg (fun c => c.2.2 h3)]
        · rw [if_neg h3, if_pos ⟨h, h2, h3⟩]
          unfold lI
          rw [List.map_append, List.map_map]
          rfl
    · rw [if_neg h, if_neg (fun c => absurd c.2 (by decide)), if_neg (fun c => h c.1)]
theorem lOuts_sub {m : Nat} : ∀ {ps : List (Str × Str)} {acc o : LO}, lOuts m ps acc = some o → ∃ t, o = acc ++ t
  | [], acc, o, h => ⟨[], by rw [List.append_nil]; exact (Option.some.inj h).symm⟩
  | (a, b) :: r, acc, o, h => by
    unfold lOuts at h
    split at h
    · cases h
    · split at h
      · cases h
      · obtain ⟨t, e⟩ := lOuts_sub h
        exact ⟨_, by rw [e, List.append_assoc]⟩
theorem split_two {a b : List Nat} (ha : 32 ∉ a) (hb : 32 ∉ b) : Txt.split (mkS (a ++ 32 :: b)) " " = [mkS a, mkS b] := by
  have e : mkS (a ++ 32 :: b) = Str.join ⟨#[32]⟩ [mkS a, mkS b] := str_list (by rw [join_list]; rfl)
  rw [e, space']
  exact split_join (by simp) fun p hp => by
    rcases List.mem_cons.mp hp with h | h
    · rw [h]
      exact ha
    · rw [List.mem_singleton.mp h]
      exact hb
theorem split_one {a : List Nat} (ha : 32 ∉ a) : Txt.split (mkS a) " " = [mkS a] := by
  have e : mkS a = Str.join ⟨#[32]⟩ [mkS a] := rfl
  rw [space']
  have := split_join (c := 32) (ps := [mkS a]) (by simp) fun p hp => by
    rw [List.mem_singleton.mp hp]
    exact ha
  rw [← e] at this
  exact this
theorem count_join : ∀ ps : List Str, ps ≠ [] → (∀ p ∈ ps, 32 ∉ p.cps.toList) → (Str.join ⟨#[32]⟩ ps).cps.toList.count 32 + 1 = ps.length
  | [p], _, h => by
    show p.cps.toList.count 32 + 1 = 1
    rw [List.count_eq_zero.mpr (h p (List.mem_cons_self ..))]
  | p :: q :: r, _, h => by
    have ih := count_join (q :: r) (by simp) fun x hx => h x (List.mem_cons_of_mem _ hx)
    rw [join_list, List.count_append, List.count_cons_self, List.count_eq_zero.mpr (h p (List.mem_cons_self ..)), Nat.zero_add, ih]
    rfl
theorem split_count (z : Str) : (Txt.split z " ").length = z.cps.toList.count 32 + 1 := by
  have h := count_join (Txt.split z ⟨#[32]⟩) (split_ne z 32) (StrLaws.split_free z 32)
  rw [StrLaws.join_split] at h
  rw [space', h]
theorem parts_head : ∀ (ws : List (List Nat)) (acc : List Nat), ∃ t r, partsW acc ws = (acc ++ t) :: r
  | [], acc => ⟨[], [], by rw [List.append_nil]; rfl⟩
  | [w], acc => ⟨w, [], rfl⟩
  | w :: x :: r, acc => by
    show ∃ t s, (if w.getLast? = some 44 then (acc ++ w.dropLast) :: partsW [] (x :: r) else partsW (acc ++ (w ++ [32])) (x :: r)) = (acc ++ t) :: s
    split
    · exact ⟨_, _, rfl⟩
    · obtain ⟨t, s, e⟩ := parts_head (x :: r) (acc ++ (w ++ [32]))
      exact ⟨_, s, by rw [e, List.append_assoc]⟩
def flatW : List (Str × Str) → List (List Nat)
  | [] => []
  | p :: r => p.1.cps.toList :: p.2.cps.toList :: flatW r
def inN (n : Nat) (o : LO) : Bool := o.all fun q => decide (q.2 < n)
theorem two_none {a b c : List Nat} {m n : Nat} {acc : List (Int × Int)} : outRow m n (Txt.split (mkS (a ++ 32 :: (b ++ 32 :: c))) " ") acc = none := by
  refine outRow_len fun h => ?_
  rw [split_count, mkS_list, List.count_append, List.count_cons_self, List.count_append, List.count_cons_self] at h
  omega
theorem one_none {a : List Nat} {m n : Nat} {acc : List (Int × Int)} (h : 32 ∉ a) : outRow m n (Txt.split (mkS a) " ") acc = none := by
  refine outRow_len fun e => ?_
  rw [split_one h] at e
  cases e
theorem outs_cons {m n : Nat} {x : Str} {r : List Str} {acc : List (Int × Int)} : outsOf m n (x :: r) acc = (outRow m n (Txt.split x " ") acc).bind (outsOf m n r) := rfl
theorem dropLast_free {a : List Nat} (h : 32 ∉ a) : 32 ∉ a.dropLast := fun c => h ((List.dropLast_sublist a).subset c)
theorem inN_app {n v : Nat} {acc : LO} {as : List Int} (ha : inN n acc = true) (ne : as ≠ []) : inN n (acc ++ as.map fun a => (a, v)) = decide (v < n) := by
  unfold inN at ha ⊢
  rw [List.all_append, ha, Bool.true_and]
  cases as with
  | nil => exact absurd rfl ne
  | cons a r =>
    by_cases h : v < n
    · rw [decide_eq_true h, List.all_eq_true]
      intro q hq
      obtain ⟨b, _, rfl⟩ := List.mem_map.mp hq
      exact decide_eq_true h
    · rw [decide_eq_false h, List.map_cons, List.all_cons, decide_eq_false h, Bool.false_and]
theorem inN_pre {n : Nat} {a t : LO} (h : inN n (a ++ t) = true) : inN n a = true := by
  unfold inN at h ⊢
  rw [List.all_append, Bool.and_eq_true] at h
  exact h.1
/-- a pair of words is taken by both alike -/
theorem pair_step {m n : Nat} {w e : Str} {acc : LO} {R : List (Int × Int) → Option (List (Int × Int))} {L : LO → Option LO} (hm : m ≤ 4) (hn : n ≤ 1000) (ha : inN n acc = true)
    (sub : ∀ a o, L a = some o → ∃ t, o = a ++ t) (ih : ∀ a, inN n a = true → R (lI a) = match L a with | none => none | some o => if inN n o = true then some (lI o) else none) :
    (outRow m n [w, e] (lI acc)).bind R = match (match lNum e with
      | none => none
      | some later => if lAnswers m w = [] ∨ (∃ a ∈ lAnswers m w, a ∈ acc.map (·.1)) then none else L (acc ++ (lAnswers m w).map fun a => (a, later))) with
      | none => none
      | some o => if inN n o = true then some (lI o) else none := by
  rw [outRow_law hm hn]
  cases lNum e with
  | none => rfl
  | some v =>
    show (if v < n ∧ lAnswers m w ≠ [] ∧ ¬ (∃ a ∈ lAnswers m w, a ∈ acc.map (·.1)) then some (lI (acc ++ (lAnswers m w).map fun a => (a, v))) else none).bind R = match (if lAnswers m w = [] ∨ (∃ a ∈ lAnswers m w, a ∈ acc.map (·.1)) then none else L (acc ++ (lAnswers m w).map fun a => (a, v))) with
      | none => none
      | some o => if inN n o = true then some (lI o) else none
    by_cases h : lAnswers m w = [] ∨ (∃ a ∈ lAnswers m w, a ∈ acc.map (·.1))
    · rw [if_pos h, if_neg (fun c => h.elim c.2.1 c.2.2)]
      rfl
    · rw [if_neg h]
      have h1 : lAnswers m w ≠ [] := fun c => h (.inl c)
      have h2 : ¬ ∃ a ∈ lAnswers m w, a ∈ acc.map (·.1) := fun c => h (.inr c)
      have hi := inN_app (v := v) ha h1
      by_cases hv : v < n
      · rw [if_pos ⟨hv, h1, h2⟩]
        show R (lI (acc ++ (lAnswers m w).map fun a => (a, v))) = _
        exact ih _ (by rw [hi]; exact decide_eq_true hv)
      · rw [if_neg (fun c => hv c.1)]
        show none = _
        cases q : L (acc ++ (lAnswers m w).map fun a => (a, v)) with
        | none => rfl
        | some o =>
          obtain ⟨t, rfl⟩ := sub _ _ q
          show none = if inN n ((acc ++ (lAnswers m w).map fun a => (a, v)) ++ t) = true then _ else none
          rw [if_neg]
          intro c
          have := inN_pre c
          rw [hi] at this
          exact hv (of_decide_eq_true this)
theorem outs_pairs {m n : Nat} (hm : m ≤ 4) (hn : n ≤ 1000) : ∀ (ps : List (Str × Str)) (acc : LO), ps ≠ [] → (∀ p ∈ ps, 32 ∉ p.1.cps.toList ∧ 32 ∉ p.2.cps.toList) → inN n acc = true →
    outsOf m n ((partsW [] (flatW ps)).map mkS) (lI acc) = match lOuts m ps acc with
      | none => none
      | some o => if inN n o = true then some (lI o) else none
  | [(w0, w1)], acc, _, hb, ha => by
    obtain ⟨b0, b1⟩ := hb (w0, w1) (List.mem_cons_self ..)
    have b0 : 32 ∉ w0.cps.toList := b0
    have b1 : 32 ∉ w1.cps.toList := b1
    have hl : lOuts m [(w0, w1)] acc = match lNum w1 with
      | none => none
      | some later => if (([] : List (Str × Str)) ≠ [] ∧ cutS w1 (some (-1)) none ≠ ",") ∨ lAnswers m w0 = [] ∨ (∃ a ∈ lAnswers m w0, a ∈ acc.map (·.1)) then none else some (acc ++ (lAnswers m w0).map fun a => (a, later)) := rfl
    rw [hl]
    show outsOf m n ((if w0.cps.toList.getLast? = some 44 then ([] ++ w0.cps.toList.dropLast) :: partsW [] [w1.cps.toList] else partsW ([] ++ (w0.cps.toList ++ [32])) [w1.cps.toList]).map mkS) (lI acc) = _
    by_cases e0 : w0.cps.toList.getLast? = some 44
    · rw [if_pos e0, List.map_cons, outs_cons, List.nil_append, one_none (dropLast_free b0), ends_ans e0]
      cases lNum w1 with
      | none => rfl
      | some v => simp
    · rw [if_neg e0]
      show outsOf m n [mkS (([] ++ (w0.cps.toList ++ [32])) ++ w1.cps.toList)] (lI acc) = _
      have e1 : ([] ++ (w0.cps.toList ++ [32])) ++ w1.cps.toList = w0.cps.toList ++ 32 :: w1.cps.toList := by simp
      rw [e1, outs_cons, split_two b0 b1, show mkS w0.cps.toList = w0 from str_list rfl, show mkS w1.cps.toList = w1 from str_list rfl]
      have st := pair_step (w := w0) (e := w1) (acc := acc) (R := outsOf m n []) (L := some) hm hn ha (fun a o h => ⟨[], by rw [List.append_nil]; exact (Option.some.inj h).symm⟩) (fun a h => by
        show some (lI a) = if inN n a = true then some (lI a) else none
        rw [if_pos h])
      rw [st]
      cases lNum w1 with
      | none => rfl
      | some v =>
        dsimp only
        by_cases h : lAnswers m w0 = [] ∨ (∃ a ∈ lAnswers m w0, a ∈ acc.map (·.1))
        · rw [if_pos h, if_pos (.inr h)]
        · rw [if_neg h, if_neg (fun c => c.elim (fun c => c.1 rfl) h)]
  | (w0, w1) :: (w2, w3) :: r, acc, _, hb, ha => by
    obtain ⟨b0, b1⟩ := hb (w0, w1) (List.mem_cons_self ..)
    have b0 : 32 ∉ w0.cps.toList := b0
    have b1 : 32 ∉ w1.cps.toList := b1
    have hl : lOuts m ((w0, w1) :: (w2, w3) :: r) acc = match lNum (cutS w1 none (some (-1))) with
      | none => none
      | some later => if ((w2, w3) :: r ≠ [] ∧ cutS w1 (some (-1)) none ≠ ",") ∨ lAnswers m w0 = [] ∨ (∃ a ∈ lAnswers m w0, a ∈ acc.map (·.1)) then none else lOuts m ((w2, w3) :: r) (acc ++ (lAnswers m w0).map fun a => (a, later)) := rfl
    rw [hl]
    show outsOf m n ((if w0.cps.toList.getLast? = some 44 then ([] ++ w0.cps.toList.dropLast) :: partsW [] (w1.cps.toList :: flatW ((w2, w3) :: r)) else partsW ([] ++ (w0.cps.toList ++ [32])) (w1.cps.toList :: flatW ((w2, w3) :: r))).map mkS) (lI acc) = _
    by_cases e0 : w0.cps.toList.getLast? = some 44
    · rw [if_pos e0, List.map_cons, outs_cons, List.nil_append, one_none (dropLast_free b0), ends_ans e0]
      cases lNum (cutS w1 none (some (-1))) with
      | none => rfl
      | some v => simp
    · rw [if_neg e0]
      show outsOf m n ((if w1.cps.toList.getLast? = some 44 then (([] ++ (w0.cps.toList ++ [32])) ++ w1.cps.toList.dropLast) :: partsW [] (flatW ((w2, w3) :: r)) else partsW (([] ++ (w0.cps.toList ++ [32])) ++ (w1.cps.toList ++ [32])) (flatW ((w2, w3) :: r))).map mkS) (lI acc) = _
      by_cases e1 : w1.cps.toList.getLast? = some 44
      · have ea : ([] ++ (w0.cps.toList ++ [32])) ++ w1.cps.toList.dropLast = w0.cps.toList ++ 32 :: w1.cps.toList.dropLast := by simp
        rw [if_pos e1, ea, List.map_cons, outs_cons, split_two b0 (dropLast_free b1), show mkS w0.cps.toList = w0 from str_list rfl, ← cut_last]
        rw [pair_step (L := lOuts m ((w2, w3) :: r)) hm hn ha (fun a o h => lOuts_sub h) fun a h => outs_pairs hm hn ((w2, w3) :: r) a (by simp) (fun p hp => hb p (List.mem_cons_of_mem _ hp)) h]
        cases lNum (cutS w1 none (some (-1))) with
        | none => rfl
        | some v =>
          have no : ¬ ((w2, w3) :: r ≠ [] ∧ cutS w1 (some (-1)) none ≠ ",") := fun c => c.2 ((cut_end w1).mpr e1)
          dsimp only
          by_cases h : lAnswers m w0 = [] ∨ (∃ a ∈ lAnswers m w0, a ∈ acc.map (·.1))
          · rw [if_pos h, if_pos (.inr h)]
          · rw [if_neg h, if_neg (fun c => c.elim no h)]
            cases lOuts m ((w2, w3) :: r) (acc ++ List.map (fun a => (a, v)) (lAnswers m w0)) <;> rfl
      · rw [if_neg e1]
        obtain ⟨t, s, ep⟩ := parts_head (flatW ((w2, w3) :: r)) (([] ++ (w0.cps.toList ++ [32])) ++ (w1.cps.toList ++ [32]))
        have ea : (([] ++ (w0.cps.toList ++ [32])) ++ (w1.cps.toList ++ [32])) ++ t = w0.cps.toList ++ 32 :: (w1.cps.toList ++ 32 :: t) := by simp
        rw [ep, ea, List.map_cons, outs_cons, two_none]
        cases lNum (cutS w1 none (some (-1))) with
        | none => rfl
        | some v =>
          have yes : ((w2, w3) :: r ≠ [] ∧ cutS w1 (some (-1)) none ≠ ",") := ⟨by simp, fun c => e1 ((cut_end w1).mp c)⟩
          dsimp only
          rw [if_pos (.inl yes)]
          rfl
end K5
namespace K5
open PySem PySem.Spec PyProof.Rows L2
/-! ### a row: the law's is the package's -/
theorem bind_none {α β : Type} (x : Option α) : (x.bind fun _ => (none : Option β)) = none := by cases x <;> rfl
theorem odd_none {m n : Nat} : ∀ (ws : List (List Nat)) (acc : List (Int × Int)), ws.length % 2 = 1 → (∀ w ∈ ws, 32 ∉ w) → outsOf m n ((partsW [] ws).map mkS) acc = none
  | [w], acc, _, h => by
    show outsOf m n [mkS ([] ++ w)] acc = none
    rw [outs_cons, List.nil_append, one_none (h w (List.mem_cons_self ..))]
    rfl
  | [_, _], acc, e, _ => by simp at e
  | w0 :: w1 :: w2 :: r, acc, e, h => by
    have b0 := h w0 (List.mem_cons_self ..)
    show outsOf m n ((if w0.getLast? = some 44 then ([] ++ w0.dropLast) :: partsW [] (w1 :: w2 :: r) else (if w1.getLast? = some 44 then (([] ++ (w0 ++ [32])) ++ w1.dropLast) :: partsW [] (w2 :: r) else partsW (([] ++ (w0 ++ [32])) ++ (w1 ++ [32])) (w2 :: r))).map mkS) acc = none
    by_cases e0 : w0.getLast? = some 44
    · rw [if_pos e0, List.map_cons, outs_cons, List.nil_append, one_none (dropLast_free b0)]
      rfl
    · rw [if_neg e0]
      by_cases e1 : w1.getLast? = some 44
      · rw [if_pos e1, List.map_cons, outs_cons]
        have ih : ∀ a, outsOf m n ((partsW [] (w2 :: r)).map mkS) a = none := fun a => odd_none (w2 :: r) a (by
          have : (w0 :: w1 :: w2 :: r).length = (w2 :: r).length + 2 := rfl
          omega) fun w hw => h w (List.mem_cons_of_mem _ (List.mem_cons_of_mem _ hw))
        rw [show outsOf m n ((partsW [] (w2 :: r)).map mkS) = fun _ => none from funext ih]
        exact bind_none _
      · obtain ⟨t, s, ep⟩ := parts_head (w2 :: r) (([] ++ (w0 ++ [32])) ++ (w1 ++ [32]))
        have ea : (([] ++ (w0 ++ [32])) ++ (w1 ++ [32])) ++ t = w0 ++ 32 :: (w1 ++ 32 :: t) := by simp
        rw [if_neg e1, ep, ea, List.map_cons, outs_cons, two_none]
        rfl
theorem flat_pairs : ∀ l : List Str, l.length % 2 = 0 → flatW ((ev2 l).zip (ev2 (l.drop 1))) = l.map fun w => w.cps.toList
  | [], _ => rfl
  | [_], h => by simp at h
  | [x, y], _ => rfl
  | x :: y :: z :: r, h => by
    have ih := flat_pairs (z :: r) (by
      have : (x :: y :: z :: r).length = (z :: r).length + 2 := rfl
      omega)
    show flatW ((x :: ev2 (z :: r)).zip (ev2 (y :: z :: r))) = _
    have e : ev2 (y :: z :: r) = y :: ev2 r := rfl
    rw [e]
    show x.cps.toList :: y.cps.toList :: flatW ((ev2 (z :: r)).zip (ev2 r)) = _
    rw [show flatW ((ev2 (z :: r)).zip (ev2 r)) = flatW ((ev2 (z :: r)).zip (ev2 ((z :: r).drop 1))) from rfl, ih]
    rfl
theorem zip_mem {l : List Str} {p : Str × Str} (h : p ∈ (ev2 l).zip (ev2 (l.drop 1))) : p.1 ∈ l ∧ p.2 ∈ l := by
  have h1 := List.of_mem_zip h
  exact ⟨ev2_mem h1.1, List.mem_of_mem_drop (ev2_mem h1.2)⟩
theorem row_law {m n : Nat} (hm : m ≤ 4) (hn : n ≤ 1000) (ws : List Str) (acc : StA) (free : ∀ w ∈ ws, 32 ∉ w.cps.toList) : rowSt m n ws acc = match lRow m ws with
    | none => none
    | some q => if inN n q.2.2 = true ∧ ∀ w ∈ q.2.1, (q.1, w) ∉ acc.map (·.1) then some (acc ++ q.2.1.map fun w => ((q.1, w), lI q.2.2)) else none := by
  match ws, free with
  | [], _ => rfl
  | [_], _ => rfl
  | [_, _], _ => rfl
  | [_, _, _], _ => rfl
  | [a, b, c, d], free =>
    show (if c = "->" ∧ isDoor a = true ∧ wOf b m ≠ [] ∧ ∀ w ∈ wOf b m, (a, w) ∉ acc.map (·.1) then (outsOf m n (Txt.split (Txt.join " " [d]) ", ") []).map fun os => acc ++ (wOf b m).map fun w => ((a, w), os) else none) = none
    rw [split_parts (by simp) (fun w hw => by
      rw [List.mem_singleton.mp hw]
      exact free d (by simp)), odd_none ([d].map fun w : Str => w.cps.toList) [] rfl (fun w hw => by
      rw [List.mem_singleton.mp hw]
      exact free d (by simp))]
    split <;> rfl
  | a :: b :: c :: d :: e :: r, free =>
    have fr : ∀ w ∈ d :: e :: r, 32 ∉ w.cps.toList := fun w hw => free w (List.mem_cons_of_mem _ (List.mem_cons_of_mem _ (List.mem_cons_of_mem _ hw)))
    have fr2 : ∀ l ∈ (d :: e :: r).map (fun w : Str => w.cps.toList), 32 ∉ l := fun l hl => by
      obtain ⟨w, hw, rfl⟩ := List.mem_map.mp hl
      exact fr w hw
    have lhs : rowSt m n (a :: b :: c :: d :: e :: r) acc = if c = "->" ∧ isDoor a = true ∧ wOf b m ≠ [] ∧ ∀ w ∈ wOf b m, (a, w) ∉ acc.map (·.1) then (outsOf m n (Txt.split (Txt.join " " (d :: e :: r)) ", ") []).map fun os => acc ++ (wOf b m).map fun w => ((a, w), os) else none := rfl
    have rhs : lRow m (a :: b :: c :: d :: e :: r) = if c ≠ "->" ∨ (a :: b :: c :: d :: e :: r).length % 2 = 0 ∨ a = "any" ∨ ¬ (1 ≤ a.length ∧ a.length ≤ 8) ∨ lowAll a = false then none else match lOuts m ((ev2 (d :: e :: r)).zip (ev2 (e :: r))) [] with
        | none => none
        | some o => if lWorths m b = [] then none else some (a, lWorths m b, o) := rfl
    rw [lhs, split_parts (by simp) fr, rhs]
    have dl : (a :: b :: c :: d :: e :: r).length = (d :: e :: r).length + 3 := rfl
    by_cases c1 : c = "->"
    · by_cases c2 : isDoor a = true
      · have hd : a ≠ "any" ∧ (1 ≤ a.length ∧ a.length ≤ 8) ∧ lowAll a = true := by
          unfold isDoor at c2
          rw [isName_low] at c2
          simp only [Bool.and_eq_true, Bool.not_eq_true', decide_eq_true_eq, decide_eq_false_iff_not] at c2
          exact ⟨fun h => c2.2 (by rw [h]), ⟨by omega, by omega⟩, c2.1.2⟩
        by_cases c3 : (a :: b :: c :: d :: e :: r).length % 2 = 0
        · rw [if_pos (c := c ≠ "->" ∨ _) (.inr (.inl c3)), odd_none _ [] (by rw [List.length_map]; omega) fr2]
          split <;> rfl
        · rw [if_neg (c := c ≠ "->" ∨ _) (by
            rintro (h | h | h | h | h)
            · exact h c1
            · exact c3 h
            · exact hd.1 h
            · exact h hd.2.1
            · rw [hd.2.2] at h
              cases h)]
          have fp := flat_pairs (d :: e :: r) (by omega)
          have fp : flatW ((ev2 (d :: e :: r)).zip (ev2 (e :: r))) = (d :: e :: r).map fun w => w.cps.toList := fp
          rw [← fp]
          have op := outs_pairs (m := m) (n := n) hm hn ((ev2 (d :: e :: r)).zip (ev2 (e :: r))) [] (by
            intro h
            have := congrArg List.length h
            rw [List.length_zip, ev2_length, ev2_length] at this
            have h1 : (d :: e :: r).length = r.length + 2 := rfl
            have h2 : (e :: r).length = r.length + 1 := rfl
            rw [h1, h2] at this
            have this : min ((r.length + 2 + 1) / 2) ((r.length + 1 + 1) / 2) = 0 := this
            omega) (fun p hp => by
            have := zip_mem (l := d :: e :: r) hp
            exact ⟨fr _ this.1, fr _ this.2⟩) rfl
          have op : outsOf m n ((partsW [] (flatW ((ev2 (d :: e :: r)).zip (ev2 (e :: r))))).map mkS) [] = _ := op
          rw [op, ← worths_law b hm]
          cases lOuts m ((ev2 (d :: e :: r)).zip (ev2 (e :: r))) [] with
          | none =>
            dsimp only
            split <;> rfl
          | some o =>
            dsimp only
            by_cases hw : lWorths m b = []
            · rw [if_neg (fun h => h.2.2.1 hw), if_pos hw]
            · rw [if_neg (c := lWorths m b = []) hw]
              dsimp only
              by_cases hk : ∀ w ∈ lWorths m b, (a, w) ∉ acc.map (·.1)
              · rw [if_pos ⟨c1, c2, hw, hk⟩]
                by_cases hi : inN n o = true
                · rw [if_pos hi, if_pos ⟨hi, hk⟩]
                  rfl
                · rw [if_neg hi, if_neg (fun h => hi h.1)]
                  rfl
              · rw [if_neg (fun h => hk h.2.2.2), if_neg (fun h => hk h.2)]
      · rw [if_neg (fun h => c2 h.2.1), if_pos (c := c ≠ "->" ∨ _)]
        by_cases h1 : a = "any"
        · exact .inr (.inr (.inl h1))
        · by_cases h2 : 1 ≤ a.length ∧ a.length ≤ 8
          · refine .inr (.inr (.inr (.inr ?_)))
            cases hl : lowAll a with
            | false => rfl
            | true =>
              refine absurd ?_ c2
              unfold isDoor
              rw [isName_low, hl, decide_eq_true (show (1 : Int) ≤ a.length by omega), decide_eq_true (show (a.length : Int) ≤ 8 by omega), decide_eq_false (fun e => h1 (V.str.inj e))]
              rfl
          · exact .inr (.inr (.inr (.inl h2)))
    · rw [if_neg (fun h => c1 h.1), if_pos (c := c ≠ "->" ∨ _) (.inl c1)]
end K5
namespace K5
open PySem PySem.Spec PyProof.Rows L2
/-! ### states and pacts: the law's reading is the package's -/
abbrev StL := List ((Str × Int) × LO)
def stI (acc : StL) : StA := acc.map fun q => (q.1, lI q.2)
theorem stI_keys (acc : StL) : (stI acc).map (·.1) = acc.map (·.1) := by
  unfold stI
  rw [List.map_map]
  rfl
structure LR where
  st : StL
  at_ : Nat
  rows : List (Nat × LO)
  bad : Bool
/-- a state, by the law: what stands behind it, its rows, whether a row is wrong by itself -/
def lSt (m : Nat) : List Str → Nat → StL → LR
  | [], at_, acc => ⟨acc, at_, [], false⟩
  | z :: rs, at_, acc => match lWords z 1 with
    | none => ⟨acc, at_, [], false⟩
    | some ws => match lRow m ws with
      | none => ⟨acc, at_, [], true⟩
      | some q => if ∀ w ∈ q.2.1, (q.1, w) ∉ acc.map (·.1) then
          let R := lSt m rs (at_ + 1) (acc ++ q.2.1.map fun w => ((q.1, w), q.2.2))
          ⟨R.st, R.at_, (at_, q.2.2) :: R.rows, R.bad⟩
        else ⟨acc, at_, [], true⟩
def gone (n : Nat) : List (Nat × LO) → Option Nat
  | [] => none
  | q :: r => if inN n q.2 = true then gone n r else some q.1
theorem gone_app (n : Nat) : ∀ a b : List (Nat × LO), gone n (a ++ b) = match gone n a with
    | some k => some k
    | none => gone n b
  | [], _ => rfl
  | q :: r, b => by
    show (if inN n q.2 = true then gone n (r ++ b) else some q.1) = match (if inN n q.2 = true then gone n r else some q.1) with
      | some k => some k
      | none => gone n b
    by_cases h : inN n q.2 = true
    · rw [if_pos h, if_pos h, gone_app n r b]
    · rw [if_neg h, if_neg h]
theorem lWords_free {z : Str} {dp : Nat} {ws : List Str} (h : lWords z dp = some ws) : ∀ w ∈ ws, 32 ∉ w.cps.toList := by
  unfold lWords at h
  split at h
  · cases h
  · rw [← Option.some.inj h, space']
    exact StrLaws.split_free _ 32
theorem st_law {m n : Nat} (hm : m ≤ 4) (hn : n ≤ 1000) : ∀ (rs : List Str) (at_ : Nat) (acc : StL), stR m n rs at_ (stI acc) = match gone n (lSt m rs at_ acc).rows with
    | some k => .error k
    | none => if (lSt m rs at_ acc).bad = true then .error (lSt m rs at_ acc).at_ else .ok ((lSt m rs at_ acc).at_, stI (lSt m rs at_ acc).st)
  | [], at_, acc => rfl
  | z :: rs, at_, acc => by
    have hw := words_law z (dp := 1) (by decide)
    have lhs : stR m n (z :: rs) at_ (stI acc) = if rowWords z 1 = [] then .ok (at_, stI acc) else match rowSt m n (rowWords z 1) (stI acc) with
      | none => .error at_
      | some acc' => stR m n rs (at_ + 1) acc' := rfl
    have rhs : lSt m (z :: rs) at_ acc = match lWords z 1 with
      | none => ⟨acc, at_, [], false⟩
      | some ws => match lRow m ws with
        | none => ⟨acc, at_, [], true⟩
        | some q => if ∀ w ∈ q.2.1, (q.1, w) ∉ acc.map (·.1) then
            ⟨(lSt m rs (at_ + 1) (acc ++ q.2.1.map fun w => ((q.1, w), q.2.2))).st, (lSt m rs (at_ + 1) (acc ++ q.2.1.map fun w => ((q.1, w), q.2.2))).at_, (at_, q.2.2) :: (lSt m rs (at_ + 1) (acc ++ q.2.1.map fun w => ((q.1, w), q.2.2))).rows, (lSt m rs (at_ + 1) (acc ++ q.2.1.map fun w => ((q.1, w), q.2.2))).bad⟩
          else ⟨acc, at_, [], true⟩ := rfl
    rw [lhs]
    cases hl : lWords z 1 with
    | none =>
      have e1 : lSt m (z :: rs) at_ acc = ⟨acc, at_, [], false⟩ := by
        rw [rhs, hl]
      rw [hl] at hw
      have hw : rowWords z 1 = [] := hw
      rw [if_pos hw, e1]
      rfl
    | some ws =>
      rw [hl] at hw
      have hw : rowWords z 1 = ws := hw
      rw [hw, if_neg (words_ne hl), row_law hm hn ws (stI acc) (lWords_free hl), stI_keys]
      cases hr : lRow m ws with
      | none =>
        have e1 : lSt m (z :: rs) at_ acc = ⟨acc, at_, [], true⟩ := by
          rw [rhs, hl]
          dsimp only
          rw [hr]
        rw [e1]
        rfl
      | some q =>
        by_cases hk : ∀ w ∈ q.2.1, (q.1, w) ∉ acc.map (·.1)
        · have e1 : lSt m (z :: rs) at_ acc = ⟨(lSt m rs (at_ + 1) (acc ++ q.2.1.map fun w => ((q.1, w), q.2.2))).st, (lSt m rs (at_ + 1) (acc ++ q.2.1.map fun w => ((q.1, w), q.2.2))).at_, (at_, q.2.2) :: (lSt m rs (at_ + 1) (acc ++ q.2.1.map fun w => ((q.1, w), q.2.2))).rows, (lSt m rs (at_ + 1) (acc ++ q.2.1.map fun w => ((q.1, w), q.2.2))).bad⟩ := by
            rw [rhs, hl]
            dsimp only
            rw [hr]
            dsimp only
            rw [if_pos hk]
          rw [e1]
          have ih := st_law hm hn rs (at_ + 1) (acc ++ q.2.1.map fun w => ((q.1, w), q.2.2))
          have e : stI (acc ++ q.2.1.map fun w => ((q.1, w), q.2.2)) = stI acc ++ q.2.1.map fun w => ((q.1, w), lI q.2.2) := by
            unfold stI
            rw [List.map_append, List.map_map]
            rfl
          rw [e] at ih
          dsimp only
          have eg : gone n ((at_, q.2.2) :: (lSt m rs (at_ + 1) (acc ++ q.2.1.map fun w => ((q.1, w), q.2.2))).rows) = if inN n q.2.2 = true then gone n (lSt m rs (at_ + 1) (acc ++ q.2.1.map fun w => ((q.1, w), q.2.2))).rows else some at_ := rfl
          rw [eg]
          by_cases hi : inN n q.2.2 = true
          · rw [if_pos ⟨hi, hk⟩, if_pos hi]
            exact ih
          · rw [if_neg (fun h => hi h.1), if_neg hi]
        · have e1 : lSt m (z :: rs) at_ acc = ⟨acc, at_, [], true⟩ := by
            rw [rhs, hl]
            dsimp only
            rw [hr]
            dsimp only
            rw [if_neg hk]
          rw [e1]
          dsimp only
          rw [if_neg (fun h => hk h.2)]
          rfl
structure LP where
  sts : List StL
  wrong : Option Nat
  rows : List (Nat × LO)
/-- the states of a text, by the law -/
def lPart (m : Nat) (rows : List Str) : Nat → Nat → Nat → LP
  | 0, at_, _ => ⟨[], some at_, []⟩
  | f + 1, at_, k => if (rows[at_]?).bind (fun z => lWords z 0) = some ([("state" : Str), toString ((k : Nat) : Int)] : List Str) then
      let R := lSt m (rows.drop (at_ + 1)) (at_ + 1) []
      if R.bad = true then ⟨[R.st], some R.at_, R.rows⟩
      else if R.at_ < rows.length then
        let P := lPart m rows f R.at_ (k + 1)
        ⟨R.st :: P.sts, P.wrong, R.rows ++ P.rows⟩
      else ⟨[R.st], none, R.rows⟩
    else ⟨[], some at_, []⟩
def finR (rows : List Str) : Except Nat (Nat × List StA) → Except Nat (List StA)
  | .error e => .error e
  | .ok q => if q.1 = rows.length then .ok q.2 else .error q.1
theorem lSt_at {m : Nat} : ∀ (rs : List Str) (at_ : Nat) (acc : StL), at_ ≤ (lSt m rs at_ acc).at_ ∧ (lSt m rs at_ acc).at_ ≤ at_ + rs.length
  | [], at_, acc => ⟨Nat.le_refl _, Nat.le_refl _⟩
  | z :: rs, at_, acc => by
    unfold lSt
    split
    · exact ⟨Nat.le_refl _, Nat.le_add_right ..⟩
    · split
      · exact ⟨Nat.le_refl _, Nat.le_add_right ..⟩
      · rename_i q _
        split
        · have := lSt_at (m := m) rs (at_ + 1) (acc ++ q.2.1.map fun w => ((q.1, w), q.2.2))
          dsimp only
          rw [List.length_cons]
          omega
        · exact ⟨Nat.le_refl _, Nat.le_add_right ..⟩
end K5
namespace K5
open PySem PySem.Spec PyProof.Rows L2
/-! ### pacts: the law's reading is the package's -/
theorem head_law {rows : List Str} {at_ : Nat} {ws : List Str} (ne : ws ≠ []) : wordsAt rows at_ 0 = ws ↔ (rows[at_]?).bind (fun z => lWords z 0) = some ws := by
  have ew : wordsAt rows at_ 0 = match rows[at_]? with
    | some z => rowWords z 0
    | none => [] := by
    unfold wordsAt
    cases rows[at_]? <;> rfl
  rw [ew]
  cases rows[at_]? with
  | none => exact ⟨fun h => absurd h.symm ne, fun h => nomatch h⟩
  | some z =>
    dsimp only [Option.bind_some]
    rw [words_law z (dp := 0) (by decide)]
    cases lWords z 0 with
    | none => exact ⟨fun h => absurd h.symm ne, fun h => nomatch h⟩
    | some x => exact ⟨fun h => congrArg some h, fun h => Option.some.inj h⟩
def lRes (n : Nat) (acc : List StL) (P : LP) : Except Nat (List StA) := match gone n P.rows with
  | some k => .error k
  | none => match P.wrong with
    | some e => .error e
    | none => .ok ((acc ++ P.sts).map stI)
theorem part_law {m n : Nat} {rows : List Str} (hm : m ≤ 4) (hn : n ≤ 1000) (hr : rows.length < 400) : ∀ (f at_ : Nat) (acc : List StL), f + acc.length = 400 → acc.length ≤ at_ → at_ < rows.length →
    finR rows (pactGo m n rows f at_ (acc.map stI)) = lRes n acc (lPart m rows f at_ acc.length)
  | 0, at_, acc, h1, h2, h3 => by omega
  | f + 1, at_, acc, h1, h2, h3 => by
    have lhs : pactGo m n rows (f + 1) at_ (acc.map stI) = if wordsAt rows at_ 0 = ([("state" : Str), toString (((acc.map stI).length : Nat) : Int)] : List Str) then match stR m n (rows.drop (at_ + 1)) (at_ + 1) [] with
        | .error e => .error e
        | .ok q => pactGo m n rows f q.1 (acc.map stI ++ [q.2])
      else .ok (at_, acc.map stI) := rfl
    have rhs : lPart m rows (f + 1) at_ acc.length = if (rows[at_]?).bind (fun z => lWords z 0) = some ([("state" : Str), toString ((acc.length : Nat) : Int)] : List Str) then
        if (lSt m (rows.drop (at_ + 1)) (at_ + 1) []).bad = true then ⟨[(lSt m (rows.drop (at_ + 1)) (at_ + 1) []).st], some (lSt m (rows.drop (at_ + 1)) (at_ + 1) []).at_, (lSt m (rows.drop (at_ + 1)) (at_ + 1) []).rows⟩
        else if (lSt m (rows.drop (at_ + 1)) (at_ + 1) []).at_ < rows.length then
          ⟨(lSt m (rows.drop (at_ + 1)) (at_ + 1) []).st :: (lPart m rows f (lSt m (rows.drop (at_ + 1)) (at_ + 1) []).at_ (acc.length + 1)).sts, (lPart m rows f (lSt m (rows.drop (at_ + 1)) (at_ + 1) []).at_ (acc.length + 1)).wrong, (lSt m (rows.drop (at_ + 1)) (at_ + 1) []).rows ++ (lPart m rows f (lSt m (rows.drop (at_ + 1)) (at_ + 1) []).at_ (acc.length + 1)).rows⟩
        else ⟨[(lSt m (rows.drop (at_ + 1)) (at_ + 1) []).st], none, (lSt m (rows.drop (at_ + 1)) (at_ + 1) []).rows⟩
      else ⟨[], some at_, []⟩ := rfl
    rw [lhs, rhs, List.length_map]
    by_cases hw : wordsAt rows at_ 0 = ([("state" : Str), toString ((acc.length : Nat) : Int)] : List Str)
    · rw [if_pos hw, if_pos ((head_law (List.cons_ne_nil _ _)).mp hw)]
      have sl := st_law hm hn (rows.drop (at_ + 1)) (at_ + 1) []
      have sl : stR m n (rows.drop (at_ + 1)) (at_ + 1) [] = _ := sl
      rw [sl]
      have la := lSt_at (m := m) (rows.drop (at_ + 1)) (at_ + 1) []
      rw [List.length_drop] at la
      generalize lSt m (rows.drop (at_ + 1)) (at_ + 1) [] = R at la ⊢
      cases hg : gone n R.rows with
      | some k =>
        dsimp only
        unfold lRes
        by_cases hb : R.bad = true
        · rw [if_pos hb]
          dsimp only
          rw [hg]
          rfl
        · rw [if_neg hb]
          by_cases hl : R.at_ < rows.length
          · rw [if_pos hl]
            dsimp only
            rw [gone_app, hg]
            rfl
          · rw [if_neg hl]
            dsimp only
            rw [hg]
            rfl
      | none =>
        dsimp only
        by_cases hb : R.bad = true
        · rw [if_pos hb, if_pos hb]
          unfold lRes
          dsimp only
          rw [hg]
          rfl
        · rw [if_neg hb, if_neg hb]
          dsimp only
          have em : acc.map stI ++ [stI R.st] = (acc ++ [R.st]).map stI := by rw [List.map_append]; rfl
          rw [em]
          by_cases hl : R.at_ < rows.length
          · rw [if_pos hl]
            have ih := part_law hm hn hr f R.at_ (acc ++ [R.st]) (by rw [List.length_append]; show f + (acc.length + 1) = 400; omega) (by rw [List.length_append]; show acc.length + 1 ≤ _; omega) hl
            rw [ih, show (acc ++ [R.st]).length = acc.length + 1 by rw [List.length_append]; rfl]
            unfold lRes
            dsimp only
            rw [gone_app, hg]
            dsimp only
            rw [List.append_assoc]
            rfl
          · rw [if_neg hl]
            have ee : R.at_ = rows.length := by omega
            have eg : pactGo m n rows f R.at_ ((acc ++ [R.st]).map stI) = .ok (R.at_, (acc ++ [R.st]).map stI) := by
              cases f with
              | zero => rfl
              | succ f =>
                have en : wordsAt rows R.at_ 0 = [] := by
                  unfold wordsAt
                  rw [ee, List.getElem?_eq_none (Nat.le_refl _)]
                unfold pactGo
                rw [en, if_neg (fun h => nomatch h)]
            rw [eg]
            unfold lRes
            dsimp only
            rw [hg]
            unfold finR
            dsimp only
            rw [if_pos ee]
    · rw [if_neg hw, if_neg (fun h => hw ((head_law (List.cons_ne_nil _ _)).mpr h))]
      unfold finR
      dsimp only
      rw [if_neg (by omega)]
      rfl
theorem told_law : ∀ (rs : List Str) (k : Nat), k + rs.length < 400 → toldR rs k = lThere rs k
  | [], _, _ => rfl
  | z :: r, k, h => by
    rw [List.length_cons] at h
    show (if k < 400 ∧ z = stateRow k then toldR r (k + 1) else toldR r k) = lThere r (if z = stateRow k then k + 1 else k)
    by_cases e : z = stateRow k
    · rw [if_pos ⟨by omega, e⟩, if_pos e, told_law r (k + 1) (by omega)]
    · rw [if_neg (fun c => e c.2), if_neg e, told_law r k (by omega)]
theorem pact_law {m : Nat} {rows : List Str} (hm : m ≤ 4) (ne : rows ≠ []) (hr : rows.length < 400) : pactR m rows = lRes (lThere rows 0) [] (lPart m rows 400 0 0) := by
  have h0 : 0 < rows.length := List.length_pos_iff.mpr ne
  have e := part_law (n := toldR rows 0) hm (Nat.le_trans (toldR_le rows (Nat.zero_le _)) (by decide)) hr 400 0 [] rfl (Nat.le_refl _) h0
  rw [← told_law rows 0 (by omega)]
  have e2 : pactR m rows = finR rows (pactGo m (toldR rows 0) rows 400 0 []) := by
    unfold pactR finR
    cases pactGo m (toldR rows 0) rows 400 0 [] <;> rfl
  rw [e2]
  exact e
end K5
namespace K5
open PySem PySem.Spec PyProof.Rows L2
/-! ### lists of texts that are built (as in k85) -/
def LsAt (H : Hp) (p : Addr) (ws : List Str) : Prop := H p = some (.lst (ws.map V.str))
/-- the list of texts ws is made, in whatever heap holds what H holds -/
def LV (te : TE) (σ : L2.St) (H : Hp) (ws : List Str) : Prop := ∀ (H1 : Hp) (Q : VK), Same H H1 → (∀ (H' : Hp) (p : Addr), Same H1 H' → LsAt H' p ws → Q (.ref p) H') → te σ H1 Q
/-- the text z, likewise -/
def SV (te : TE) (σ : L2.St) (H : Hp) (z : Str) : Prop := ∀ (H1 : Hp), Same H H1 → Val te σ H1 (.str z)
section
variable {K : PySem.W.Frag} {σ : L2.St} {H : Hp} {ta tb : TE} {ws us : List Str} {z y : Str} {p : Addr} {j : Nat}
theorem SV.c : SV (tC (.str z)) σ H z := fun H1 _ => val_c
theorem SV.v (h : σ[j]? = some (some (.str z))) : SV (tVar j) σ H z := fun H1 _ => val_var h
def rAddS : R2 := fun x y H Q => ∃ i j, x = .str i ∧ y = .str j ∧ i.length + j.length ≤ sizeLine ∧ Q (.str (i ++ j)) H
theorem SV.add (ha : SV ta σ H z) (hb : SV tb σ H y) (hz : z.length + y.length ≤ 10000000) : SV (tOp rAddS ta tb) σ H (z ++ y) := fun H1 s => val_op (ha H1 s) (hb H1 s) fun Q q => ⟨z, y, rfl, rfl, big_size hz, q⟩
theorem LV.v (h : σ[j]? = some (some (.ref p))) (hp : LsAt H p ws) : LV (tVar j) σ H ws := fun H1 Q s q => (val_var h) _ (q H1 p (Same.refl _) (s _ _ hp))
theorem LV.cat (ha : LV ta σ H ws) (hb : LV tb σ H us) (hz : ws.length + us.length ≤ 1000) : LV (tOp rCat ta tb) σ H (ws ++ us) := fun H1 Q s q => ha H1 _ s fun H2 p1 s2 h1 => hb H2 _ (s.trans s2) fun H3 p2 s3 h2 => by
  refine ⟨p1, p2, ws.map V.str, us.map V.str, rfl, rfl, s3 _ _ h1, h2, by rw [List.length_map, List.length_map]; exact Nat.le_trans hz (by decide), fun p np => q _ p ((s2.trans s3).trans (same_upd np)) ?_⟩
  unfold LsAt
  rw [upd_same, List.map_append]
theorem LV.rep {k : Nat} (ha : LV ta σ H ws) (hk : k ≤ 100) (hz : ws.length ≤ 100) : LV (tOp rRep ta (tC (.int k))) σ H (List.replicate k ws).flatten := fun H1 Q s q => ha H1 _ s fun H2 p1 s2 h1 => by
  refine ⟨p1, k, ws.map V.str, rfl, rfl, h1, by omega, by omega, ?_, fun p np => q _ p (s2.trans (same_upd np)) ?_⟩
  · rw [List.length_map, Int.toNat_natCast]
    exact Nat.le_trans (Nat.mul_le_mul hz hk) (by decide)
  · unfold LsAt
    rw [upd_same, List.map_flatten, List.map_replicate, Int.toNat_natCast]
def OV (t : TO) (σ : L2.St) (o : Option Int) : Prop := ∀ (H : Hp) (Q : Option Int → Hp → Prop), Q o H → t σ H Q
theorem OV.no : OV tNoPart σ none := fun _ _ q => q
theorem OV.yes {te : TE} {i : Int} (h : ∀ H : Hp, Val te σ H (.int i)) : OV (tPart te) σ (some i) := fun H Q q => (h H) _ ⟨i, rfl, q⟩
def cutL {α : Type} (xs : List α) (lo hi : Option Int) : List α := (xs.drop (HT.sIx xs.length 0 lo)).take (HT.sIx xs.length xs.length hi - HT.sIx xs.length 0 lo)
theorem cutV_map (lo hi : Option Int) : cutV (ws.map V.str) lo hi = (cutL ws lo hi).map V.str := by
  unfold cutV cutL
  rw [List.length_map, List.map_take, List.map_drop]
theorem LV.cut {lo hi : Option Int} {tl th : TO} (ha : LV ta σ H ws) (hl : OV tl σ lo) (hh : OV th σ hi) : LV (tSl (rSlL K) ta tl th) σ H (cutL ws lo hi) := fun H1 Q s q => ha H1 _ s fun H2 p1 s2 h1 => hl _ _ (hh _ _ ⟨p1, _, rfl, SqL.of h1, fun p np => q _ p (s2.trans (same_upd np)) (by
  unfold LsAt
  rw [upd_same, cutV_map])⟩)
theorem LV.nil : LV (tLst tNil) σ H [] := fun H1 Q _ q => ⟨Nat.zero_le _, fun p np => q _ p (same_upd np) upd_same⟩
theorem LV.one (ha : SV ta σ H z) : LV (tLst (tCons ta tNil)) σ H [z] := fun H1 Q s q => (ha H1 s) _ ⟨by show 1 ≤ sizeLine; decide, fun p np => q _ p (same_upd np) upd_same⟩
theorem LV.two (ha : SV ta σ H z) (hb : SV tb σ H y) : LV (tLst (tCons ta (tCons tb tNil))) σ H [z, y] := fun H1 Q s q => (ha H1 s) _ ((hb H1 s) _ ⟨by show 2 ≤ sizeLine; decide, fun p np => q _ p (same_upd np) upd_same⟩)
end
theorem app_len' (x y : Str) : (x ++ y).length = x.length + y.length := len_app x y
theorem app_assoc3 (x y z : Str) : x ++ y ++ z = x ++ (y ++ z) := by
  refine str_eq ?_
  rw [cps_append, cps_append, cps_append, cps_append, List.append_assoc]
theorem join2 (c x z : Str) (r : List Str) : Str.join c (x :: z :: r) = x ++ (c ++ Str.join c (z :: r)) := by
  show x ++ c ++ Str.join c (z :: r) = _
  rw [app_assoc3]
theorem jn_txt (a : Str) (ys : List Str) : Txt.join a ys = Str.join a ys := TL.join_eq a ys
/-! ### how much text stands in rows -/
def Wt (xs : List Str) : Nat := (xs.map fun z => z.length + 1).sum
theorem Wt_cons (z : Str) (r : List Str) : Wt (z :: r) = z.length + 1 + Wt r := by
  unfold Wt
  rw [List.map_cons, List.sum_cons]
theorem Wt_nil : Wt [] = 0 := rfl
theorem Wt_app : ∀ a b : List Str, Wt (a ++ b) = Wt a + Wt b
  | [], b => (Nat.zero_add _).symm
  | z :: a, b => by rw [List.cons_append, Wt_cons, Wt_cons, Wt_app a b]; omega
theorem Wt_join {c : Str} (hc : c.length = 1) : ∀ {ps : List Str}, ps ≠ [] → (Str.join c ps).length + 1 = Wt ps
  | [], h => absurd rfl h
  | [x], _ => by
    rw [Wt_cons, Wt_nil]
    rfl
  | x :: y :: r, _ => by
    have ih := Wt_join hc (ps := y :: r) (fun z => nomatch z)
    rw [join2, app_len', app_len', hc, Wt_cons]
    omega
theorem Wt_join_le {c : Str} (hc : c.length = 1) (ps : List Str) : (Str.join c ps).length ≤ Wt ps := by
  cases ps with
  | nil => exact Nat.le_refl _
  | cons x r =>
    have := Wt_join hc (ps := x :: r) (fun z => nomatch z)
    omega
theorem nl1 : ("\n" : Str).length = 1 := by decide +kernel
theorem sp1 : (" " : Str).length = 1 := by decide +kernel
theorem nlC : ("\n" : Str) = ⟨#[10]⟩ := by decide +kernel
theorem Wt_rows (z : Str) : Wt (rowsOf z) = z.length + 1 := by
  have ne : rowsOf z ≠ [] := by
    unfold rowsOf
    rw [nlC]
    exact split_ne _ _
  have := Wt_join nl1 ne
  unfold rowsOf at this ⊢
  rw [StrLaws.join_split] at this
  exact this.symm
theorem Wt_blank (z : Str) : Wt (Txt.split z " ") = z.length + 1 := by
  have ne : Txt.split z " " ≠ [] := by
    rw [space']
    exact split_ne _ _
  have := Wt_join sp1 ne
  rw [StrLaws.join_split] at this
  exact this.symm
theorem Wt_cut (k : Nat) (xs : List Str) : Wt (xs.take k) + Wt (xs.drop k) = Wt xs := by
  rw [← Wt_app, List.take_append_drop]
theorem Wt_mem {y : Str} : ∀ {xs : List Str}, y ∈ xs → y.length + 1 ≤ Wt xs
  | x :: r, h => by
    rw [Wt_cons]
    rcases List.mem_cons.mp h with rfl | h
    · omega
    · have := Wt_mem h
      omega
theorem Wt_len : ∀ xs : List Str, xs.length ≤ Wt xs
  | [] => Nat.le_refl _
  | x :: r => by
    have := Wt_len r
    rw [Wt_cons, List.length_cons]
    omega
theorem sum_Wt : ∀ xs : List Str, (xs.map (·.length)).sum + xs.length = Wt xs
  | [] => rfl
  | x :: r => by
    have := sum_Wt r
    rw [Wt_cons, List.map_cons, List.sum_cons, List.length_cons]
    omega
theorem Wt_rep (xs : List Str) : ∀ k : Nat, Wt (List.replicate k xs).flatten = k * Wt xs
  | 0 => by
    rw [Nat.zero_mul]
    rfl
  | k + 1 => by
    rw [List.replicate_succ, List.flatten_cons, Wt_app, Wt_rep xs k, Nat.succ_mul]
    omega
def OkA (xs : List Str) : Prop := ∀ z ∈ xs, PyData.strOk z = true
theorem ok_add {x y : Str} (hx : PyData.strOk x = true) (hy : PyData.strOk y = true) : PyData.strOk (x ++ y) = true := by
  unfold PyData.strOk at hx hy ⊢
  rw [Array.all_eq_true'] at hx hy ⊢
  intro c hc
  have h1 : c ∈ (x ++ y).cps.toList := Array.mem_toList_iff.mpr hc
  rw [cps_append] at h1
  rcases List.mem_append.mp h1 with h | h
  · exact hx c (Array.mem_toList_iff.mp h)
  · exact hy c (Array.mem_toList_iff.mp h)
theorem ok_join {c : Str} (hc : PyData.strOk c = true) : ∀ {ps : List Str}, OkA ps → PyData.strOk (Str.join c ps) = true
  | [], _ => by
    show PyData.strOk "" = true
    decide +kernel
  | [x], h => h x (List.mem_cons_self ..)
  | x :: y :: r, h => by
    rw [join2]
    exact ok_add (h x (List.mem_cons_self ..)) (ok_add hc (ok_join hc (ps := y :: r) fun z hz => h z (List.mem_cons_of_mem _ hz)))
theorem OkA.app {a b : List Str} (ha : OkA a) (hb : OkA b) : OkA (a ++ b) := fun z hz => by
  rcases List.mem_append.mp hz with h | h
  · exact ha z h
  · exact hb z h
theorem OkA.take {a : List Str} (k : Nat) (ha : OkA a) : OkA (a.take k) := fun z hz => ha z (List.mem_of_mem_take hz)
theorem OkA.drop {a : List Str} (k : Nat) (ha : OkA a) : OkA (a.drop k) := fun z hz => ha z (List.mem_of_mem_drop hz)
theorem OkA.rep {a : List Str} (k : Nat) (ha : OkA a) : OkA (List.replicate k a).flatten := fun z hz => by
  obtain ⟨l, hl, hz⟩ := List.mem_flatten.mp hz
  rw [(List.mem_replicate.mp hl).2] at hz
  exact ha z hz
theorem OkA.split {z y : Str} (h : PyData.strOk z = true) : OkA (Txt.split z y) := fun p hp => split_ok hp h
theorem strip_ok {z y : Str} (h : PyData.strOk z = true) : PyData.strOk (Txt.lstripChars z y) = true := by
  obtain ⟨i, hi, e⟩ := PyProof.Rows.stripBy_left y.cps.contains z
  unfold Txt.lstripChars
  rw [e]
  unfold PyData.strOk at h ⊢
  rw [Array.all_eq_true'] at h ⊢
  intro c hc
  refine h c ?_
  have h1 : c ∈ (z.cps.extract i z.length) := hc
  rw [Array.mem_extract_iff_getElem] at h1
  obtain ⟨k, hk, e⟩ := h1
  rw [← e]
  exact Array.getElem_mem _
/-! ### lists of texts, of any size -/
section
variable {K : PySem.W.Frag} {σ : L2.St} {H : Hp} {ta tb : TE} {ws us : List Str} {z y : Str} {p : Addr} {j : Nat}
theorem LV.catB (ha : LV ta σ H ws) (hb : LV tb σ H us) (hz : ws.length + us.length ≤ 10000000) : LV (tOp rCat ta tb) σ H (ws ++ us) := fun H1 Q s q => ha H1 _ s fun H2 p1 s2 h1 => hb H2 _ (s.trans s2) fun H3 p2 s3 h2 => by
  refine ⟨p1, p2, ws.map V.str, us.map V.str, rfl, rfl, s3 _ _ h1, h2, by rw [List.length_map, List.length_map]; exact big_size hz, fun p np => q _ p ((s2.trans s3).trans (same_upd np)) ?_⟩
  unfold LsAt
  rw [upd_same, List.map_append]
theorem LV.repB {k : Nat} (ha : LV ta σ H ws) (hk : k ≤ 100) (hz : ws.length * k ≤ 10000000) (hb : ∀ H : Hp, Val tb σ H (.int k)) : LV (tOp rRep ta tb) σ H (List.replicate k ws).flatten := fun H1 Q s q => ha H1 _ s fun H2 p1 s2 h1 => (hb H2) _ (by
  refine ⟨p1, k, ws.map V.str, rfl, rfl, h1, by omega, by omega, ?_, fun p np => q _ p (s2.trans (same_upd np)) ?_⟩
  · rw [List.length_map, Int.toNat_natCast]
    exact big_size hz
  · unfold LsAt
    rw [upd_same, List.map_flatten, List.map_replicate, Int.toNat_natCast])
/-- written texts -/
def AL (t : TA) (σ : L2.St) (ws : List Str) : Prop := ∀ (H : Hp) (Q : List V → Hp → Prop), Q (ws.map V.str) H → t σ H Q
theorem AL.nil : AL tNil σ [] := fun _ _ q => q
theorem AL.c {t : TA} (h : AL t σ ws) : AL (tCons (tC (.str z)) t) σ (z :: ws) := fun H Q q => val_c _ (h H _ q)
theorem LV.lst {t : TA} (h : AL t σ ws) (few : ws.length ≤ 100) : LV (tLst t) σ H ws := fun H1 Q _ q => h H1 _ ⟨by rw [List.length_map]; exact Nat.le_trans few (by decide), fun p np => q _ p (same_upd np) upd_same⟩
theorem cutL_to {α : Type} (xs : List α) (k : Nat) : cutL xs none (some (k : Int)) = xs.take k := by
  unfold cutL
  rw [HT.sIx_none, HT.sIx_nat, List.drop_zero, Nat.sub_zero]
  exact List.take_eq_take_min.symm
theorem cutL_from {α : Type} (xs : List α) (k : Nat) : cutL xs (some (k : Int)) none = xs.drop k := by
  unfold cutL
  rw [HT.sIx_none, HT.sIx_nat]
  by_cases h : k ≤ xs.length
  · rw [Nat.min_eq_left h, List.take_of_length_le (by rw [List.length_drop]; exact Nat.le_refl _)]
  · rw [Nat.min_eq_right (by omega), Nat.sub_self, List.take_zero, List.drop_eq_nil_of_le (by omega)]
theorem cutL_mid {α : Type} (xs : List α) (a b : Nat) (ha : a ≤ xs.length) : cutL xs (some (a : Int)) (some (b : Int)) = (xs.drop a).take (b - a) := by
  unfold cutL
  rw [HT.sIx_nat, HT.sIx_nat, Nat.min_eq_left ha]
  by_cases h : b ≤ xs.length
  · rw [Nat.min_eq_left h]
  · rw [Nat.min_eq_right (by omega), List.take_of_length_le (by rw [List.length_drop]; exact Nat.le_refl _), List.take_of_length_le (by rw [List.length_drop]; omega)]
theorem LV.to {k : Nat} (ha : LV ta σ H ws) (hb : ∀ H : Hp, Val tb σ H (.int k)) : LV (tSl (rSlL K) ta tNoPart (tPart tb)) σ H (ws.take k) := by
  rw [← cutL_to]
  exact LV.cut ha OV.no (OV.yes hb)
theorem LV.from {k : Nat} (ha : LV ta σ H ws) (hb : ∀ H : Hp, Val tb σ H (.int k)) : LV (tSl (rSlL K) ta (tPart tb) tNoPart) σ H (ws.drop k) := by
  rw [← cutL_from]
  exact LV.cut ha (OV.yes hb) OV.no
theorem LV.mid {a b : Nat} {tc : TE} (ha : LV ta σ H ws) (h1 : ∀ H : Hp, Val tb σ H (.int a)) (h2 : ∀ H : Hp, Val tc σ H (.int b)) (hl : a ≤ ws.length) : LV (tSl (rSlL K) ta (tPart tb) (tPart tc)) σ H ((ws.drop a).take (b - a)) := by
  rw [← cutL_mid ws a b hl]
  exact LV.cut ha (OV.yes h1) (OV.yes h2)
/-- c.join(a list that is made) -/
theorem join_run {c : Str} {Q : VK} (hl : LV ta σ H ws) (hc : c.length = 1) (few : Wt ws ≤ 10000000) (q : ∀ H', Same H H' → Q (.str (Str.join c ws)) H') : tBM K "str" (fun x xs H Q => ∃ a p, ∃ ys : List Str, x = .str a ∧ xs = [.ref p] ∧ (SqL K H p (ys.map V.str) ∨ SqT K H p (ys.map V.str)) ∧ (ys.map (·.length)).sum + ys.length * a.length ≤ 16777216 ∧ Q (.str (Txt.join a ys)) H) (tC (.str c)) (tCons ta tNil) σ H Q := by
  refine bm_run (x := .str c) val_c rfl ?_
  try dsimp only [tCons, tNil]
  refine hl H _ (Same.refl _) fun H1 p s1 hp => ⟨c, p, ws, rfl, rfl, .inl (SqL.of hp), ?_, ?_⟩
  · have := sum_Wt ws
    rw [hc, Nat.mul_one]
    omega
  · rw [jn_txt]
    exact q _ s1
end
theorem seq_lv {te : TE} {u : TS} {D : Ends} {σ : L2.St} {H : Hp} {ws : List Str} {i : Nat} (h : LV te σ H ws) (k : ∀ H' p, Same H H' → LsAt H' p ws → u D (σ.set i (some (.ref p))) H') : tSeq (tAsg te (gName i)) u D σ H :=
  h H _ (Same.refl _) fun H' p s hp => k H' p s hp
theorem Wt_drop (k : Nat) (xs : List Str) : Wt (xs.drop (k + 1)) ≤ Wt (xs.drop k) := by
  have := Wt_cut 1 (xs.drop k)
  rw [List.drop_drop] at this
  omega
theorem ls_ne {H : Hp} {a b : Addr} {ws : List Str} {p q n : Int} (hb : H b = some (.lst (bx p q n))) (h : LsAt H a ws) : a ≠ b := fun e => by
  unfold LsAt at h
  rw [e, hb] at h
  injection h with h
  injection h with h
  cases ws with
  | nil => cases h
  | cons z r => cases h
theorem Wt_set {y : Str} : ∀ {xs : List Str} {k : Nat} (h : k < xs.length), Wt (xs.set k y) + (xs[k].length + 1) = Wt xs + (y.length + 1)
  | x :: r, 0, _ => by
    show Wt (y :: r) + (x.length + 1) = _
    rw [Wt_cons, Wt_cons]
    omega
  | x :: r, k + 1, h => by
    have ih := Wt_set (y := y) (xs := r) (k := k) (Nat.lt_of_succ_lt_succ h)
    show Wt (x :: r.set k y) + ((r[k]'(Nat.lt_of_succ_lt_succ h)).length + 1) = _
    rw [Wt_cons, Wt_cons]
    omega
theorem OkA.set {y : Str} {xs : List Str} {k : Nat} (h : OkA xs) (hy : PyData.strOk y = true) : OkA (xs.set k y) := fun z hz => by
  rcases List.mem_or_eq_of_mem_set hz with q | q
  · exact h z q
  · rw [q]
    exact hy
theorem ixN_nat {n k : Nat} (h : k < n) : ixN n (k : Int) = some k := by
  unfold ixN
  rw [if_pos (by omega), if_pos (by omega), Int.toNat_natCast]
theorem val_cutH {σ : L2.St} {H : Hp} {ta tb : TE} {z : Str} {n : Int} (ha : Val ta σ H (.str z)) (hb : Val tb σ H (.int n)) (hz : z.length ≤ sizeLine) : Val (tSl rSlS ta tNoPart (tPart tb)) σ H (.str (cutS z none (some n))) := fun Q q =>
  ha _ (hb _ ⟨n, rfl, z, rfl, hz, q⟩)
theorem asg_seq {te : TE} {u : TS} {D : Ends} {σ : L2.St} {H : Hp} {i : Nat} (h : te σ H fun x H' => u D (σ.set i (some x)) H') : tSeq (tAsg te (gName i)) u D σ H := h
theorem asg_end {te : TE} {D : Ends} {σ : L2.St} {H : Hp} {i : Nat} (h : te σ H fun x H' => D.nx (σ.set i (some x)) H') : tAsg te (gName i) D σ H := h
end K5
namespace K5
open PySem PySem.Spec PyProof.Rows L2
/-! ### short texts of one line -/
structure Tz (n : Nat) (z : Str) : Prop where
  l : z.length ≤ n
  o : PyData.strOk z = true
  f : 10 ∉ z.cps.toList
theorem Tz.mono {n m : Nat} {z : Str} (h : Tz n z) (le : n ≤ m) : Tz m z := ⟨Nat.le_trans h.l le, h.o, h.f⟩
theorem Tz.add {n m : Nat} {x y : Str} (hx : Tz n x) (hy : Tz m y) : Tz (n + m) (x ++ y) := ⟨by
  rw [app_len']
  exact Nat.add_le_add hx.l hy.l, ok_add hx.o hy.o, fun c => by
  rw [cps_append] at c
  rcases List.mem_append.mp c with c | c
  · exact hx.f c
  · exact hy.f c⟩
theorem Tz.join {n m : Nat} {c : Str} (hc : Tz m c) : ∀ {ps : List Str}, (∀ z ∈ ps, Tz n z) → Tz (ps.length * (n + m)) (Str.join c ps)
  | [], _ => ⟨Nat.zero_le _, by show PyData.strOk "" = true; decide +kernel, fun h => nomatch h⟩
  | [x], h => by
    refine (h x (List.mem_cons_self ..)).mono ?_
    show n ≤ 1 * (n + m)
    omega
  | x :: y :: r, h => by
    rw [join2]
    refine ((h x (List.mem_cons_self ..)).add (hc.add (Tz.join hc (ps := y :: r) fun z hz => h z (List.mem_cons_of_mem _ hz)))).mono ?_
    rw [List.length_cons (a := x), Nat.succ_mul]
    omega
theorem tz_of {n : Nat} {z : Str} (h : (decide (z.length ≤ n) && (PyData.strOk z && !(z.cps.toList.contains 10))) = true) : Tz n z := by
  rw [Bool.and_eq_true, Bool.and_eq_true] at h
  exact ⟨of_decide_eq_true h.1, h.2.1, fun c => by
    have := h.2.2
    rw [List.contains_iff_mem.mpr c] at this
    cases this⟩
theorem tz_nums : ∀ i : Fin 4, Tz 1 (toString ((i.val : Nat) : Int) : Str) := fun i => tz_of (by revert i; decide +kernel)
theorem tz_num {i : Int} (h0 : 0 ≤ i) (h1 : i < 4) : Tz 1 (toString i : Str) := by
  have := tz_nums ⟨i.toNat, by omega⟩
  rw [show ((i.toNat : Nat) : Int) = i by omega] at this
  exact this
theorem tz_ans {i : Int} (h0 : -2 ≤ i) (h1 : i < 4) : Tz 4 (ansW i) := by
  unfold ansW
  by_cases c1 : i = -1
  · rw [if_pos c1]
    exact tz_of (by decide +kernel)
  · rw [if_neg c1]
    by_cases c2 : i = -2
    · rw [if_pos c2]
      exact tz_of (by decide +kernel)
    · rw [if_neg c2]
      exact (tz_num (by omega) h1).mono (by decide)
theorem tz_pool : ∀ z ∈ poolD, Tz 8 z := fun z h => tz_of (by
  have : ∀ z ∈ poolD, (decide (z.length ≤ 8) && (PyData.strOk z && !(z.cps.toList.contains 10))) = true := by decide +kernel
  exact this z h)
/-- the text of a page: how long, how many rows -/
structure Pg (L R : Nat) (z : Str) : Prop where
  l : z.length ≤ L
  o : PyData.strOk z = true
  r : (rowsOf z).length ≤ R
theorem Pg.mono {L L' R R' : Nat} {z : Str} (h : Pg L R z) (hl : L ≤ L') (hr : R ≤ R') : Pg L' R' z := ⟨Nat.le_trans h.l hl, h.o, Nat.le_trans h.r hr⟩
def lns (z : Str) : Nat := z.cps.toList.count 10
theorem lns_app (x y : Str) : lns (x ++ y) = lns x + lns y := by
  unfold lns
  rw [cps_append, List.count_append]
theorem lns_free {z : Str} (h : 10 ∉ z.cps.toList) : lns z = 0 := List.count_eq_zero.mpr h
theorem lns_join : ∀ {ps : List Str}, (∀ z ∈ ps, 10 ∉ z.cps.toList) → lns (Str.join "\n" ps) = ps.length - 1
  | [], _ => rfl
  | [x], h => lns_free (h x (List.mem_cons_self ..))
  | x :: y :: r, h => by
    rw [join2, lns_app, lns_app, lns_free (h x (List.mem_cons_self ..)), lns_join (ps := y :: r) fun z hz => h z (List.mem_cons_of_mem _ hz)]
    have : lns ("\n" : Str) = 1 := by decide +kernel
    rw [this]
    simp only [List.length_cons]
    omega
theorem rows_free (z : Str) : ∀ p ∈ rowsOf z, 10 ∉ p.cps.toList := by
  unfold rowsOf
  rw [nlC]
  exact StrLaws.split_free _ 10
theorem rows_ne (z : Str) : rowsOf z ≠ [] := by
  unfold rowsOf
  rw [nlC]
  exact split_ne _ _
theorem rows_lns (z : Str) : (rowsOf z).length = lns z + 1 := by
  have h := lns_join (rows_free z)
  have e : Str.join "\n" (rowsOf z) = z := by
    unfold rowsOf
    rw [StrLaws.join_split]
  rw [e] at h
  have := List.length_pos_iff.mpr (rows_ne z)
  omega
/-- a joined page -/
theorem pg_join {L R : Nat} {ps : List Str} (R1 : 1 ≤ R) (l : Wt ps ≤ L) (o : OkA ps) (f : ∀ z ∈ ps, 10 ∉ z.cps.toList) (r : ps.length ≤ R) : Pg L R (Str.join "\n" ps) := ⟨Nat.le_trans (Wt_join_le nl1 ps) l, ok_join (by decide +kernel) o, by
  rw [rows_lns, lns_join f]
  omega⟩
theorem lns_cut {z : Str} {lo hi : Option Int} : lns (cutS z lo hi) ≤ lns z := by
  unfold lns cutS
  exact List.Sublist.count_le _ (List.Sublist.trans (List.take_sublist ..) (List.drop_sublist ..))
end K5
namespace K5
open PySem PySem.Spec PyProof.Rows L2
/-! ### the text of a drawn pact -/
def spPText : Sp := fun vs H Q _ => ∃ (r : Addr) (ps : List Addr) (sts : List (List RwD)), vs = [.ref r] ∧ H r = some (.tup (ps.map V.ref)) ∧ Paired (StD H) ps sts ∧ (∀ s ∈ sts, s.length ≤ 12 ∧ ∀ w ∈ s, RowOk w) ∧ sts.length ≤ 4 ∧ 0 < sts.length ∧
  ∀ (H' : Hp) (z : Str), Same H H' → Pg 3160 52 z → Q (.str z) H'
abbrev s__law_pact_text : Stmt := topS 31
abbrev nmPT : List Str := ["_law_pact_here", "_law_lines", "_law_number_here", "_law_state", "_law_its_door", "_law_its_worth", "_law_outcomes", "_law_some_here", "_law_told_here", "_law_one", "_law_answer", "_law_later"]
theorem sc__law_pact_text : FnScope nmPT ["_law_pact_here"] (defScope s__law_pact_text) := ⟨rfl, rfl, rfl, by decide +kernel, rfl, by decide +kernel, by decide +kernel⟩
theorem paired_at {α β : Type} {R : α → β → Prop} : ∀ {l : List α} {m : List β} (i : Nat) {a : α}, Paired R l m → l[i]? = some a → ∃ b, m[i]? = some b ∧ R a b
  | _, _, _, _, .nil, h => by cases h
  | _, _, 0, _, .cons (b := b) x r, h => ⟨b, rfl, by
    injection h with h
    exact h ▸ x⟩
  | _, _, i + 1, _, .cons x r, h => paired_at i r h
theorem paired_rev {α β : Type} {R : α → β → Prop} : ∀ {l : List α} {m : List β}, Paired R l m → Paired R l.reverse m.reverse
  | _, _, .nil => .nil
  | _, _, .cons x r => by
    rw [List.reverse_cons, List.reverse_cons]
    exact paired_app (paired_rev r) x
section
variable {K : PySem.W.Frag}
/-- [x for x in t if test(x[0])] -/
theorem filt_lc {te : TE} {tt : TT} {p : Int → Bool} {ts : List Addr} {os : List (Int × Int)} {o : Addr} {u0 u1 u2 u3 u4 u5 u6 u7 u8 u9 u10 u11 : Option V} {H : Hp} {Q : VK} (hv : Val te [u0, u1, u2, u3, u4, u5, u6, u7, u8, u9, u10, u11] H (.ref o)) (ho : H o = some (.tup (ts.map V.ref))) (a : OsAt H ts os) (few : os.length ≤ 6)
    (ht : ∀ (t : Addr) (q : Int × Int) (H' : Hp) (R : Bool → Hp → Prop), H' t = some (.tup [.int q.1, .int q.2]) → R (p q.1) H' → tt [u0, u1, u2, u3, u4, u5, u6, u7, u8, some (.ref t), u10, u11] H' R)
    (k : ∀ (H' : Hp) (D : Addr) (us : List Addr), Same H H' → H' D = some (.lst (us.map V.ref)) → OsAt H' us (os.filter fun q => p q.1) → Q (.ref D) H') :
    tLc (iTup K te) (gName 9) tt (tVar 9) [9] [u0, u1, u2, u3, u4, u5, u6, u7, u8, u9, u10, u11] H Q := by
  dsimp only [tLc, iTup]
  refine hv _ ⟨o, rfl, ⟨_, SqT.of ho⟩, fun D nD => ?_⟩
  refine lc_tup (xs := ts.map V.ref) (fun j H2 => ∃ us : List Addr, Same H H2 ∧ H2 D = some (.lst (us.map V.ref)) ∧ OsAt H2 us ((os.take j).filter fun q => p q.1)) ⟨[], same_upd nD, upd_same, .nil⟩ (fun j H2 _ ⟨us, s2, _⟩ => SqT.of (s2 _ _ ho)) (fun j x H2 hj hI => ?_) fun H2 hI => ?_
  · obtain ⟨us, s2, hD, au⟩ := hI
    obtain ⟨t, et, rfl⟩ : ∃ t, ts[j]? = some t ∧ x = .ref t := by
      rw [List.getElem?_map] at hj
      cases e : ts[j]? with
      | none => rw [e] at hj; cases hj
      | some i => rw [e] at hj; exact ⟨i, rfl, (Option.some.inj hj).symm⟩
    obtain ⟨q, eq, hq⟩ := paired_at j a et
    have ul : us.length ≤ j := by
      rw [au.len]
      refine Nat.le_trans (List.length_filter_le _ _) ?_
      rw [List.length_take]
      omega
    have jlt := (List.getElem?_eq_some_iff.mp eq).1
    refine ⟨rfl, ?_⟩
    refine ht t q H2 _ (s2 _ _ hq) ?_
    have tk : os.take (j + 1) = os.take j ++ [q] := by
      rw [List.take_add_one, eq]
      rfl
    cases c : p q.1 with
    | false =>
      rw [if_neg (by decide)]
      refine ⟨us, s2, hD, ?_⟩
      rw [tk, List.filter_append]
      have : ([q].filter fun q => p q.1) = [] := by simp [c]
      rw [this, List.append_nil]
      exact au
    | true =>
      rw [if_pos rfl]
      refine (val_var rfl) _ ⟨us.map V.ref, hD, by rw [List.length_map]; exact Nat.lt_of_le_of_lt ul (Nat.lt_trans (show j < 7 by omega) (by decide)), us ++ [t], fun b o' e => ?_, ?_, ?_⟩
      · rw [upd_ne (ne_of_none e nD)]
        exact s2 _ _ e
      · rw [List.map_append]
        exact upd_same
      · rw [tk, List.filter_append]
        have : ([q].filter fun q => p q.1) = [q] := by simp [c]
        rw [this]
        have sB := SameBut.upd D H2 (.lst (us.map V.ref ++ [V.ref t]))
        refine OsAt.app (au.but sB hD) (sB _ _ (fun e => ?_) (s2 _ _ hq))
        rw [e] at hq
        rw [hq] at nD
        cases nD
  · obtain ⟨us, s2, hD, au⟩ := hI
    rw [List.length_map, a.len, List.take_length] at au
    exact k H2 D us s2 hD au

/-- [x for x in t[::-1] if test(x[0])] -/
theorem rev_lc {tt : TT} {p : Int → Bool} {ts : List Addr} {os : List (Int × Int)} {o : Addr} {u0 u1 u2 u3 u4 u5 u6 u7 u8 u9 u10 u11 : Option V} {H : Hp} {Q : VK} (hv : Val (tVar 6) [u0, u1, u2, u3, u4, u5, u6, u7, u8, u9, u10, u11] H (.ref o)) (ho : H o = some (.tup (ts.map V.ref))) (a : OsAt H ts os) (few : os.length ≤ 6)
    (ht : ∀ (t : Addr) (q : Int × Int) (H' : Hp) (R : Bool → Hp → Prop), H' t = some (.tup [.int q.1, .int q.2]) → R (p q.1) H' → tt [u0, u1, u2, u3, u4, u5, u6, u7, u8, some (.ref t), u10, u11] H' R)
    (k : ∀ (H' : Hp) (D : Addr) (us : List Addr), Same H H' → H' D = some (.lst (us.map V.ref)) → OsAt H' us (os.reverse.filter fun q => p q.1) → Q (.ref D) H') :
    tLc (iTup K (tRevT K (tVar 6))) (gName 9) tt (tVar 9) [9] [u0, u1, u2, u3, u4, u5, u6, u7, u8, u9, u10, u11] H Q := by
  have hr : ∀ (v : Addr) (H1 : Hp) (Q : VK), Same H H1 → H1 v = some (.tup (ts.reverse.map V.ref)) → (∀ (H' : Hp) (D : Addr) (us : List Addr), Same H1 H' → H' D = some (.lst (us.map V.ref)) → OsAt H' us (os.reverse.filter fun q => p q.1) → Q (.ref D) H') →
      tLc (iTup K (tC (.ref v))) (gName 9) tt (tVar 9) [9] [u0, u1, u2, u3, u4, u5, u6, u7, u8, u9, u10, u11] H1 Q := fun v H1 Q s hv1 kk =>
    filt_lc val_c hv1 (paired_rev (Paired.mapP a fun _ _ e => s _ _ e)) (by rw [List.length_reverse]; exact few) ht kk
  unfold tLc iTup tRevT
  refine hv _ ⟨o, _, rfl, SqT.of ho, fun v nv => ?_⟩
  have s := same_upd (o := .tup (ts.map V.ref).reverse) nv
  refine hr v _ Q s ?_ fun H' D us s2 => k H' D us (s.trans s2)
  rw [upd_same, List.map_reverse]
theorem paired_append {α β : Type} {R : α → β → Prop} : ∀ {l l' : List α} {m m' : List β}, Paired R l m → Paired R l' m' → Paired R (l ++ l') (m ++ m')
  | _, _, _, _, .nil, h => h
  | _, _, _, _, .cons x r, h => .cons x (paired_append r h)
theorem sum_le {c : Nat} : ∀ {zs : List Str}, (∀ z ∈ zs, z.length ≤ c) → (zs.map (·.length)).sum ≤ c * zs.length
  | [], _ => Nat.zero_le _
  | z :: r, h => by
    have := h z (List.mem_cons_self ..)
    have ih := sum_le (zs := r) fun y hy => h y (List.mem_cons_of_mem _ hy)
    rw [List.map_cons, List.sum_cons, List.length_cons, Nat.mul_succ]
    omega
/-- [ansW(a) + " " + str(n) for a, n in xs] -/
theorem told_lc {te : TE} {us : List Addr} {os : List (Int × Int)} {o : Addr} {u0 u1 u2 u3 u4 u5 u6 u7 u8 u9 u10 u11 : Option V} {H : Hp} {Q : VK} (hv : Val (tVar 7) [u0, u1, u2, u3, u4, u5, u6, u7, u8, u9, u10, u11] H (.ref o)) (ho : H o = some (.lst (us.map V.ref))) (a : OsAt H us os) (ok : OsOk os)
    (ht : ∀ (q w : Int) (H' : Hp) (R : VK), -2 ≤ q → q < 4 → 0 ≤ w → w < 4 → (∀ H'', Same H' H'' → R (.str (ansW q ++ " " ++ toString w)) H'') → te [u0, u1, u2, u3, u4, u5, u6, u7, u8, u9, some (.int q), some (.int w)] H' R)
    (k : ∀ (H' : Hp) (D : Addr) (zs : List Str), Same H H' → H' D = some (.lst (zs.map V.str)) → zs.length ≤ 6 → (∀ z ∈ zs, Tz 6 z) → Q (.ref D) H') :
    tLc (iList K (tVar 7)) (gTup K 2 (gCons (gName 10) (gCons (gName 11) gNil))) tYes te [10, 11] [u0, u1, u2, u3, u4, u5, u6, u7, u8, u9, u10, u11] H Q := by
  dsimp only [tLc, iList]
  refine hv _ ⟨o, rfl, ⟨_, SqL.of ho⟩, fun D nD => ?_⟩
  refine lc_list (xs := us.map V.ref) (fun j H2 => ∃ zs : List Str, Same H H2 ∧ H2 D = some (.lst (zs.map V.str)) ∧ zs.length = j ∧ (∀ z ∈ zs, Tz 6 z)) ⟨[], same_upd nD, upd_same, rfl, fun _ h => nomatch h⟩ (fun j H2 _ ⟨zs, s2, _⟩ => SqL.of (s2 _ _ ho)) (fun j x H2 hj hI => ?_) fun H2 hI => ?_
  · obtain ⟨zs, s2, hD, zl, zt⟩ := hI
    obtain ⟨t, et, rfl⟩ : ∃ t, us[j]? = some t ∧ x = .ref t := by
      rw [List.getElem?_map] at hj
      cases e : us[j]? with
      | none => rw [e] at hj; cases hj
      | some i => rw [e] at hj; exact ⟨i, rfl, (Option.some.inj hj).symm⟩
    obtain ⟨q, eq, hq⟩ := paired_at j a et
    have jlt := (List.getElem?_eq_some_iff.mp eq).1
    have j6 := ok.1
    have qo := ok.2 q (List.mem_of_getElem? eq)
    refine ⟨t, _, rfl, SqT.of (s2 _ _ hq), rfl, _, _, rfl, _, _, rfl, rfl, ?_⟩
    refine ⟨rfl, ?_⟩
    dsimp only [tYes]
    rw [if_pos rfl]
    refine ht q.1 q.2 H2 _ qo.1 qo.2.1 qo.2.2.1 qo.2.2.2 fun H3 s3 => ?_
    have hD3 := s3 _ _ hD
    refine ⟨zs.map V.str, hD3, by rw [List.length_map, zl]; exact Nat.lt_trans (show j < 7 by omega) (by decide), zs ++ [ansW q.1 ++ " " ++ toString q.2], fun b o' e => ?_, ?_, by rw [List.length_append, zl]; rfl, fun z hz => ?_⟩
    · rw [upd_ne (ne_of_none e nD)]
      exact s3 _ _ (s2 _ _ e)
    · rw [List.map_append]
      exact upd_same
    · rcases List.mem_append.mp hz with hz | hz
      · exact zt z hz
      · rw [List.mem_singleton.mp hz]
        exact ((tz_ans qo.1 qo.2.1).add (tz_of (n := 1) (by decide +kernel))).add (tz_num qo.2.2.1 qo.2.2.2)
  · obtain ⟨zs, s2, hD, zl, zt⟩ := hI
    rw [List.length_map, a.len] at zl
    exact k H2 D zs s2 hD (by rw [zl]; exact ok.1) zt
end
/-- what stands at each turn -/
structure Pt (H : Hp) (L : Addr) (H' : Hp) (zs : List Str) (w n : Nat) : Prop where
  s : ∀ b o, H b = some o → H' b = some o
  l : H' L = some (.lst (zs.map V.str))
  t : ∀ z ∈ zs, Tz 64 z
  w : Wt zs ≤ w
  n : zs.length ≤ n
theorem Pt.same {H H1 H2 : Hp} {L : Addr} {zs : List Str} {w n : Nat} (h : Pt H L H1 zs w n) (s : Same H1 H2) : Pt H L H2 zs w n := ⟨fun b o e => s _ _ (h.s b o e), s _ _ h.l, h.t, h.w, h.n⟩
theorem Pt.mono {H H1 : Hp} {L : Addr} {zs : List Str} {w n w' n' : Nat} (h : Pt H L H1 zs w n) (lw : w ≤ w') (ln : n ≤ n') : Pt H L H1 zs w' n' := ⟨h.s, h.l, h.t, Nat.le_trans h.w lw, Nat.le_trans h.n ln⟩
theorem Pt.push {H H1 : Hp} {L : Addr} {zs : List Str} {w n k : Nat} {z : Str} (h : Pt H L H1 zs w n) (nL : H L = none) (hk : k ≤ 64) (hz : Tz k z) : Pt H L (upd H1 L (.lst (zs.map V.str ++ [.str z]))) (zs ++ [z]) (w + (k + 1)) (n + 1) := ⟨fun b o e => by
  rw [upd_ne (ne_of_none e nL)]
  exact h.s b o e, by rw [List.map_append]; exact upd_same, fun y hy => by
  rcases List.mem_append.mp hy with hy | hy
  · exact h.t y hy
  · rw [List.mem_singleton.mp hy]
    exact hz.mono hk, by
  have := h.w
  have := hz.l
  rw [Wt_app, Wt_cons, Wt_nil]
  omega, by
  have := h.n
  rw [List.length_append]
  show zs.length + 1 ≤ _
  omega⟩
abbrev rStrI : List V → Hp → VK → Prop := fun xs H Q => ∃ i, xs = [.int i] ∧ i.natAbs.log2 < 1920 ∧ Q (.str (toString i)) H
abbrev rJoinS (K : PySem.W.Frag) : V → List V → Hp → VK → Prop := fun x xs H Q => ∃ a p, ∃ ys : List Str, x = .str a ∧ xs = [.ref p] ∧ (SqL K H p (ys.map V.str) ∨ SqT K H p (ys.map V.str)) ∧ (ys.map (·.length)).sum + ys.length * a.length ≤ 16777216 ∧ Q (.str (Txt.join a ys)) H
abbrev tRowD (K : PySem.W.Frag) : TS :=
  tSeq (tAsg (tOp rCat (tLc (iTup K (tVar 6)) (gName 9) ((tTest (tOp (rI0 fun i j => V.bl (decide (j < i))) (tOp (rIxT K) (tVar 9) (tC (.int (0 : Nat)))) (tUn (rU fun i => .int (-i)) (tC (.int 1)))))) (tVar 9) [9])
      (tLc (iTup K (tRevT K (tVar 6))) (gName 9) ((tTest (tOp (rI0 fun i j => V.bl (decide (i < j))) (tOp (rIxT K) (tVar 9) (tC (.int (0 : Nat)))) (tC (.int 0))))) (tVar 9) [9])) (gName 7))
  (tSeq (tAsg (tBM K "str" (rJoinS K) (tC (.str ", ")) (tCons (tLc (iList K (tVar 7)) (gTup K 2 (gCons (gName 10) (gCons (gName 11) gNil))) tYes (tOp rAddS (tOp rAddS (tCall spAw [] E0 (tCons (tVar 10) tNil)) (tC (.str " "))) (tCB rStrI (tCons (tVar 11) tNil))) [10, 11]) tNil)) (gName 8))
  (tDrop (tBM K "list" rAppend (tVar 1) (tCons (tOp rAddS (tOp rAddS (tOp rAddS (tOp rAddS (tOp rAddS (tC (.str "  ")) (tVar 4)) (tC (.str " "))) (tCB rStrI (tCons (tVar 5) tNil))) (tC (.str " -> "))) (tVar 8)) tNil))))

theorem paired_map {α β : Type} {R S : α → β → Prop} {l : List α} {m : List β} (h : Paired R l m) (f : ∀ a b, R a b → S a b) : Paired S l m := Paired.mapP h f
theorem small_log {i : Int} (h0 : -20000 ≤ i) (h1 : i ≤ 20000) : i.natAbs.log2 < 1920 := log_mid (by omega)
theorem val_addS {σ : L2.St} {H : Hp} {ta tb : TE} {x y : Str} (ha : Val ta σ H (.str x)) (hb : Val tb σ H (.str y)) (hz : x.length + y.length ≤ 10000000) : Val (tOp rAddS ta tb) σ H (.str (x ++ y)) := val_op ha hb fun Q q => ⟨x, y, rfl, rfl, big_size hz, q⟩
section
variable {K : PySem.W.Frag}
theorem prow_loop {D0 : Ends} {H H8 : Hp} {L r st : Addr} {rs : List RwD} {zs : List Str} {w0 n0 : Nat} {v2 u4 u5 u6 u7 u8 u9 u10 u11 : Option V} (nL : H L = none) (hst : StD H st rs) (rl : rs.length ≤ 12) (ok : ∀ w ∈ rs, RowOk w) (pt : Pt H L H8 zs w0 n0) (hw : w0 ≤ 100000) (hn : n0 ≤ 1000)
    (hd : ∀ (u4 u5 u6 u7 u8 u9 u10 u11 : Option V) (H' : Hp) (zs' : List Str), Pt H L H' zs' (w0 + 65 * 12) (n0 + 12) → D0.nx [some (.ref r), some (.ref L), v2, some (.ref st), u4, u5, u6, u7, u8, u9, u10, u11] H') :
    tFor (iTup K (tVar 3)) (gTup K 3 (gCons (gName 4) (gCons (gName 5) (gCons (gName 6) gNil)))) (tRowD K) D0 [some (.ref r), some (.ref L), v2, some (.ref st), u4, u5, u6, u7, u8, u9, u10, u11] H8 := by
  obtain ⟨ts, hts, hp⟩ := hst
  have tl : ts.length = rs.length := Paired.length hp
  refine ⟨.ref st, rfl, st, rfl, ⟨_, SqT.of (pt.s _ _ hts)⟩, ?_⟩
  show ∃ W : Nat → Nat → L2.St → Hp → Prop, _
  refine for_tup (K := K) (a := st) (xs := ts.map V.ref) (fun c σ H' => ∃ (u4 u5 u6 u7 u8 u9 u10 u11 : Option V) (zs' : List Str), σ = [some (.ref r), some (.ref L), v2, some (.ref st), u4, u5, u6, u7, u8, u9, u10, u11] ∧ Pt H L H' zs' (w0 + 65 * c) (n0 + c)) ?_ ?_ ?_ ?_
  · exact ⟨_, _, _, _, _, _, _, _, zs, rfl, pt⟩
  · rintro c σ H9 _ ⟨_, _, _, _, _, _, _, _, zs9, rfl, pt9⟩
    exact SqT.of (pt9.s _ _ hts)
  · rintro c x σ H9 ex ⟨u4, u5, u6, u7, u8, u9, u10, u11, zs9, rfl, pt9⟩
    obtain ⟨t, et, rfl⟩ : ∃ t, ts[c]? = some t ∧ x = .ref t := by
      rw [List.getElem?_map] at ex
      cases e : ts[c]? with
      | none => rw [e] at ex; cases ex
      | some i => rw [e] at ex; exact ⟨i, rfl, (Option.some.inj ex).symm⟩
    obtain ⟨q, eq, o, hq, us, ho, au⟩ := paired_at c hp et
    have clt := (List.getElem?_eq_some_iff.mp eq).1
    obtain ⟨qd, qw, qo⟩ := ok q (List.mem_of_getElem? eq)
    have qd := tz_pool _ qd
    refine ⟨t, _, rfl, SqT.of (pt9.s _ _ hq), rfl, _, _, rfl, _, _, rfl, _, _, rfl, rfl, ?_⟩
    try dsimp only [gName, List.set]
    dsimp only [tRowD, tSeq, tAsg, tOp]
    refine filt_lc (p := fun i => decide (-1 < i)) (val_var rfl) (pt9.s _ _ ho) (Paired.mapP au fun _ _ e => pt9.s _ _ e) qo.1 (fun t' q' H' R hq' hR => ?_) fun H10 D1 us1 s10 hD1 a1 => ?_
    · dsimp only [tTest, tOp, tUn]
      refine (val_var rfl) _ ?_
      refine val_c _ ?_
      refine ⟨t', _, _, _, rfl, rfl, SqT.of hq', rfl, ?_⟩
      refine val_c _ ?_
      refine ⟨1, rfl, ?_⟩
      exact ⟨q'.1, -1, rfl, rfl, _, rfl, hR⟩
    have ho10 := s10 _ _ (pt9.s _ _ ho)
    have revp : ∀ (H' : Hp) (R : VK), Same H10 H' → True := fun _ _ _ => trivial
    -- the tuple turned round
    refine rev_lc (K := K) (p := fun i => decide (i < 0)) (val_var rfl) ho10 (Paired.mapP au fun _ _ e => s10 _ _ (pt9.s _ _ e)) qo.1 (fun t' q' H' R hq' hR => ?_) fun H11 D2 us2 s11 hD2 a2 => ?_
    · dsimp only [tTest, tOp]
      refine (val_var rfl) _ ?_
      refine val_c _ ?_
      refine ⟨t', _, _, _, rfl, rfl, SqT.of hq', rfl, ?_⟩
      refine val_c _ ?_
      exact ⟨q'.1, 0, rfl, rfl, _, rfl, hR⟩
    have hD1' := s11 _ _ hD1
    have cnt : (q.2.filter fun o => decide (-1 < o.1)).length + (q.2.reverse.filter fun o => decide (o.1 < 0)).length ≤ 6 := by
      have h1 := qo.1
      rw [List.filter_reverse, List.length_reverse]
      have : ∀ os : List (Int × Int), (os.filter fun o => decide (-1 < o.1)).length + (os.filter fun o => decide (o.1 < 0)).length = os.length := by
        intro os
        induction os with
        | nil => rfl
        | cons o r ih =>
          rw [List.filter_cons, List.filter_cons, List.length_cons]
          by_cases h : -1 < o.1
          · rw [decide_eq_true h, decide_eq_false (show ¬ o.1 < 0 by omega), if_pos rfl, if_neg Bool.false_ne_true, List.length_cons]
            omega
          · rw [decide_eq_false h, decide_eq_true (show o.1 < 0 by omega), if_pos rfl, if_neg Bool.false_ne_true, List.length_cons]
            omega
      rw [this]
      exact h1
    have l1 := a1.len
    have l2 := a2.len
    refine ⟨D1, D2, _, _, rfl, rfl, hD1', hD2, by rw [List.length_map, List.length_map]; exact Nat.le_trans (show us1.length + us2.length ≤ 6 by omega) (by decide), fun D3 nD3 => ?_⟩
    have s12 := same_upd (o := .lst (us1.map V.ref ++ us2.map V.ref)) nD3
    have hD3 : (upd H11 D3 (.lst (us1.map V.ref ++ us2.map V.ref))) D3 = some (.lst ((us1 ++ us2).map V.ref)) := by rw [List.map_append]; exact upd_same
    generalize (upd H11 D3 (.lst (us1.map V.ref ++ us2.map V.ref))) = H12 at s12 hD3 ⊢
    have a3 : OsAt H12 (us1 ++ us2) (q.2.filter (fun o => decide (-1 < o.1)) ++ q.2.reverse.filter (fun o => decide (o.1 < 0))) := paired_append (Paired.mapP a1 fun _ _ e => s12 _ _ (s11 _ _ e)) (Paired.mapP a2 fun _ _ e => s12 _ _ e)
    have ok3 : OsOk (q.2.filter (fun o => decide (-1 < o.1)) ++ q.2.reverse.filter (fun o => decide (o.1 < 0))) := ⟨by rw [List.length_append]; exact cnt, fun o ho => by
      rcases List.mem_append.mp ho with ho | ho
      · exact qo.2 o (List.mem_filter.mp ho).1
      · exact qo.2 o (List.mem_reverse.mp (List.mem_filter.mp ho).1)⟩
    have pt12 := (pt9.same s10).same (s11.trans s12)
    try dsimp only [gName, List.set]
    refine asg_seq ?_
    refine bm_run (x := .str ", ") val_c rfl ?_
    dsimp only [tCons, tNil]
    refine told_lc (val_var rfl) hD3 a3 ok3 (fun q' w' H' R h0 h1 h2 h3 hR => ?_) fun H13 D4 ys s13 hD4 yl yt => ?_
    · dsimp only [tOp, tCall, tCons, tNil, tCB]
      refine (val_var rfl) _ ⟨q', rfl, small_log (by omega) (by omega), fun H'' s'' => ?_⟩
      have t1 := tz_ans h0 h1
      have t2 := tz_num h2 h3
      refine val_c _ ⟨_, " ", rfl, rfl, big_size ?_, ?_⟩
      · have := t1.l
        have : (" " : Str).length = 1 := by decide +kernel
        omega
      · have tt := t1.add (tz_of (n := 1) (z := " ") (by decide +kernel))
        refine (val_var rfl) _ ⟨w', rfl, small_log (by omega) (by omega), _, _, rfl, rfl, big_size ?_, hR _ s''⟩
        have := tt.l
        have := t2.l
        omega
    have e2 : (", " : Str).length = 2 := by decide +kernel
    have TT := Tz.join (n := 6) (m := 2) (c := ", ") (tz_of (by decide +kernel)) yt
    refine ⟨", ", D4, ys, rfl, rfl, .inl (SqL.of hD4), ?_, ?_⟩
    · have := sum_le (zs := ys) (c := 6) fun z hz => (yt z hz).l
      rw [e2]
      omega
    rw [jn_txt]
    have pt13 := pt12.same s13
    try dsimp only [gName, List.set]
    generalize Str.join ", " ys = zt at TT ⊢
    have TT := TT.mono (m := 48) (by omega)
    dsimp only [tDrop]
    refine (val_var rfl) _ ?_
    refine ⟨.inl ⟨rfl, _, SqL.of pt13.l⟩, ?_⟩
    have ts1 : Tz 2 ("  " : Str) := tz_of (by decide +kernel)
    have ts2 : Tz 1 (" " : Str) := tz_of (by decide +kernel)
    have ts3 : Tz 4 (" -> " : Str) := tz_of (by decide +kernel)
    have tw : Tz 1 (toString ((q.1.2 : Nat) : Int) : Str) := tz_num (by omega) (by omega)
    have T1 := ts1.add qd
    have T2 := T1.add ts2
    have T3 := T2.add tw
    have T4 := T3.add ts3
    have T5 := T4.add TT
    have vv := val_addS (val_addS (val_addS (val_addS (val_addS (val_c (v := .str "  ")) (val_var (i := 4) (σ := [some (.ref r), some (.ref L), v2, some (.ref st), some (.str q.1.1), some (.int (q.1.2 : Nat)), some (.ref o), some (.ref D3), some (.str zt), u9, u10, u11]) (H := H13) rfl) (by have := T1.l; rw [app_len'] at this; omega)) (val_c (v := .str " ")) (by have := T2.l; rw [app_len'] at this; omega)) (val_strI (val_var (i := 5) (v := .int (q.1.2 : Nat)) rfl) (small_log (by omega) (by omega))) (by have := T3.l; rw [app_len'] at this; omega)) (val_c (v := .str " -> ")) (by have := T4.l; rw [app_len'] at this; omega)) (val_var (i := 8) rfl) (by have := T5.l; rw [app_len'] at this; omega)
    refine vv _ ?_
    generalize ("  " : Str) ++ q.1.1 ++ " " ++ toString ((q.1.2 : Nat) : Int) ++ " -> " ++ zt = zr at T5 ⊢
    refine ⟨L, zs9.map V.str, .str zr, rfl, rfl, pt13.l, ?_, ?_⟩
    · rw [List.length_map]
      have := pt9.n
      exact Nat.lt_of_lt_of_le (show zs9.length < 2000 by omega) (by decide)
    · have P := pt13.push nL (by decide) T5
      exact ⟨_, _, _, _, _, _, _, _, _, rfl, P.mono (by omega) (by omega)⟩
  · rintro σ H9 ⟨u4, u5, u6, u7, u8, u9, u10, u11, zs9, rfl, pt9⟩
    rw [List.length_map, tl] at pt9
    exact hd _ _ _ _ _ _ _ _ _ _ (pt9.mono (by omega) (by omega))
end
end K5
namespace K5
open PySem PySem.Spec PyProof.Rows L2
section
variable {P : Program} {w : World} {K : PySem.W.Frag} {mg : Str → Option Value} {base : Heap}
theorem ok_pact_text {f fA : Addr} {fd fdA : FuncData} (B : Bt mg) (me : mg "enumerate" = none) (D : Df K mg "_law_pact_text" s__law_pact_text f fd ["_law_pact_here"])
    (DA : Df K mg "_law_answer_word" s__law_answer_word fA fdA ["_law_answer"]) :
    FnOk P w K mg base CX0 2 f fd ["_law_pact_here"] spPText := by
  have GA : FnOk P w K mg base CX0 1 fA fdA ["_law_answer"] spAw := ok_ansW B DA
  refine D.F.ok sc__law_pact_text (fun vs H Q E h => ?_) (fun cdv A outer s H vs Q E hr h => ?_)
  · obtain ⟨r, ps, sts, rfl, _⟩ := h
    rfl
  · obtain ⟨r, ps, sts, rfl, hr0, hp, ok, l4, l0, k⟩ := h
    have S := sc__law_pact_text
    refine ⟨_, (pss_cons (ps_set (i := 1) S.nd rfl (.inl rfl) (pe_lst pa_nil))
      (pss_cons (ps_for PassesOwn.never rfl (pi_enumT (by rfl) me (pa_cons (pv 0) pa_nil)) (pg_tup (by rfl) (pgs_cons (pg_name (i := 2) S.nd rfl (.inl rfl)) (pgs_cons (pg_name (i := 3) S.nd rfl (.inl rfl)) pgs_nil)))
        (pss_cons (ps_expr (pe_bm PySem.F.plainAttrs_list PySem.F.slot_list_append PySem.F.type_list_append mt_append (pv 1) (pa_cons (pe_op op_add_str pe_str (pe_callTy call_str_int (by rfl) B.m_str (by decide +kernel) (pa_cons (pv 2) pa_nil))) pa_nil)))
        (pss_one (ps_for PassesOwn.never rfl (pi_tup (pv 3)) (pg_tup (by rfl) (pgs_cons (pg_name (i := 4) S.nd rfl (.inl rfl)) (pgs_cons (pg_name (i := 5) S.nd rfl (.inl rfl)) (pgs_cons (pg_name (i := 6) S.nd rfl (.inl rfl)) pgs_nil))))
          (pss_cons (ps_set (i := 7) S.nd rfl (.inl rfl) (pe_op op_cat
              (pe_lc (own := [("_law_one", 9)]) (g := gName 9) rfl S.nd (pi_tup (pv 6)) (blkOk_by (own := [("_law_one", 9)]) (N := nmPT) (sc := defScope s__law_pact_text) (by decide +kernel)) (fun _ _ _ _ _ => pg_name (i := 9) S.nd rfl (Or.inl rfl)) (fun _ _ _ _ _ => pts_one (pt_cmpR op_gt (pe_ix (r := rIxT K) ix_tup (pv 9) pe_int (fun _ _ => rfl)) (pe_un un_neg pe_int) (nomark _))) (fun _ _ _ _ _ => pv 9))
              (pe_lc (own := [("_law_one", 9)]) (g := gName 9) rfl S.nd (pi_tup (pe_revT (pv 6))) (blkOk_by (own := [("_law_one", 9)]) (N := nmPT) (sc := defScope s__law_pact_text) (by decide +kernel)) (fun _ _ _ _ _ => pg_name (i := 9) S.nd rfl (Or.inl rfl)) (fun _ _ _ _ _ => pts_one (pt_cmpR op_lt (pe_ix (r := rIxT K) ix_tup (pv 9) pe_int (fun _ _ => rfl)) pe_int (nomark _))) (fun _ _ _ _ _ => pv 9))))
          (pss_cons (ps_set (i := 8) S.nd rfl (.inl rfl) (pe_bm PySem.F.plainAttrs_str PySem.F.slot_str_join PySem.F.type_str_join mt_join pe_str (pa_cons
              (pe_lc (own := [("_law_answer", 10), ("_law_later", 11)]) (g := gTup K 2 (gCons (gName 10) (gCons (gName 11) gNil))) (tt := tYes) rfl S.nd (pi_list (pv 7)) (blkOk_by (own := [("_law_answer", 10), ("_law_later", 11)]) (N := nmPT) (sc := defScope s__law_pact_text) (by decide +kernel)) (fun _ _ _ _ _ => pg_tup (by rfl) (pgs_cons (pg_name (i := 10) S.nd rfl (Or.inl rfl)) (pgs_cons (pg_name (i := 11) S.nd rfl (Or.inl rfl)) pgs_nil))) (fun _ _ _ _ _ => pts_nil)
                (fun _ _ _ _ _ => pe_op op_add_str (pe_op op_add_str (pe_call GA (hr.mono (by decide)) (by rfl) DA.g DA.F.kp DA.b .nil pass0 (pa_cons (pv 10) pa_nil)) pe_str) (pe_callTy call_str_int (by rfl) B.m_str (by decide +kernel) (pa_cons (pv 11) pa_nil)))) pa_nil)))
          (pss_one (ps_expr (pe_bm PySem.F.plainAttrs_list PySem.F.slot_list_append PySem.F.type_list_append mt_append (pv 1) (pa_cons
              (pe_op op_add_str (pe_op op_add_str (pe_op op_add_str (pe_op op_add_str (pe_op op_add_str pe_str (pv 4)) pe_str) (pe_callTy call_str_int (by rfl) B.m_str (by decide +kernel) (pa_cons (pv 5) pa_nil))) pe_str) (pv 8)) pa_nil))))))))))
      (pss_one (ps_ret (pe_bm PySem.F.plainAttrs_str PySem.F.slot_str_join PySem.F.type_str_join mt_join pe_str (pa_cons (pv 1) pa_nil)))))), ?_⟩
    refine asg_seq ?_
    refine ⟨Nat.zero_le _, fun L nL => ?_⟩
    have pt0 : Pt H L (upd H L (.lst [])) [] 0 0 := ⟨same_upd nL, upd_same, fun _ h => (nomatch h), Nat.le_refl _, Nat.le_refl _⟩
    generalize (upd H L (.lst [])) = H1 at pt0 ⊢
    have pl : ps.length = sts.length := Paired.length hp
    refine (val_var rfl) _ ⟨r, _, rfl, SqT.of (pt0.s _ _ hr0), ?_⟩
    show ∃ W : Nat → Nat → L2.St → Hp → Prop, _
    refine for_enumT (K := K) (a := r) (xs := ps.map V.ref) (fun i σ H' => ∃ (u2 u3 u4 u5 u6 u7 u8 u9 u10 u11 : Option V) (zs : List Str), σ = [some (.ref r), some (.ref L), u2, u3, u4, u5, u6, u7, u8, u9, u10, u11] ∧ Pt H L H' zs (788 * i) (13 * i)) ?_ ?_ ?_ ?_
    · exact ⟨none, none, none, none, none, none, none, none, none, none, [], rfl, pt0⟩
    · rintro i σ H9 _ ⟨_, _, _, _, _, _, _, _, _, _, zs, rfl, pt9⟩
      exact SqT.of (pt9.s _ _ hr0)
    · rintro i x T σ H9 ex ⟨u2, u3, u4, u5, u6, u7, u8, u9, u10, u11, zs, rfl, pt9⟩ nT
      obtain ⟨st, et, rfl⟩ : ∃ t, ps[i]? = some t ∧ x = .ref t := by
        rw [List.getElem?_map] at ex
        cases e : ps[i]? with
        | none => rw [e] at ex; cases ex
        | some i => rw [e] at ex; exact ⟨i, rfl, (Option.some.inj ex).symm⟩
      obtain ⟨rs, ers, hst⟩ := paired_at i hp et
      have ilt := (List.getElem?_eq_some_iff.mp ers).1
      obtain ⟨rl, rok⟩ := ok rs (List.mem_of_getElem? ers)
      have sT := same_upd (o := .tup [.int (i : Nat), .ref st]) nT
      have hT : (upd H9 T (.tup [.int (i : Nat), .ref st])) T = some (.tup [.int (i : Nat), .ref st]) := upd_same
      have pt10 := pt9.same sT
      generalize (upd H9 T (.tup [.int (i : Nat), .ref st])) = H10 at sT hT pt10 ⊢
      refine ⟨T, _, rfl, SqT.of hT, rfl, _, _, rfl, _, _, rfl, rfl, ?_⟩
      try dsimp only [gName, List.set]
      dsimp only [tSeq, tDrop]
      refine bm_run (x := .ref L) (val_var rfl) (.inl ⟨rfl, _, SqL.of pt10.l⟩) ?_
      have tn : Tz 7 (("state " : Str) ++ toString ((i : Nat) : Int)) := (tz_of (n := 6) (by decide +kernel)).add (tz_num (by omega) (by omega))
      dsimp only [tCons, tNil]
      refine val_addS (val_c (v := .str "state ")) (val_strI (val_var (i := 2) (v := .int (i : Nat)) rfl) (small_log (by omega) (by omega))) (by have := tn.l; rw [app_len'] at this; omega) _ ?_
      generalize ("state " : Str) ++ toString ((i : Nat) : Int) = zr at tn ⊢
      have pt11 := pt10.push nL (by decide) tn
      refine ⟨L, zs.map V.str, .str zr, rfl, rfl, pt10.l, ?_, ?_⟩
      · rw [List.length_map]
        have := pt9.n
        exact Nat.lt_of_lt_of_le (show zs.length < 2000 by omega) (by decide)
      · refine prow_loop (K := K) (r := r) (L := L) (st := st) (v2 := some (.int (i : Nat))) nL hst rl rok (H8 := upd H10 L (.lst (zs.map V.str ++ [.str zr]))) pt11 (by omega) (by omega) fun u4 u5 u6 u7 u8 u9 u10 u11 H' zs' pt' => ?_
        exact ⟨_, _, _, _, _, _, _, _, _, _, zs', rfl, pt'.mono (by omega) (by omega)⟩
    · rintro σ H9 ⟨u2, u3, u4, u5, u6, u7, u8, u9, u10, u11, zs, rfl, pt9⟩
      rw [List.length_map, pl] at pt9
      have wz := pt9.w
      have nz := pt9.n
      dsimp only [tRet]
      refine join_run (LV.v rfl pt9.l) nl1 (by omega) fun H5 s5 => ?_
      refine k H5 _ (fun b o e => s5 _ _ (pt9.s b o e)) (pg_join (by decide) (by omega) (fun z hz => (pt9.t z hz).o) (fun z hz => (pt9.t z hz).f) (by omega))
end
end K5
namespace TH
open PySem
def stepP (m p1 p2 a : Nat) (h : Int) : Nat :=
  let acc := (a + (h % (m : Int)).toNat * p2) % m
  let acc := (acc * 2 ^ 31) % m + acc / 2 ^ 33
  (acc * p1) % m
theorem hs1 (m p1 p2 p5 : Nat) (h k : Int) : List.foldl (fun acc h =>
      let acc := (acc + (h % (m : Int)).toNat * p2) % m;
      let acc := acc * 2 ^ 31 % m + acc / 2 ^ 33;
      acc * p1 % m)
    p5 [h, k] = stepP m p1 p2 (stepP m p1 p2 p5 h) k := by
  rw [List.foldl_cons, List.foldl_cons, List.foldl_nil]
  unfold stepP
  with_reducible rfl
theorem hs2 (h k : Int) : [h, k].length = 2 := rfl
theorem hs3 (m p5 acc1 acc2 : Nat) (h k : Int) (el : [h, k].length = 2) (e : acc2 = (acc1 + ([h, k].length ^^^ (p5 ^^^ 3527539))) % m) : acc2 = (acc1 + (2 ^^^ (p5 ^^^ 3527539))) % m := by
  rw [e, el]
def finP (m p5 n a : Nat) : Int :=
  let acc : Nat := (a + (n ^^^ (p5 ^^^ 3527539))) % m
  if acc == m - 1 then 1546275796 else if acc < 2 ^ 63 then (acc : Int) else (acc : Int) - (m : Int)
theorem fin_of (m p5 a acc : Nat) (e : acc = (a + (2 ^^^ (p5 ^^^ 3527539))) % m) : (if acc == m - 1 then 1546275796 else if acc < 2 ^ 63 then (acc : Int) else (acc : Int) - (m : Int)) = finP m p5 2 a := by
  unfold finP
  rw [e]
theorem hash2 (h k : Int) : ∃ m p1 p2 p5 : Nat, m = 2 ^ 64 ∧ p1 = 11400714785074694791 ∧ p2 = 14029467366897019727 ∧ p5 = 2870177450012600261 ∧ Builtin.Tuple.tupleHashOf [h, k] = finP m p5 2 (stepP m p1 p2 (stepP m p1 p2 p5 h) k) := by
  unfold Builtin.Tuple.tupleHashOf
  extract_lets m p1 p2 p5 acc1 acc2
  have e1 : acc1 = stepP m p1 p2 (stepP m p1 p2 p5 h) k := hs1 m p1 p2 p5 h k
  have e2 : acc2 = (acc1 + (2 ^^^ (p5 ^^^ 3527539))) % m := hs3 m p5 acc1 acc2 h k (hs2 h k) rfl
  have em : m = 2 ^ 64 := rfl
  have ep1 : p1 = 11400714785074694791 := rfl
  have ep2 : p2 = 14029467366897019727 := rfl
  have ep5 : p5 = 2870177450012600261 := rfl
  clear_value acc2 acc1 m p1 p2 p5
  refine ⟨m, p1, p2, p5, em, ep1, ep2, ep5, ?_⟩
  rw [← e1]
  exact fin_of m p5 acc1 acc2 e2
theorem unmul {m p i y : Nat} (h : (p * i) % m = 1) (hy : y < m) : ((y * p) % m * i) % m = y := by
  rw [Nat.mul_mod, Nat.mod_mod, ← Nat.mul_mod, Nat.mul_assoc, Nat.mul_mod, h, Nat.mul_one, Nat.mod_mod, Nat.mod_eq_of_lt hy]
theorem inv_ok : (11400714785074694791 * 614540362697595703) % 18446744073709551616 = 1 := by decide +kernel
theorem rot1 {q r : Nat} (hr : r < 8589934592) (hq : q < 2147483648) : ((8589934592 * q + r) * 2147483648) % 18446744073709551616 = r * 2147483648 := by
  rw [show (8589934592 * q + r) * 2147483648 = r * 2147483648 + 18446744073709551616 * q by omega, Nat.add_mul_mod_self_left, Nat.mod_eq_of_lt (by omega)]
theorem rot2 {q r : Nat} (hr : r < 8589934592) (hq : q < 2147483648) : ((r * 2147483648 + q) * 8589934592) % 18446744073709551616 = q * 8589934592 := by
  rw [show (r * 2147483648 + q) * 8589934592 = q * 8589934592 + 18446744073709551616 * r by omega, Nat.add_mul_mod_self_left, Nat.mod_eq_of_lt (by omega)]
theorem rot3 {q r : Nat} (hq : q < 2147483648) : (r * 2147483648 + q) / 2147483648 = r := by omega
def rotl (x : Nat) : Nat := (x * 2147483648) % 18446744073709551616 + x / 8589934592
def rotr (y : Nat) : Nat := (y * 8589934592) % 18446744073709551616 + y / 2147483648
theorem rot {x : Nat} (h : x < 18446744073709551616) : rotr (rotl x) = x ∧ rotl x < 18446744073709551616 := by
  have hx : x = 8589934592 * (x / 8589934592) + x % 8589934592 := (Nat.div_add_mod x 8589934592).symm
  have hr : x % 8589934592 < 8589934592 := Nat.mod_lt _ (by decide)
  have hq : x / 8589934592 < 2147483648 := Nat.div_lt_of_lt_mul (by omega)
  have hl : rotl x = (x % 8589934592) * 2147483648 + x / 8589934592 := by
    unfold rotl
    have := rot1 hr hq
    rw [← hx] at this
    rw [this]
  have hr2 : rotr (rotl x) = (x / 8589934592) * 8589934592 + x % 8589934592 := by
    rw [hl]
    unfold rotr
    rw [rot2 hr hq, rot3 hq]
  refine ⟨?_, ?_⟩
  · rw [hr2, Nat.mul_comm]
    exact hx.symm
  · rw [hl]
    clear hl hr2 hx
    generalize x / 8589934592 = q at hq ⊢
    generalize x % 8589934592 = r at hr ⊢
    omega
def B (z : Nat) : Nat := rotr ((z * 614540362697595703) % 18446744073709551616)
theorem B_of {x : Nat} (h : x < 18446744073709551616) : B ((rotl x * 11400714785074694791) % 18446744073709551616) = x := by
  unfold B
  rw [unmul inv_ok (rot h).2]
  exact (rot h).1
theorem B1 : B 15576566623696079691 = 9148689060682678900 := by decide +kernel
theorem B2 : B 15576566625242355488 = 15881292906973731817 := by decide +kernel
theorem xor_ok : (2 ^^^ (2870177450012600261 ^^^ 3527539) : Nat) = 2870177450013471924 := by decide +kernel
theorem apart {a v w : Nat} (hv : v < 4) (hw : w < 4) (ne : v ≠ w) : (a + v * 14029467366897019727) % 18446744073709551616 ≠ (a + w * 14029467366897019727) % 18446744073709551616 ∧
    ¬ ((a + v * 14029467366897019727) % 18446744073709551616 = 9148689060682678900 ∧ (a + w * 14029467366897019727) % 18446744073709551616 = 15881292906973731817) := by
  have cv : v = 0 ∨ v = 1 ∨ v = 2 ∨ v = 3 := by omega
  have cw : w = 0 ∨ w = 1 ∨ w = 2 ∨ w = 3 := by omega
  rcases cv with rfl | rfl | rfl | rfl <;> rcases cw with rfl | rfl | rfl | rfl <;> first | exact absurd rfl ne | (constructor <;> omega)
def F (acc : Nat) : Int := if acc == 18446744073709551616 - 1 then 1546275796 else if acc < 9223372036854775808 then (acc : Int) else (acc : Int) - ((18446744073709551616 : Nat) : Int)
theorem F_at (acc : Nat) (h : acc < 18446744073709551616) : (acc = 18446744073709551615 ∧ F acc = 1546275796) ∨ (acc < 9223372036854775808 ∧ F acc = (acc : Int)) ∨ (9223372036854775808 ≤ acc ∧ acc < 18446744073709551615 ∧ F acc = (acc : Int) - 18446744073709551616) := by
  unfold F
  by_cases c : acc = 18446744073709551615
  · left
    refine ⟨c, ?_⟩
    rw [if_pos (by rw [c]; decide +kernel)]
  · have nb : ¬ ((acc == 18446744073709551616 - 1) = true) := fun e => c (by have := eq_of_beq e; omega)
    rw [if_neg nb]
    by_cases c2 : acc < 9223372036854775808
    · rw [if_pos c2]
      exact .inr (.inl ⟨c2, rfl⟩)
    · rw [if_neg c2]
      exact .inr (.inr ⟨by omega, by omega, rfl⟩)
theorem F_inj {a b : Nat} (ha : a < 18446744073709551616) (hb : b < 18446744073709551616) (e : F a = F b) : a = b ∨ (a = 18446744073709551615 ∧ b = 1546275796) ∨ (b = 18446744073709551615 ∧ a = 1546275796) := by
  rcases F_at a ha with ⟨h1, h2⟩ | ⟨h1, h2⟩ | ⟨h1, h3, h2⟩ <;> rcases F_at b hb with ⟨g1, g2⟩ | ⟨g1, g2⟩ | ⟨g1, g3, g2⟩ <;> rw [h2, g2] at e <;> omega
theorem F_rg {a : Nat} (ha : a < 18446744073709551616) : -9223372036854775808 ≤ F a ∧ F a < 9223372036854775808 ∧ F a ≠ -1 := by
  rcases F_at a ha with ⟨h1, h2⟩ | ⟨h1, h2⟩ | ⟨h1, h3, h2⟩ <;> rw [h2] <;> omega
theorem step_eq {a v : Nat} (hv : v < 4) : stepP 18446744073709551616 11400714785074694791 14029467366897019727 a (v : Int) = (rotl ((a + v * 14029467366897019727) % 18446744073709551616) * 11400714785074694791) % 18446744073709551616 := by
  have e : ((v : Int) % ((18446744073709551616 : Nat) : Int)).toNat = v := by omega
  have e2 : (2 : Nat) ^ 33 = 8589934592 := by decide +kernel
  have e3 : (2 : Nat) ^ 31 = 2147483648 := by decide +kernel
  unfold stepP rotl
  rw [e, e2, e3]
theorem fin_eq (a : Nat) : finP 18446744073709551616 2870177450012600261 2 a = F ((a + 2870177450013471924) % 18446744073709551616) := by
  have e63 : (2 : Nat) ^ 63 = 9223372036854775808 := by decide +kernel
  unfold finP
  extract_lets acc
  have ea : acc = (a + 2870177450013471924) % 18446744073709551616 := congrArg (fun c => (a + c) % 18446744073709551616) xor_ok
  rw [e63, ea]
  generalize (a + 2870177450013471924) % 18446744073709551616 = b
  unfold F
  with_reducible rfl
theorem differ_core {y z p q : Nat} (bv : B y = p) (bw : B z = q) (zv : y < 18446744073709551616) (zw : z < 18446744073709551616) (n1 : p ≠ q) (n2 : ¬ (p = 9148689060682678900 ∧ q = 15881292906973731817)) (n3 : ¬ (q = 9148689060682678900 ∧ p = 15881292906973731817)) : F ((y + 2870177450013471924) % 18446744073709551616) ≠ F ((z + 2870177450013471924) % 18446744073709551616) := by
  intro e
  rcases F_inj (Nat.mod_lt _ (by decide)) (Nat.mod_lt _ (by decide)) e with h | ⟨h1, h2⟩ | ⟨h1, h2⟩
  · have : y = z := by omega
    rw [this, bw] at bv
    exact n1 bv.symm
  · have h3 : y = 15576566623696079691 := by omega
    have h4 : z = 15576566625242355488 := by omega
    rw [h3, B1] at bv
    rw [h4, B2] at bw
    exact n2 ⟨bv.symm, bw.symm⟩
  · have h3 : z = 15576566623696079691 := by omega
    have h4 : y = 15576566625242355488 := by omega
    rw [h3, B1] at bw
    rw [h4, B2] at bv
    exact n3 ⟨bw.symm, bv.symm⟩
theorem differ {a v w : Nat} (hv : v < 4) (hw : w < 4) (ne : v ≠ w) : finP 18446744073709551616 2870177450012600261 2 (stepP 18446744073709551616 11400714785074694791 14029467366897019727 a (v : Int)) ≠ finP 18446744073709551616 2870177450012600261 2 (stepP 18446744073709551616 11400714785074694791 14029467366897019727 a (w : Int)) := by
  rw [step_eq hv, step_eq hw, fin_eq, fin_eq]
  obtain ⟨n1, n2⟩ := apart (a := a) hv hw ne
  obtain ⟨_, n3⟩ := apart (a := a) hw hv (Ne.symm ne)
  exact differ_core (B_of (Nat.mod_lt _ (by decide))) (B_of (Nat.mod_lt _ (by decide))) (Nat.mod_lt _ (by decide)) (Nat.mod_lt _ (by decide)) n1 n2 n3
theorem reduce_eq {a : Nat} (ha : a < 18446744073709551616) : reduceHash (F a) = F a := by
  obtain ⟨h1, h2, h3⟩ := F_rg ha
  unfold reduceHash
  have e63 : (2 : Int) ^ 63 = 9223372036854775808 := by decide +kernel
  rw [e63, decide_eq_true (show -9223372036854775808 ≤ F a by omega), decide_eq_true (show F a < 9223372036854775808 by omega)]
  have nb : ¬ ((F a == -1) = true) := fun e => h3 (eq_of_beq e)
  rw [if_pos (show (true && true) = true from rfl), if_neg nb]
end TH
namespace K5
open PySem PySem.Spec PyProof.Rows L2
theorem hash_apart {P : Program} {w : World} (z : Str) {i j : Nat} (hi : i < 4) (hj : j < 4) (ne : i ≠ j) : (tupleKind (mixKind P w)).hash [.inr z, .inl (i : Int)] ≠ (tupleKind (mixKind P w)).hash [.inr z, .inl (j : Int)] := by
  have hn : ∀ n : Nat, n < 4 → hashInt (n : Int) = (n : Int) := fun n h => by
    have : n = 0 ∨ n = 1 ∨ n = 2 ∨ n = 3 := by omega
    rcases this with rfl | rfl | rfl | rfl <;> decide +kernel
  show reduceHash (Builtin.Tuple.tupleHashOf [hashStr w z, hashInt (i : Int)]) ≠ reduceHash (Builtin.Tuple.tupleHashOf [hashStr w z, hashInt (j : Int)])
  rw [hn i hi, hn j hj]
  obtain ⟨m, p1, p2, p5, em, e1, e2, e5, h⟩ := TH.hash2 (hashStr w z) (i : Int)
  obtain ⟨m', p1', p2', p5', em', e1', e2', e5', h'⟩ := TH.hash2 (hashStr w z) (j : Int)
  have e64 : (2 : Nat) ^ 64 = 18446744073709551616 := by decide +kernel
  rw [h, h']
  rw [e64] at em em'
  subst em e1 e2 e5 em' e1' e2' e5'
  have D := TH.differ (a := TH.stepP 18446744073709551616 11400714785074694791 14029467366897019727 2870177450012600261 (hashStr w z)) hi hj ne
  have r1 := TH.fin_eq (TH.stepP 18446744073709551616 11400714785074694791 14029467366897019727 (TH.stepP 18446744073709551616 11400714785074694791 14029467366897019727 2870177450012600261 (hashStr w z)) (i : Int))
  have r2 := TH.fin_eq (TH.stepP 18446744073709551616 11400714785074694791 14029467366897019727 (TH.stepP 18446744073709551616 11400714785074694791 14029467366897019727 2870177450012600261 (hashStr w z)) (j : Int))
  rw [r1, r2] at D ⊢
  rw [TH.reduce_eq (Nat.mod_lt _ (by decide)), TH.reduce_eq (Nat.mod_lt _ (by decide))]
  exact D
theorem hashes_nodup {P : Program} {w : World} (z : Str) : ∀ {ws : List Int}, ws.Nodup → (∀ i ∈ ws, 0 ≤ i ∧ i < 4) → ((ws.map fun i => ([.inr z, .inl i] : List Key)).map (tupleKind (mixKind P w)).hash).Nodup
  | [], _, _ => .nil
  | i :: ws, nd, h => by
    rw [List.nodup_cons] at nd
    rw [List.map_cons, List.map_cons, List.nodup_cons]
    refine ⟨fun hm => ?_, hashes_nodup z nd.2 fun j hj => h j (List.mem_cons_of_mem _ hj)⟩
    obtain ⟨k, hk, e⟩ := List.mem_map.mp hm
    obtain ⟨j, hj, rfl⟩ := List.mem_map.mp hk
    obtain ⟨i0, i4⟩ := h i (List.mem_cons_self ..)
    obtain ⟨j0, j4⟩ := h j (List.mem_cons_of_mem _ hj)
    have ne : j.toNat ≠ i.toNat := fun e => nd.1 (by
      have : j = i := by omega
      exact this ▸ hj)
    have := hash_apart (P := P) (w := w) z (i := j.toNat) (j := i.toNat) (by omega) (by omega) ne
    rw [show ((j.toNat : Nat) : Int) = j by omega, show ((i.toNat : Nat) : Int) = i by omega] at this
    exact this e
end K5
namespace K5
open PySem PySem.Spec PyProof.Rows L2
/-! ### max(d.values()) -/
def tValsK (td : TE) : TE := fun σ H Q => td σ H fun x H1 => ∃ d kvs, x = .ref d ∧ H1 d = some (.dK kvs) ∧ ∀ p, H1 p = none → Q (.ref p) (upd H1 p (viewO "dict_values" p d))
section
variable {X : Cx} {e : Expr} {td : TE} {apos cpos : Pos}
theorem pe_valsK (he : PE X e td) (hbase : attributeBase e "values" X.env (eval e X.env) = eval e X.env := by rfl) (hline : (apos.endLine == cpos.line) = true := by rfl) : PE X (.Call (.Attribute e "values" apos) [] [] cpos) (tValsK td) := by
  refine ⟨fun pins s σ H Q I h => ?_⟩
  refine wpAny_Call_method (T := "dict") (id := "dict.values") hbase rfl hline PySem.F.plainAttrs_dict PySem.F.slot_dict_values PySem.F.type_dict_values (thn (he.run pins s σ H _ I h) fun u s1 ⟨x, H1, I1, rx, d, kvs, ex, hd, q⟩ => ?_)
  subst ex
  obtain rfl : u = Value.ref d := rx
  obtain ⟨_, hs, vs, rel, dof⟩ := dk_of I1.hok hd
  refine ⟨dof.typeIs, dof.mapOf.noDict, ?_⟩
  have fin : EP X pins σ Q (.ref s1.heap.objs.size) { s1 with heap := s1.heap.push { cls := .type "dict_values", data := .fields #[.ref d] } } :=
    ⟨.ref s1.heap.objs.size, _, I1.laid (t' := s1.toks) (fun b o q => Heap.get?_push_of_some _ q) (Nat.le_refl _) (viewO_ok (Heap.get?_push_size _ rfl)), rfl, q _ (I1.hok.fresh (Nat.le_refl _))⟩
  show wpAny _ _ (callWith cpos (.builtin "dict.values") [.ref d] [] []) _ X.xe s1
  exact method_meetsIn PySem.F.slot_dict_values PySem.F.entry_dict_values rfl (PySem.evalArgs_none ⟨rfl, dof.typeIs, PySem.F.args_dict_values_1 _, _, meets_dict_values (mixKind X.prog X.w) d hs, ⟨vs, dof⟩, fin⟩)
def rMaxK : List V → Hp → VK → Prop := fun xs H Q => ∃ (p a : Addr) (kvs : List (Key × V)) (ns : List Int), xs = [.ref p] ∧ H p = some (viewO "dict_values" p a) ∧ H a = some (.dK kvs) ∧ kvs.map Prod.snd = ns.map V.int ∧ 0 < ns.length ∧ ∀ m, m ∈ ns → (∀ y, y ∈ ns → y ≤ m) → Q (.int m) H
theorem cr_maxK (hc : X.calm = true) : CallR X (.builtin "max") rMaxK := by
  intro pins s σ H xs us Q I rx h
  obtain ⟨p, a, kvs, ns, rfl, hp, ha, hns, hne, q⟩ := h
  rw [Vals.ref1 rx]
  obtain ⟨_, hsys, vs, rel, dof⟩ := dk_of I.hok ha
  obtain ⟨ep, dat⟩ := dof.dictAt
  obtain ⟨ob, es, ho, hex, hdat, hko, hpr, hnd⟩ := id dat
  have hlt : a < s.heap.objs.size := Heap.lt_size ho
  have hv : s.heap.get? p = some (DSub.viewOb "dict_values" a) := (show ObjOk X.prog X.w H s.heap p (viewO "dict_values" p a) from I.hok p _ hp).1
  have hkn : kvs.length = ns.length := by
    have e := congrArg List.length hns
    rw [List.length_map, List.length_map] at e
    exact e
  have hlv : kvs.length = vs.length := Paired.length rel
  have hP : ∀ (i : Nat) (v : Value), (∃ k, vs[i]? = some (k, v)) → ∃ t, v = .int (ns.getD i 0) t := fun i v ⟨k, hk⟩ => by
    have hi : i < vs.length := (List.getElem?_eq_some_iff.mp hk).1
    have hi2 : i < kvs.length := by omega
    have hi3 : i < ns.length := by omega
    obtain ⟨u, hu, ru⟩ := kv_get rel (i := i) (k := kvs[i].1) (v := kvs[i].2) (List.getElem?_eq_getElem hi2)
    have e0 : u = v := by
      rw [hk] at hu
      have := Option.some.inj hu
      exact (Prod.mk.inj this).2.symm
    have e2 : kvs[i].2 = V.int ns[i] := by
      have z : (kvs.map Prod.snd)[i]? = (ns.map V.int)[i]? := by rw [hns]
      rw [List.getElem?_map, List.getElem?_map, List.getElem?_eq_getElem hi2, List.getElem?_eq_getElem hi3] at z
      exact Option.some.inj z
    have e3 : ns.getD i 0 = ns[i] := by rw [List.getD_eq_getElem?_getD, List.getElem?_eq_getElem hi3] <;> rfl
    rw [e0, e2] at ru
    rw [e3]
    exact ru
  refine call_max_walk ?_
  refine wpAny_pyIter_values (d := a) (knd := mixKind X.prog X.w) ⟨_, hv, rfl, rfl⟩ dat ?_
  refine ⟨s.heap.objs.size, [s.heap.objs.size, a], [s.heap.objs.size], vs.length, fun i v => ∃ k, vs[i]? = some (k, v), _, fun i j => decide (ns.getD i 0 > ns.getD j 0), rfl, Walks.dictValues (knd := mixKind X.prog X.w) (A := X.A.in1) (I.ok.hd hc) s.heap.objs.size a (Nat.ne_of_lt hlt) vs ep,
    ⟨⟨_, Heap.get?_push_size _ rfl, rfl, rfl⟩, dat.keep fun b u e => Heap.get?_push_of_some _ e⟩, fun b hb => ?_, by omega, CmpOf.ints_gt (fun i => ns.getD i 0) hP, fun v h' tk hv' hk => ?_⟩
  · show b < (s.heap.push _).objs.size
    rw [Heap.size_push]
    rcases List.mem_cons.mp hb with z | z
    · rw [z]
      exact Nat.lt_succ_self _
    · rw [List.mem_singleton.mp z]
      exact Nat.lt_succ_of_lt hlt
  · obtain ⟨t, rfl⟩ := hP _ _ hv'
    obtain ⟨m1, m2⟩ := argBest_gt (fun i => ns.getD i 0) (vs.length - 1)
    have m1 : argBest (fun i j => decide (ns.getD i 0 > ns.getD j 0)) (vs.length - 1) ≤ vs.length - 1 := m1
    have hk2 : ∀ b o, s.heap.get? b = some o → h'.get? b = some o := fun b o e => hk b o (fun z => by rw [List.mem_singleton.mp z] at e; exact absurd (Heap.lt_size e) (Nat.lt_irrefl _)) (Heap.get?_push_of_some _ e)
    refine ⟨.int _, H, I.kept (t' := tk) hk2, ⟨t, rfl⟩, q _ (PySem.getD_mem (by omega)) fun y hy => ?_⟩
    obtain ⟨j, hj, e⟩ := List.mem_iff_getElem.mp hy
    have z : ns.getD j 0 ≤ ns.getD (argBest (fun i j => decide (ns.getD i 0 > ns.getD j 0)) (vs.length - 1)) 0 := m2 j (by omega)
    have e3 : ns.getD j 0 = y := by rw [List.getD_eq_getElem?_getD, List.getElem?_eq_getElem hj, ← e] <;> rfl
    rw [e3] at z
    exact z
end
end K5
namespace K5
open PySem PySem.Spec PyProof.Rows L2
/-! ### sorted(d.items()), keys and values whole numbers -/
section
variable {X : Cx} {e : Expr} {te : TE} {apos cpos : Pos}
theorem pairs_laid {pins : List (Addr × Obj)} {σ : L2.St} {H : Hp} {s : Shared} {h1 : Heap} {tk : Nat} {kvs : List (Key × V)} {vs : List (Key × Value)} {ts : List Addr} (I : Inv X pins σ H s) (kv : KV kvs vs)
    (keep : ∀ c u, s.heap.get? c = some u → h1.get? c = some u) (hl : ts.length = vs.length) (hG : PySem.W.KdxG (mixKind X.prog X.w) vs s.heap.objs.size h1 ts) :
    ∃ H' : Hp, Same H H' ∧ Paired (fun (t : Addr) (q : Key × V) => H' t = some (.tup [kV q.1, q.2])) ts kvs ∧ Inv X pins σ H' { s with heap := h1, toks := tk } := by
  have lenEq : kvs.length = vs.length := Paired.length kv
  have nd : ts.Nodup := List.Pairwise.imp (fun {a b} (z : a < b) => Nat.ne_of_lt z) hG.rise
  have fresh : ∀ t ∈ ts, H t = none := fun t z => I.hok.fresh (Nat.le_of_lt (hG.above t z))
  have atP := LiI.putT_at ts kvs H (by omega) nd
  have off : ∀ c, c ∉ ts → LiI.putT H ts kvs c = H c := fun c z => LiI.putT_off ts kvs H z
  have low : ∀ c u, s.heap.get? c = some u → c ∉ ts := fun c u e z => absurd (Heap.lt_size e) (Nat.not_lt.mpr (Nat.le_of_lt (hG.above c z)))
  have kp : ∀ c u, H c = some u → (LiI.putT H ts kvs) c = some u := fun c u e => by
    rw [off c fun z => by rw [fresh c z] at e; cases e]
    exact e
  refine ⟨LiI.putT H ts kvs, kp, atP, ?_⟩
  refine I.call' (ch := []) rfl ⟨fun c o q _ _ _ => keep c o q, fun c o q _ _ _ => ⟨o.slots, keep c o q⟩, fun c o q n _ => ?_, fun c o q _ => ⟨o, keep c o q⟩, fun c xs q => kp c _ q, fun c o u q => kp c _ q, fun c ps q => ⟨#[], by rw [kp c _ q]; simp⟩⟩ (fun c u q => ?_) I.bare fun c z => by simp at z
  · rw [off c (low c o q)]
    exact n
  · by_cases hc : c ∈ ts
    · obtain ⟨j, pk, e1, e2, e3⟩ := LiI.paired_ix atP hc
      rw [e3] at q
      cases q
      obtain ⟨key, k, x, fj, fk, fv⟩ := hG.pairs j c e1
      obtain ⟨qv, g1, g2, gv⟩ := LiI.paired_get kv e2
      rw [fj] at g1
      cases g1
      have rKey : RelV (kV pk.1) key := by
        rw [g2]
        exact relV_key (show keyIs k key = true from fk)
      exact ⟨by show 2 ≤ sizeLine; decide, [key, x], .cons rKey (.cons gv .nil), ⟨_, fv, rfl, _, rfl⟩⟩
    · rw [off c hc] at q
      exact (I.hok c u q).stay (fun d v _ y => keep d v y) (fun d y => kp d _ y) fun d xs y => kp d _ y
def tItemsK (td : TE) : TE := fun σ H Q => td σ H fun x H1 => ∃ d kvs, x = .ref d ∧ H1 d = some (.dK kvs) ∧ ∀ p, H1 p = none → Q (.ref p) (upd H1 p (L2.DX.itemsO p d))
theorem pe_itemsK (he : PE X e te) (hbase : attributeBase e "items" X.env (eval e X.env) = eval e X.env := by rfl) (hline : (apos.endLine == cpos.line) = true := by rfl) : PE X (.Call (.Attribute e "items" apos) [] [] cpos) (tItemsK te) := by
  refine ⟨fun pins s σ H Q I h => ?_⟩
  refine wpAny_Call_method (T := "dict") (id := "dict.items") hbase rfl hline PySem.F.plainAttrs_dict PySem.F.slot_dict_items PySem.F.type_dict_items (thn (he.run pins s σ H _ I h) fun u s1 ⟨x, H1, I1, rx, d, kvs, ex, hd, q⟩ => ?_)
  subst ex
  obtain rfl : u = Value.ref d := rx
  obtain ⟨_, hs, vs, rel, dof⟩ := dk_of I1.hok hd
  refine ⟨dof.typeIs, dof.mapOf.noDict, ?_⟩
  have fin : EP X pins σ Q (.ref s1.heap.objs.size) { s1 with heap := s1.heap.push { cls := .type "dict_items", data := .fields #[.ref d] } } :=
    ⟨.ref s1.heap.objs.size, _, I1.laid (t' := s1.toks) (fun b o q => Heap.get?_push_of_some _ q) (Nat.le_refl _) (L2.DX.itemsO_ok (Heap.get?_push_size _ rfl)), rfl, q _ (I1.hok.fresh (Nat.le_refl _))⟩
  show wpAny _ _ (callWith cpos (.builtin "dict.items") [.ref d] [] []) _ X.xe s1
  exact method_meetsIn PySem.F.slot_dict_items PySem.F.entry_dict_items rfl (PySem.evalArgs_none ⟨rfl, dof.typeIs, PySem.F.args_dict_items_1 _, _, meets_dict_items (mixKind X.prog X.w) d hs, ⟨vs, dof⟩, fin⟩)
end
def encI (q : Int × Int) : PyData := .tuple [.int q.1, .int q.2]
def sortI (is : List (Int × Int)) : List (Int × Int) := is.mergeSort (PySem.W.dataLe false encI)
theorem each_pairs {H : Hp} : ∀ {ts : List Addr} {is : List (Int × Int)}, Paired (fun (t : Addr) (q : Int × Int) => H t = some (.tup [.int q.1, .int q.2])) ts is →
    PySem.W.EachIs (fun v (b : (Int × Int) × Addr) => v = Value.ref b.2 ∧ H b.2 = some (.tup [.int b.1.1, .int b.1.2])) (ts.map Value.ref) (is.zip ts) ∧ (is.zip ts).map (·.1) = is
  | _, _, .nil => ⟨.nil, rfl⟩
  | _, _, .cons (a := t) (b := q) h r => by
    obtain ⟨e1, e2⟩ := each_pairs r
    exact ⟨.cons ⟨rfl, h⟩ e1, by rw [List.zip_cons_cons, List.map_cons, e2]⟩
theorem each_is {H : Hp} : ∀ {out : List Value} {cs : List ((Int × Int) × Addr)}, PySem.W.EachIs (fun v (b : (Int × Int) × Addr) => v = Value.ref b.2 ∧ H b.2 = some (.tup [.int b.1.1, .int b.1.2])) out cs →
    ∃ ts : List Addr, out = ts.map Value.ref ∧ Paired (fun t (q : Int × Int) => H t = some (.tup [.int q.1, .int q.2])) ts (cs.map (·.1))
  | _, _, .nil => ⟨[], rfl, .nil⟩
  | _, _, .cons (b := b) h t => by
    obtain ⟨ts, rfl, pr⟩ := each_is t
    exact ⟨b.2 :: ts, by rw [h.1]; rfl, .cons h.2 pr⟩
theorem paired_dkv {H : Hp} : ∀ {ts : List Addr} {is : List (Int × Int)}, Paired (fun (t : Addr) (q : Key × V) => H t = some (.tup [kV q.1, q.2])) ts (dkv is) → Paired (fun (t : Addr) (q : Int × Int) => H t = some (.tup [.int q.1, .int q.2])) ts is
  | _, [], .nil => .nil
  | _, q :: is, .cons h r => .cons h (paired_dkv r)
section
variable {X : Cx}
theorem call_sortedItems (hcalm : X.calm = true) (hu : X.A.units + 64 < cLine) : CallR X (.builtin "sorted") (fun xs H Q => ∃ (p a : Addr) (is : List (Int × Int)), xs = [.ref p] ∧ H p = some (L2.DX.itemsO p a) ∧ H a = some (.dK (dkv is)) ∧
    ∀ (H' : Hp) (l : Addr) (ts : List Addr), Same H H' → H' l = some (.lst (ts.map V.ref)) → Paired (fun t (q : Int × Int) => H' t = some (.tup [.int q.1, .int q.2])) ts (sortI is) → Q (.ref l) H') := by
  intro pins s σ H xs us Q I r q
  obtain ⟨p, a, is, ex, hp, ha, q⟩ := q
  subst ex
  obtain ⟨u, eu, rx⟩ := vals1 r
  subst eu
  cases rx
  have view : s.heap.IsItemsView p a := (show ObjOk X.prog X.w H s.heap p (L2.DX.itemsO p a) from I.hok p _ hp).1
  obtain ⟨hz, hsys, vs, kv, dof⟩ := dk_of I.hok ha
  obtain ⟨ep, dat⟩ := dof.dictAt
  have l1 : (dkv is).length = vs.length := Paired.length kv
  have l2 : (dkv is).length = is.length := by unfold dkv; rw [List.length_map]
  refine Calls.call_function_entry PyProof.Rows.kind_sorted PyProof.Rows.plain_sorted PyProof.Rows.entry_sorted (PyProof.Rows.args_sorted1 _) ?_
  unfold Builtin.«sorted»
  refine wpAny_bind (m := checkCount "sorted" 1 1 _) (wpAny_pure ?_)
  refine wpAny_bind (PySem.W.kdx_collect (A := X.A.in1) (knd := mixKind X.prog X.w) (I.ok.hd hcalm) view dat (by omega) fun h' tk ts hk hl hG => ?_)
  obtain ⟨H1, s1, prs, I1⟩ := pairs_laid (tk := tk) I kv hk hl hG
  have pri := paired_dkv prs
  obtain ⟨each, ezip⟩ := each_pairs pri
  have lt : ts.length = is.length := Paired.length pri
  have hal : (ts.map Value.ref).length = is.length := by rw [List.length_map, lt]
  refine wpAny_bind (wpAny_newList ?_ (by rw [hal]; omega))
  have hoL : (h'.push (seqObj "list" (ts.map Value.ref).toArray 0)).get? h'.objs.size = some (seqObj "list" (ts.map Value.ref).toArray 0) := Heap.get?_push_size _ rfl
  show wpAny _ _ _ _ _ { s with heap := h'.push (seqObj "list" (ts.map Value.ref).toArray 0), toks := tk }
  have lb : (is.zip ts).length = is.length := by rw [List.length_zip]; omega
  have rd : PySem.W.EachIs (fun v (b : (Int × Int) × Addr) => ∃ as, Reads (h'.push (seqObj "list" (ts.map Value.ref).toArray 0)) v (encI b.1) as ∧ h'.objs.size ∉ as) (ts.map Value.ref) (is.zip ts) := by
    refine each.mono fun v b ⟨e1, e2⟩ => ?_
    obtain ⟨us, rv, ⟨o2, q1, q2, n2, q3⟩, _⟩ := I1.tuple (SqT.of e2)
    cases rv with
    | cons ra rb =>
      cases rb with
      | cons rb rc =>
        cases rc
        obtain ⟨t, rfl⟩ := ra
        obtain ⟨t2, rfl⟩ := rb
        rw [e1]
        exact ⟨_, .tuple (Heap.get?_push_of_some _ q1) q2 q3 (.cons (.int _ _) (.cons (.int _ _) .nil)), by simp⟩
  refine wpAny_bind (wpAny_holding (PySem.W.list_sort_data (enc := fun b : (Int × Int) × Addr => encI b.1) (s := { s with heap := h'.push (seqObj "list" (ts.map Value.ref).toArray 0), toks := tk }) hoL each rd (PySem.W.AllAlike.of fun b c => rfl) (PySem.W.Sortable.tuples fun b => ⟨_, _, rfl⟩) (by omega) (fun b _ => ?_) fun out lo2 eo => ?_))
  · show X.A.units + 1 + 1 + (encI b.1).depth < cLine
    have : (encI b.1).depth ≤ 2 := by simp [encI, PyData.depth, PyData.depthAll]
    omega
  · obtain ⟨e', he'⟩ := PyProof.Rows.sortedHeap_at (vs := ts.map Value.ref) (out := out.toArray) hoL
    have em : ((is.zip ts).mergeSort (PySem.W.dataLe false fun b : (Int × Int) × Addr => encI b.1)).map (·.1) = sortI is := by
      have : sortI ((is.zip ts).map (·.1)) = sortI is := by rw [ezip]
      rw [← this]
      exact List.map_mergeSort fun _ _ _ _ => rfl
    generalize ((is.zip ts).mergeSort (PySem.W.dataLe false fun b : (Int × Int) × Addr => encI b.1)) = cs at eo em
    obtain ⟨us, rfl, pts⟩ := each_is eo
    rw [em] at pts
    have hlen : (us.map V.ref).length ≤ sizeLine := by
      rw [List.length_map] at lo2 ⊢
      omega
    have nf : H1 h'.objs.size = none := I1.hok.fresh (Nat.le_refl _)
    have s2 := same_upd (o := .lst (us.map V.ref)) nf
    refine wpAny_pure ⟨_, rfl, .ref h'.objs.size, upd H1 h'.objs.size (.lst (us.map V.ref)), I1.laid (t' := tk) (fun b u e => ?_) (Nat.le_refl _)
      (show ObjOk X.prog X.w _ _ _ (.lst (us.map V.ref)) from ⟨hlen, us.map Value.ref, e', GL.vals_refs us, he'⟩), rfl, q _ _ us (s1.trans s2) upd_same (Paired.mapP pts fun _ _ e => s2 _ _ e)⟩
    have hb : b < h'.objs.size := Heap.lt_size e
    rw [PyProof.Rows.sortedHeap_old (Nat.ne_of_lt hb) (by rw [size_push']; exact Nat.lt_succ_of_lt hb)]
    exact Heap.get?_push_of_some _ e
end
/-- sorted pairs: the keys ascend -/
theorem sortI_perm (is : List (Int × Int)) : (sortI is).Perm is := List.mergeSort_perm _ _
theorem sortI_asc (is : List (Int × Int)) : (sortI is).Pairwise fun a b => a.1 ≤ b.1 := by
  unfold sortI
  have e : PySem.W.dataLe false encI = fun p q : Int × Int => decide (p.1 < q.1 ∨ (p.1 = q.1 ∧ p.2 ≤ q.2)) := PySem.W.dataLe_ii (fun q : Int × Int => q.1) (fun q => q.2)
  rw [e]
  refine List.Pairwise.imp (fun {a b} h => ?_) (List.pairwise_mergeSort (le := fun p q : Int × Int => decide (p.1 < q.1 ∨ (p.1 = q.1 ∧ p.2 ≤ q.2))) (fun a b c h1 h2 => ?_) (fun a b => ?_) is)
  · have := of_decide_eq_true h
    omega
  · have h1 := of_decide_eq_true h1
    have h2 := of_decide_eq_true h2
    exact decide_eq_true (by omega)
  · rw [Bool.or_eq_true]
    by_cases h : a.1 < b.1 ∨ (a.1 = b.1 ∧ a.2 ≤ b.2)
    · exact .inl (decide_eq_true h)
    · exact .inr (decide_eq_true (by omega))
end K5
namespace K5
open PySem PySem.Spec PyProof.Rows L2
/-! ### lists that differ in length -/
def rEqLen (K : PySem.W.Frag) : R2 := fun x y H Q => ∃ a b xs ys, x = .ref a ∧ y = .ref b ∧ SqL K H a xs ∧ SqL K H b ys ∧ xs.length ≠ ys.length ∧ Q (.bl false) H
theorem op_eqLen {X : Cx} (hu : X.A.units + 64 < cLine) : OpR X (compareOp .Eq) (rEqLen X.K) := by
  intro pins s σ H x y v u Q I rx ry h
  obtain ⟨a, b, xs, ys, rfl, rfl, ha, hb, ne, q⟩ := h
  cases rx
  cases ry
  obtain ⟨its, rv, p, _⟩ := I.list ha
  obtain ⟨its2, rv2, p2, _⟩ := I.list hb
  have l1 := rv.length
  have l2 := rv2.length
  refine SeqAt.eq_list_lengthsAt (items := its.toArray) (items2 := its2.toArray) p.isList p2.isList ?_ (by omega) ⟨.bl false, H, I, rfl, q⟩
  rw [bne_iff_ne, List.size_toArray, List.size_toArray]
  omega
/-! ### what the law's rows hold -/
structure LoI (o : LO) : Prop where
  n : (o.map (·.1)).Nodup
  b : ∀ q ∈ o, -2 ≤ q.1 ∧ q.1 < 4
theorem lWorths_in {m : Nat} (hm : m ≤ 4) {z : Str} : ∀ w ∈ lWorths m z, 0 ≤ w ∧ w < (m : Int) := fun w hw => by
  unfold lWorths at hw
  split at hw
  · obtain ⟨n, hn, rfl⟩ := List.mem_map.mp hw
    have := List.mem_range.mp hn
    show 0 ≤ (n : Int) ∧ (n : Int) < m
    omega
  · split at hw
    · split at hw
      · rw [List.mem_singleton.mp hw]
        omega
      · cases hw
    · cases hw
theorem lAnswers_in {m : Nat} (hm : m ≤ 4) {z : Str} : ∀ w ∈ lAnswers m z, -2 ≤ w ∧ w < 4 := fun w hw => by
  unfold lAnswers at hw
  split at hw
  · rw [List.mem_singleton.mp hw]
    omega
  · split at hw
    · rw [List.mem_singleton.mp hw]
      omega
    · have := lWorths_in hm w hw
      omega
theorem lOuts_ok {m : Nat} (hm : m ≤ 4) : ∀ (ps : List (Str × Str)) (acc o : LO), LoI acc → lOuts m ps acc = some o → LoI o ∧ acc.length ≤ o.length ∧ (ps ≠ [] → o ≠ [])
  | [], acc, o, h, e => by
    have e : some acc = some o := e
    rw [← Option.some.inj e]
    exact ⟨h, Nat.le_refl _, fun c => absurd rfl c⟩
  | (aw, ew) :: r, acc, o, h, e => by
    have e : (match lNum (if r = [] then ew else cutS ew none (some (-1))) with
      | none => none
      | some later => if (r ≠ [] ∧ cutS ew (some (-1)) none ≠ ",") ∨ lAnswers m aw = [] ∨ (∃ a ∈ lAnswers m aw, a ∈ acc.map (·.1)) then none else lOuts m r (acc ++ (lAnswers m aw).map fun a => (a, later))) = some o := e
    split at e
    · cases e
    · rename_i later _
      split at e
      · cases e
      · rename_i c
        have c1 : lAnswers m aw ≠ [] := fun z => c (.inr (.inl z))
        have c2 : ∀ a ∈ lAnswers m aw, a ∉ acc.map (·.1) := fun a ha hm => c (.inr (.inr ⟨a, ha, hm⟩))
        have keys : (acc ++ (lAnswers m aw).map fun a => (a, later)).map (·.1) = acc.map (·.1) ++ lAnswers m aw := by
          rw [List.map_append, List.map_map]
          congr 1
          show List.map (fun a => a) _ = _
          simp
        obtain ⟨k1, k2, _⟩ := lOuts_ok hm r _ o ⟨by
          rw [keys, List.nodup_append]
          exact ⟨h.n, lAnswers_nodup.1, fun a ha b hb e => c2 b hb (e ▸ ha)⟩, fun q hq => by
          rcases List.mem_append.mp hq with hq | hq
          · exact h.b q hq
          · obtain ⟨a, ha, rfl⟩ := List.mem_map.mp hq
            exact lAnswers_in hm a ha⟩ e
        rw [List.length_append, List.length_map] at k2
        have := List.length_pos_iff.mpr c1
        refine ⟨k1, by omega, fun _ z => ?_⟩
        rw [z, List.length_nil] at k2
        omega
structure RwI (q : Str × List Int × LO) : Prop where
  o : LoI q.2.2
  ne : q.2.2 ≠ []
  wn : q.2.1.Nodup
  w0 : q.2.1 ≠ []
  wb : ∀ w ∈ q.2.1, 0 ≤ w ∧ w < 4
  wl : q.2.1.length ≤ 4
  dl : q.1.length ≤ 8
  da : lowAll q.1 = true
theorem lRow_ok {m : Nat} (hm : m ≤ 4) {ws : List Str} {q : Str × List Int × LO} (h : lRow m ws = some q) : RwI q := by
  by_cases c5 : ws.length < 5
  · rw [lRow_few c5] at h
    cases h
  · obtain ⟨a, b, c, d, e, r, rfl⟩ := five_of c5
    have hrow : lRow m (a :: b :: c :: d :: e :: r) = if c ≠ "->" ∨ (a :: b :: c :: d :: e :: r).length % 2 = 0 ∨ a = "any" ∨ ¬ (1 ≤ a.length ∧ a.length ≤ 8) ∨ lowAll a = false then none else match lOuts m ((ev2 (d :: e :: r)).zip (ev2 (e :: r))) [] with
        | none => none
        | some o => if lWorths m b = [] then none else some (a, lWorths m b, o) := rfl
    rw [hrow] at h
    split at h
    · cases h
    · rename_i cc
      split at h
      · cases h
      · rename_i o ho
        split at h
        · cases h
        · rename_i hw
          rw [← Option.some.inj h]
          obtain ⟨k1, k2, k3⟩ := lOuts_ok hm _ [] o ⟨List.nodup_nil, fun _ h => nomatch h⟩ ho
          refine ⟨k1, k3 (by
            rw [show ev2 (d :: e :: r) = d :: ev2 r from rfl]
            cases r with
            | nil => exact fun z => nomatch z
            | cons x r => exact fun z => nomatch z), lWorths_nodup.1, hw, fun w hw => by have := lWorths_in hm w hw; omega, lWorths_nodup.2 hm, ?_, ?_⟩
          · show a.length ≤ 8
            by_cases c : 1 ≤ a.length ∧ a.length ≤ 8
            · exact c.2
            · exact absurd (.inr (.inr (.inr (.inl c)))) cc
          · show lowAll a = true
            cases cl : lowAll a with
            | true => rfl
            | false => exact absurd (.inr (.inr (.inr (.inr cl)))) cc
/-! ### keys of a state -/
theorem mergeT_tkv : ∀ (new zs : ZA), (new.map (·.1)).Nodup → (∀ k ∈ new.map (·.1), k ∉ zs.map (·.1)) → mergeT (tkv zs) (tkv new) = tkv (zs ++ new)
  | [], zs, _, _ => by rw [List.append_nil]; rfl
  | z :: new, zs, nd, h => by
    rw [List.map_cons, List.nodup_cons] at nd
    show mergeT (putK (tkv zs) (keyV z.1) (.ref z.2.1)) (tkv new) = _
    rw [tkv_put (os := z.2.2) (h z.1 (List.mem_cons_self ..)), mergeT_tkv new (zs ++ [(z.1, z.2.1, z.2.2)]) nd.2 fun k hk hm => ?_, List.append_assoc]
    · rfl
    · rw [List.map_append] at hm
      rcases List.mem_append.mp hm with hm | hm
      · exact h k (List.mem_cons_of_mem _ hk) hm
      · rw [List.mem_singleton.mp hm] at hk
        exact nd.1 hk
/-- what is new in a state by a row -/
def newZ (q : Str × List Int × LO) (e : Addr) : ZA := q.2.1.map fun w => ((q.1, w), e, lI q.2.2)
theorem newZ_keys (q : Str × List Int × LO) (e : Addr) : (newZ q e).map (·.1) = q.2.1.map fun w => (q.1, w) := by
  unfold newZ
  rw [List.map_map]
  rfl
theorem newZ_nodup {q : Str × List Int × LO} (h : q.2.1.Nodup) (e : Addr) : ((newZ q e).map (·.1)).Nodup := by
  rw [newZ_keys]
  exact List.Pairwise.map (fun w => (q.1, w)) (fun a b h e => h (by injection e)) h
theorem newZ_map (f : List Key → Int) (q : Str × List Int × LO) (e : Addr) : ((tkv (newZ q e)).map fun p => f p.1) = (q.2.1.map fun i => ([.inr q.1, .inl i] : List Key)).map f := by
  unfold tkv newZ
  rw [List.map_map, List.map_map, List.map_map]
  rfl
theorem newZ_hash {P : Program} {w : World} {q : Str × List Int × LO} (h : RwI q) (e : Addr) : ((tkv (newZ q e)).map fun p => (tupleKind (mixKind P w)).hash p.1).Nodup := by
  rw [newZ_map]
  exact hashes_nodup (P := P) (w := w) q.1 h.wn h.wb
/-- a finished state: a dict of dicts -/
def StK (H : Hp) (d : Addr) (os : StA) : Prop := ∃ zs : ZA, H d = some (.dT (tkv zs)) ∧ zacc zs = os ∧ (zs.map (·.1)).Nodup ∧ ∀ z ∈ zs, H z.2.1 = some (.dK (dkv z.2.2))
theorem StK.same {H H' : Hp} (s : Same H H') {d : Addr} {os : StA} (h : StK H d os) : StK H' d os := by
  obtain ⟨zs, h1, h2, h3, h4⟩ := h
  exact ⟨zs, s _ _ h1, h2, h3, fun z hz => s _ _ (h4 z hz)⟩
theorem StK.upd {H : Hp} {x d : Addr} {o o' : HO} {os : StA} (h : StK H d os) (hx : H x = some o) (nk : ∀ kvs, o ≠ .dK kvs) (nd : x ≠ d) : StK (upd H x o') d os := by
  obtain ⟨zs, h1, h2, h3, h4⟩ := h
  refine ⟨zs, by rw [upd_ne nd.symm]; exact h1, h2, h3, fun z hz => ?_⟩
  have := h4 z hz
  rw [upd_ne fun e => ?_]
  · exact this
  · rw [e, hx] at this
    exact nk _ (Option.some.inj this)
def MaxOf (mx : Int) (lo : LO) : Prop := mx ∈ (lI lo).map (·.2) ∧ ∀ y ∈ (lI lo).map (·.2), y ≤ mx
def PrK (H : Hp) (u : Addr) (q : Nat × LO) : Prop := ∃ mx : Int, H u = some (.tup [.int (q.1 : Nat), .int mx]) ∧ MaxOf mx q.2
theorem PrK.keep {H H' : Hp} (k : TKeep H H') {u : Addr} {q : Nat × LO} (h : PrK H u q) : PrK H' u q := by
  obtain ⟨mx, h1, h2⟩ := h
  exact ⟨mx, k _ _ h1, h2⟩
structure PO (H0 H' : Hp) (r s rr : Addr) (rows : List Str) (ds : List Addr) (oss : List StA) (us : List Addr) (RR : List (Nat × LO)) : Prop where
  sm : Same H0 H'
  h0 : H0 r = some (.lst (rows.map V.str))
  hs : H' s = some (.lst (ds.map V.ref))
  hu : H' rr = some (.lst (us.map V.ref))
  st : Paired (StK H') ds oss
  pr : Paired (PrK H') us RR
  ns : H0 s = none
  nu : H0 rr = none
  ne : s ≠ rr
section
variable {H0 H1 H2 : Hp} {r s rr : Addr} {rows : List Str} {ds us : List Addr} {oss : List StA} {RR : List (Nat × LO)}
theorem PO.hr (h : PO H0 H1 r s rr rows ds oss us RR) : H1 r = some (.lst (rows.map V.str)) := h.sm _ _ h.h0
theorem PO.same (h : PO H0 H1 r s rr rows ds oss us RR) (e : Same H1 H2) : PO H0 H2 r s rr rows ds oss us RR := ⟨h.sm.trans e, h.h0, e _ _ h.hs, e _ _ h.hu, Paired.mapP h.st fun _ _ x => x.same e, Paired.mapP h.pr fun _ _ x => x.keep (TKeep.same e), h.ns, h.nu, h.ne⟩
theorem StK.at {H : Hp} {d : Addr} {os : StA} (h : StK H d os) : ∃ kvs, H d = some (.dT kvs) := let ⟨zs, h1, _⟩ := h; ⟨_, h1⟩
theorem mem_st {H : Hp} : ∀ {ds : List Addr} {oss : List StA}, Paired (StK H) ds oss → ∀ d ∈ ds, ∃ kvs, H d = some (.dT kvs)
  | _, _, .cons x r, d, h => by
    rcases List.mem_cons.mp h with e | h
    · rw [e]
      exact x.at
    · exact mem_st r d h
theorem paired_on {α β : Type} {R S : α → β → Prop} : ∀ {l : List α} {m : List β}, Paired R l m → (∀ a ∈ l, ∀ b, R a b → S a b) → Paired S l m
  | _, _, .nil, _ => .nil
  | _, _, .cons x r, h => .cons (h _ (List.mem_cons_self ..) _ x) (paired_on r fun a ha b => h a (List.mem_cons_of_mem _ ha) b)
/-- the dict that is being filled is written -/
theorem PO.updD {d : Addr} {kvs kvs' : List (List Key × V)} (h : PO H0 H1 r s rr rows ds oss us RR) (hd : H1 d = some (.dT kvs)) (nd : H0 d = none) (nm : d ∉ ds) : PO H0 (upd H1 d (.dT kvs')) r s rr rows ds oss us RR := by
  have ne1 : s ≠ d := fun e => by
    have := h.hs
    rw [e, hd] at this
    cases this
  have ne2 : rr ≠ d := fun e => by
    have := h.hu
    rw [e, hd] at this
    cases this
  exact ⟨fun b o e => by rw [upd_ne (ne_of_none e nd)]; exact h.sm b o e, h.h0, by rw [upd_ne ne1]; exact h.hs,
    by rw [upd_ne ne2]; exact h.hu, paired_on h.st fun a ha b x => x.upd hd (fun _ c => nomatch c) (fun e => nm (e ▸ ha)), Paired.mapP h.pr fun _ _ x => x.keep fun b xs e => by
      rw [upd_ne fun c => by rw [c, hd] at e; cases e]
      exact e, h.ns, h.nu, h.ne⟩
theorem PO.pushU {u : Addr} {q : Nat × LO} (h : PO H0 H1 r s rr rows ds oss us RR) (hu : PrK H1 u q) : PO H0 (upd H1 rr (.lst (us.map V.ref ++ [.ref u]))) r s rr rows ds oss (us ++ [u]) (RR ++ [q]) :=
  ⟨fun b o e => by rw [upd_ne (ne_of_none e h.nu)]; exact h.sm b o e, h.h0, by rw [upd_ne h.ne]; exact h.hs, by rw [List.map_append]; exact upd_same, paired_on h.st fun a ha b x => x.upd h.hu (fun _ c => nomatch c) (fun e => by
      obtain ⟨kvs, hk⟩ := x.at
      rw [← e, h.hu] at hk
      cases hk), by
    have tk : TKeep H1 (upd H1 rr (.lst (us.map V.ref ++ [.ref u]))) := TKeep.but (SameBut.upd rr H1 _) h.hu
    exact paired_app (Paired.mapP h.pr fun _ _ x => x.keep tk) (hu.keep tk), h.ns, h.nu, h.ne⟩
theorem PO.pushS {d : Addr} {os : StA} (h : PO H0 H1 r s rr rows ds oss us RR) (hd : StK H1 d os) : PO H0 (upd H1 s (.lst (ds.map V.ref ++ [.ref d]))) r s rr rows (ds ++ [d]) (oss ++ [os]) us RR := by
  have k : ∀ {d : Addr} {os : StA}, StK H1 d os → StK (upd H1 s (.lst (ds.map V.ref ++ [.ref d]))) d os := fun {d os} x => x.upd h.hs (fun _ c => nomatch c) (fun e => by
      obtain ⟨kvs, hk⟩ := x.at
      rw [← e, h.hs] at hk
      cases hk)
  have k2 : ∀ {d' : Addr} {os : StA}, StK H1 d' os → StK (upd H1 s (.lst (ds.map V.ref ++ [.ref d]))) d' os := fun {d' os} x => x.upd h.hs (fun _ c => nomatch c) (fun e => by
      obtain ⟨kvs, hk⟩ := x.at
      rw [← e, h.hs] at hk
      cases hk)
  exact ⟨fun b o e => by rw [upd_ne (ne_of_none e h.ns)]; exact h.sm b o e, h.h0, by rw [List.map_append]; exact upd_same, by rw [upd_ne h.ne.symm]; exact h.hu, paired_app (Paired.mapP h.st fun _ _ x => k2 x) (k hd), Paired.mapP h.pr fun _ _ x => x.keep (TKeep.but (SameBut.upd s H1 _) h.hs), h.ns, h.nu, h.ne⟩
end
end K5
namespace K5
open PySem PySem.Spec PyProof.Rows L2
section
variable {K : PySem.W.Frag}
abbrev tWd (K : PySem.W.Frag) (dp : Int) : TE := tIf (tTest (tOp (rI0 fun i j => V.bl (decide (i < j))) (tVar 4) (tCB (rLenSq K) (tCons (tVar 1) tNil)))) (tCall spLWords [] E0 (tCons (tOp (rIxL K) (tVar 1) (tVar 4)) (tCons (tC (.int dp)) tNil))) (tC .non)
theorem words_run {σ : L2.St} {H : Hp} {Q : VK} {r : Addr} {rows : List Str} {at_ dp : Nat} (h1 : σ[1]? = some (some (.ref r))) (h4 : σ[4]? = some (some (.int (at_ : Nat)))) (hr : H r = some (.lst (rows.map V.str))) (zl : ∀ z ∈ rows, z.length ≤ 14000) (d3 : dp ≤ 3)
    (k : ∀ (H' : Hp) (x : V), Same H H' → OW H' x ((rows[at_]?).bind fun z => lWords z dp) → Q x H') : tWd K dp σ H Q := by
  refine (ans_i0 (val_var h4) (val_lenL (val_var h1) (SqL.of hr))) _ ?_
  rw [List.length_map]
  by_cases c : at_ < rows.length
  · rw [decide_eq_true (show ((at_ : Nat) : Int) < (rows.length : Int) by omega)]
    refine iteT ?_
    have e : rows[at_]? = some rows[at_] := List.getElem?_eq_getElem c
    dsimp only [tCall, tCons, tNil]
    refine (val_ixL (val_var h1) (val_var h4) (SqL.of hr) (atI_nat (j := at_) (by rw [List.getElem?_map, e]; rfl))) _ ?_
    refine val_c _ ⟨rows[at_], dp, rfl, zl _ (List.getElem_mem c), d3, fun H' x s ow => k H' x s ?_⟩
    rw [e]
    exact ow
  · rw [decide_eq_false (show ¬ ((at_ : Nat) : Int) < (rows.length : Int) by omega)]
    refine iteF (val_c _ (k H _ (Same.refl _) ?_))
    rw [List.getElem?_eq_none (by omega)]
    exact rfl
abbrev rowIx (K : PySem.W.Frag) (i : Nat) : TE := tOp (rIxT K) (tVar 7) (tC (.int (i : Nat)))
theorem row_ix {σ : L2.St} {H : Hp} {p : Addr} {xs : List V} {v : V} {i : Nat} (h7 : σ[7]? = some (some (.ref p))) (hp : H p = some (.tup xs)) (e : xs[i]? = some v) : Val (rowIx K i) σ H v := fun Q q =>
  (val_var h7) _ (val_c _ ⟨p, xs, _, v, rfl, rfl, SqT.of hp, atI_nat e, q⟩)
theorem ints_at {ws : List Int} {j : Nat} {x : V} (h : (ws.map V.int)[j]? = some x) : ∃ w, ws[j]? = some w ∧ x = .int w ∧ j < ws.length := by
  rw [List.getElem?_map] at h
  cases e : ws[j]? with
  | none => rw [e] at h; cases h
  | some w => rw [e] at h; exact ⟨w, rfl, (Option.some.inj h).symm, (List.getElem?_eq_some_iff.mp e).1⟩
theorem dup_lc {v0 v1 v2 v3 v4 v5 v8 : Option V} {p u e d : Addr} {a : Str} {ws : List Int} {zs : ZA} {H : Hp} {Q : VK} (hp : H p = some (.tup [.str a, .ref u, .ref e])) (hu : H u = some (.lst (ws.map V.int))) (hd : H d = some (.dT (tkv zs))) (wl : ws.length ≤ 4)
    (k : ∀ (H' : Hp) (D : Addr) (ys : List Int), Same H H' → H' D = some (.lst (ys.map V.int)) → (ys = [] ↔ ∀ w ∈ ws, (a, w) ∉ zs.map (·.1)) → Q (.ref D) H') :
    tLc (iList K (rowIx K 1)) (gName 8) (tB (tDIn (tTup (tCons (rowIx K 0) (tCons (tVar 8) tNil))) (tVar 6))) (tVar 8) [8] [v0, v1, v2, v3, v4, v5, some (.ref d), some (.ref p), v8] H Q := by
  dsimp only [tLc, iList]
  refine (row_ix rfl hp rfl) _ ⟨u, rfl, ⟨_, SqL.of hu⟩, fun D nD => ?_⟩
  refine lc_list (K := K) (a := u) (xs := ws.map V.int) (fun i H' => Same H H' ∧ ∃ ys : List Int, H' D = some (.lst (ys.map V.int)) ∧ ys.length ≤ i ∧ (ys = [] ↔ ∀ w ∈ ws.take i, (a, w) ∉ zs.map (·.1))) ⟨same_upd nD, [], upd_same, Nat.zero_le _, ⟨fun _ w hw => (nomatch hw), fun _ => rfl⟩⟩ (fun i H5 _ ⟨s5, _⟩ => SqL.of (s5 _ _ hu)) (fun i x H5 ex hI => ?_) fun H5 hI => ?_
  · obtain ⟨s5, ys, hD, ly, iff⟩ := hI
    obtain ⟨w, ej, rfl, ilt⟩ := ints_at ex
    have tk : ws.take (i + 1) = ws.take i ++ [w] := by
      rw [List.take_succ, ej]
      rfl
    dsimp only [gName]
    refine ⟨rfl, ?_⟩
    dsimp only [tB, tDIn, tTup, tCons, tNil]
    refine (row_ix rfl (s5 _ _ hp) rfl) _ ((val_var rfl) _ ⟨by show 2 ≤ sizeLine; decide, fun q nq => ?_⟩)
    have s6 := same_upd (o := .tup [.str a, .int w]) nq
    have hq : (upd H5 q (.tup [.str a, .int w])) q = some (.tup [.str a, .int w]) := upd_same
    generalize (upd H5 q (.tup [.str a, .int w])) = H6 at s6 hq ⊢
    have s46 := s5.trans s6
    refine (val_var rfl) _ ⟨d, _, rfl, DGet.t (k := keyV (a, w)) (s46 _ _ hd) hq, ⟨_, rfl, ?_⟩⟩
    rw [tkv_some]
    by_cases mem : (a, w) ∈ zs.map (·.1)
    · rw [decide_eq_true mem]
      refine iteT ?_
      refine (val_var rfl) _ ⟨ys.map V.int, s6 _ _ hD, by rw [List.length_map]; exact Nat.lt_of_le_of_lt ly (Nat.lt_trans (show i < 5 by omega) (by decide)), fun b o e => ?_, ys ++ [w], by rw [List.map_append]; exact upd_same, by rw [List.length_append]; exact Nat.succ_le_succ ly, ⟨fun h => absurd h (by simp), fun h => ?_⟩⟩
      · rw [upd_ne (ne_of_none e nD)]
        exact s46 b o e
      · exact absurd mem (h w (by rw [tk]; exact List.mem_append_right _ (List.mem_singleton.mpr rfl)))
    · rw [decide_eq_false mem]
      refine iteF ⟨s46, ys, s6 _ _ hD, Nat.le_succ_of_le ly, iff.trans ⟨fun h w' hw' => ?_, fun h w' hw' => h w' (by rw [tk]; exact List.mem_append_left _ hw')⟩⟩
      rw [tk] at hw'
      rcases List.mem_append.mp hw' with hw' | hw'
      · exact h w' hw'
      · rw [List.mem_singleton.mp hw']
        exact mem
  · obtain ⟨s5, ys, hD, ly, iff⟩ := hI
    rw [List.length_map, List.take_length] at iff
    exact k H5 D ys s5 hD iff
theorem new_lc {v0 v1 v2 v3 v4 v5 v6 v8 : Option V} {p u e : Addr} {q : Str × List Int × LO} {H : Hp} {Q : VK} (hp : H p = some (.tup [.str q.1, .ref u, .ref e])) (hu : H u = some (.lst (q.2.1.map V.int))) (wl : q.2.1.length ≤ 4)
    (k : ∀ (H' : Hp) (D : Addr) (zz : List (Addr × List Key × Addr × V)), Same H H' → H' D = some (.lst (zz.map fun z => V.ref z.1)) → (∀ z ∈ zz, H' z.1 = some (.tup [.ref z.2.2.1, z.2.2.2]) ∧ H' z.2.2.1 = some (.tup (z.2.1.map kV))) → zz.map (fun z => (z.2.1, z.2.2.2)) = tkv (newZ q e) → Q (.ref D) H') :
    tLc (iList K (rowIx K 1)) (gName 8) tYes (tTup (tCons (tTup (tCons (rowIx K 0) (tCons (tVar 8) tNil))) (tCons (rowIx K 2) tNil))) [8] [v0, v1, v2, v3, v4, v5, v6, some (.ref p), v8] H Q := by
  dsimp only [tLc, iList]
  refine (row_ix rfl hp rfl) _ ⟨u, rfl, ⟨_, SqL.of hu⟩, fun D nD => ?_⟩
  refine lc_list (K := K) (a := u) (xs := q.2.1.map V.int) (fun i H' => Same H H' ∧ ∃ zz : List (Addr × List Key × Addr × V), H' D = some (.lst (zz.map fun z => V.ref z.1)) ∧ (∀ z ∈ zz, H' z.1 = some (.tup [.ref z.2.2.1, z.2.2.2]) ∧ H' z.2.2.1 = some (.tup (z.2.1.map kV))) ∧ zz.map (fun z => (z.2.1, z.2.2.2)) = tkv ((newZ q e).take i) ∧ zz.length = i)
    ⟨same_upd nD, [], upd_same, (fun _ h => nomatch h), rfl, rfl⟩ (fun i H5 _ ⟨s5, _⟩ => SqL.of (s5 _ _ hu)) (fun i x H5 ex hI => ?_) fun H5 hI => ?_
  · obtain ⟨s5, zz, hD, hz, ez, lz⟩ := hI
    obtain ⟨w, ej, rfl, ilt⟩ := ints_at ex
    dsimp only [gName]
    refine ⟨rfl, ?_⟩
    dsimp only [tYes]
    rw [if_pos rfl]
    dsimp only [tTup, tCons, tNil]
    refine (row_ix rfl (s5 _ _ hp) rfl) _ ((val_var rfl) _ ⟨by show 2 ≤ sizeLine; decide, fun t nt => ?_⟩)
    have s6 := same_upd (o := .tup [.str q.1, .int w]) nt
    have ht : (upd H5 t (.tup [.str q.1, .int w])) t = some (.tup [.str q.1, .int w]) := upd_same
    generalize (upd H5 t (.tup [.str q.1, .int w])) = H6 at s6 ht ⊢
    refine (row_ix rfl (s6 _ _ (s5 _ _ hp)) rfl) _ ⟨by show 2 ≤ sizeLine; decide, fun t2 nt2 => ?_⟩
    have s7 := same_upd (o := .tup [.ref t, .ref e]) nt2
    have ht2 : (upd H6 t2 (.tup [.ref t, .ref e])) t2 = some (.tup [.ref t, .ref e]) := upd_same
    generalize (upd H6 t2 (.tup [.ref t, .ref e])) = H7 at s7 ht2 ⊢
    have hD7 := s7 _ _ (s6 _ _ hD)
    have s57 := s5.trans (s6.trans s7)
    have en : (newZ q e)[i]? = some ((q.1, w), e, lI q.2.2) := by
      unfold newZ
      rw [List.getElem?_map, ej]
      rfl
    have tk : (newZ q e).take (i + 1) = (newZ q e).take i ++ [((q.1, w), e, lI q.2.2)] := by
      rw [List.take_succ, en]
      rfl
    have tup : TKeep H7 (upd H7 D (.lst ((zz.map fun z => V.ref z.1) ++ [.ref t2]))) := TKeep.but (SameBut.upd D H7 _) hD7
    refine ⟨_, hD7, by rw [List.length_map, lz]; exact Nat.lt_trans (show i < 5 by omega) (by decide), fun b o e => ?_, zz ++ [(t2, keyV (q.1, w), t, .ref e)], by rw [List.map_append]; exact upd_same, fun z hz' => ?_, ?_, by rw [List.length_append, lz]; rfl⟩
    · rw [upd_ne (ne_of_none e nD)]
      exact s57 b o e
    · rcases List.mem_append.mp hz' with hz' | hz'
      · obtain ⟨h1, h2⟩ := hz z hz'
        exact ⟨tup _ _ (s7 _ _ (s6 _ _ h1)), tup _ _ (s7 _ _ (s6 _ _ h2))⟩
      · rw [List.mem_singleton.mp hz']
        exact ⟨tup _ _ ht2, tup _ _ (s7 _ _ ht)⟩
    · rw [List.map_append, ez, tk]
      unfold tkv
      rw [List.map_append]
      rfl
  · obtain ⟨s5, zz, hD, hz, ez, lz⟩ := hI
    rw [List.length_map, List.take_of_length_le (by unfold newZ; rw [List.length_map]; exact Nat.le_refl _)] at ez
    exact k H5 D zz s5 hD hz ez
end
end K5
namespace K5
open PySem PySem.Spec PyProof.Rows L2
/-! ### a state is read, by the law -/
section
variable {m at_ : Nat} {rows : List Str} {acc : StL} {ws : List Str}
theorem lSt_none (h : ((rows[at_]?).bind fun z => lWords z 1) = none) : lSt m (rows.drop at_) at_ acc = ⟨acc, at_, [], false⟩ := by
  cases e : rows[at_]? with
  | none =>
    rw [List.drop_eq_nil_of_le (List.getElem?_eq_none_iff.mp e)]
    rfl
  | some z =>
    rw [e] at h
    have h : lWords z 1 = none := h
    rw [drop_cons e]
    show (match lWords z 1 with
      | none => (⟨acc, at_, [], false⟩ : LR)
      | some ws => _) = _
    rw [h]
theorem lSt_some (h : ((rows[at_]?).bind fun z => lWords z 1) = some ws) : at_ < rows.length ∧ (∃ z, rows[at_]? = some z ∧ lWords z 1 = some ws) ∧ lSt m (rows.drop at_) at_ acc = match lRow m ws with
    | none => ⟨acc, at_, [], true⟩
    | some q => if ∀ w ∈ q.2.1, (q.1, w) ∉ acc.map (·.1) then
        ⟨(lSt m (rows.drop (at_ + 1)) (at_ + 1) (acc ++ q.2.1.map fun w => ((q.1, w), q.2.2))).st, (lSt m (rows.drop (at_ + 1)) (at_ + 1) (acc ++ q.2.1.map fun w => ((q.1, w), q.2.2))).at_, (at_, q.2.2) :: (lSt m (rows.drop (at_ + 1)) (at_ + 1) (acc ++ q.2.1.map fun w => ((q.1, w), q.2.2))).rows, (lSt m (rows.drop (at_ + 1)) (at_ + 1) (acc ++ q.2.1.map fun w => ((q.1, w), q.2.2))).bad⟩
      else ⟨acc, at_, [], true⟩ := by
  cases e : rows[at_]? with
  | none =>
    rw [e] at h
    cases h
  | some z =>
    rw [e] at h
    have h : lWords z 1 = some ws := h
    refine ⟨(List.getElem?_eq_some_iff.mp e).1, ⟨z, rfl, h⟩, ?_⟩
    rw [drop_cons e]
    show (match lWords z 1 with
      | none => (⟨acc, at_, [], false⟩ : LR)
      | some ws => _) = _
    rw [h]
    all_goals rfl
end
/-- what _law_parted returns -/
def ParAt (H : Hp) (t : Addr) (oss : List StA) (wr : Option Nat) (RR : List (Nat × LO)) : Prop := ∃ (s rr : Addr) (ds us : List Addr), H t = some (.tup [.ref s, optV wr, .ref rr]) ∧ H s = some (.lst (ds.map V.ref)) ∧ Paired (StK H) ds oss ∧ H rr = some (.lst (us.map V.ref)) ∧ Paired (PrK H) us RR
structure IS (m : Nat) (H0 : Hp) (r s rr d : Addr) (rows : List Str) (ds : List Addr) (oss : List StA) (F : LR) (RR0 : List (Nat × LO)) (H' : Hp) (at_ : Nat) (us : List Addr) (zs : ZA) (acc : StL) (RR : List (Nat × LO)) : Prop where
  po : PO H0 H' r s rr rows ds oss us RR
  hd : H' d = some (.dT (tkv zs))
  zv : ∀ z ∈ zs, H' z.2.1 = some (.dK (dkv z.2.2))
  za : zacc zs = stI acc
  nd : (zs.map (·.1)).Nodup
  f : (lSt m (rows.drop at_) at_ acc).st = F.st ∧ (lSt m (rows.drop at_) at_ acc).at_ = F.at_ ∧ (lSt m (rows.drop at_) at_ acc).bad = F.bad ∧ RR ++ (lSt m (rows.drop at_) at_ acc).rows = RR0 ++ F.rows
  zl : zs.length ≤ 4 * at_
  ul : us.length ≤ at_
  le : at_ ≤ rows.length
theorem IS.same {m : Nat} {H0 H1 H2 : Hp} {r s rr d : Addr} {rows : List Str} {ds us : List Addr} {oss : List StA} {F : LR} {RR0 RR : List (Nat × LO)} {at_ : Nat} {zs : ZA} {acc : StL} (h : IS m H0 r s rr d rows ds oss F RR0 H1 at_ us zs acc RR) (e : Same H1 H2) : IS m H0 r s rr d rows ds oss F RR0 H2 at_ us zs acc RR :=
  ⟨h.po.same e, e _ _ h.hd, fun z hz => e _ _ (h.zv z hz), h.za, h.nd, h.f, h.zl, h.ul, h.le⟩
theorem IS.keys {m : Nat} {H0 H1 : Hp} {r s rr d : Addr} {rows : List Str} {ds us : List Addr} {oss : List StA} {F : LR} {RR0 RR : List (Nat × LO)} {at_ : Nat} {zs : ZA} {acc : StL} (h : IS m H0 r s rr d rows ds oss F RR0 H1 at_ us zs acc RR) : zs.map (·.1) = acc.map (·.1) := by
  rw [← zacc_keys, h.za, stI_keys]
abbrev rDPT : List V → Hp → VK → Prop := fun xs H Q => ∃ (a : Addr) (zs : List (Addr × List Key × Addr × V)), xs = [.ref a] ∧ H a = some (.lst (zs.map fun z => V.ref z.1)) ∧
    (∀ z ∈ zs, H z.1 = some (.tup [.ref z.2.2.1, z.2.2.2]) ∧ H z.2.2.1 = some (.tup (z.2.1.map kV))) ∧ ∀ p, H p = none → Q (.ref p) (upd H p (.dT (mergeT [] (zs.map fun z => (z.2.1, z.2.2.2)))))
abbrev tStB (K : PySem.W.Frag) (P : Program) (w : World) : TS :=
  tSeq (tAsg (tCall spLRow [] E0 (tCons (tVar 0) (tCons (tVar 5) tNil))) (gName 7))
  (tSeq (tIfS (tOr (tTest (tOp rIsN (tVar 7) (tC .non))) (tTest (tOp (rNeD K) (tLc (iList K (rowIx K 1)) (gName 8) (tB (tDIn (tTup (tCons (rowIx K 0) (tCons (tVar 8) tNil))) (tVar 6))) (tVar 8) [8]) (tLst tNil)))) (tRet (tTup (tCons (tOp rCat (tVar 2) (tLst (tCons (tVar 6) tNil))) (tCons (tVar 4) (tCons (tVar 3) tNil))))) tNext)
  (tSeq (tDrop (tBM K "dict" (rUpdT P w) (tVar 6) (tCons (tCB rDPT (tCons (tLc (iList K (rowIx K 1)) (gName 8) tYes (tTup (tCons (tTup (tCons (rowIx K 0) (tCons (tVar 8) tNil))) (tCons (rowIx K 2) tNil))) [8]) tNil)) tNil)))
  (tSeq (tDrop (tBM K "list" rAppend (tVar 3) (tCons (tTup (tCons (tVar 4) (tCons (tCB rMaxK (tCons (tValsK (rowIx K 2)) tNil)) tNil))) tNil)))
  (tSeq (tAsg (tOp (rI0 fun i j => V.int (i + j)) (tVar 4) (tC (.int 1))) (gName 4))
  (tAsg (tWd K 1) (gName 5))))))
theorem strip_len {z y : Str} : (Txt.lstripChars z y).length ≤ z.length := by
  obtain ⟨i, hi, e⟩ := PyProof.Rows.stripBy_left y.cps.contains z
  unfold Txt.lstripChars
  rw [e]
  show (z.cps.extract i z.length).size ≤ z.cps.size
  rw [Array.size_extract]
  have : z.length = z.cps.size := rfl
  omega
theorem words_sz {z : Str} {dp : Nat} {ws : List Str} (h : lWords z dp = some ws) (zl : z.length ≤ 14000) (zo : PyData.strOk z = true) : ws.length ≤ 14001 ∧ ∀ y ∈ ws, PyData.strOk y = true ∧ y.length ≤ 14000 := by
  unfold lWords at h
  split at h
  · cases h
  · rw [← Option.some.inj h]
    have ll : (lRest z).length ≤ z.length := by
      unfold lRest
      exact strip_len
    have W := Wt_blank (lRest z)
    have W2 := Wt_len (Txt.split (lRest z) " ")
    refine ⟨by omega, fun y hy => ⟨split_ok hy (strip_ok zo), ?_⟩⟩
    have := Wt_mem hy
    omega
section
variable {K : PySem.W.Frag} {P : Program} {w : World}
theorem max_of {lo : LO} (ne : lo ≠ []) : (dkv (lI lo)).map Prod.snd = ((lI lo).map (·.2)).map V.int ∧ 0 < ((lI lo).map (·.2)).length := by
  refine ⟨?_, ?_⟩
  · unfold dkv
    rw [List.map_map, List.map_map]
    rfl
  · rw [List.length_map]
    unfold lI
    rw [List.length_map]
    exact List.length_pos_iff.mpr ne
theorem state_loop {D0 : Ends} {m : Nat} {H0 H1 : Hp} {r s rr d : Addr} {rows : List Str} {ds : List Addr} {oss : List StA} {F : LR} {RR0 : List (Nat × LO)} {v8 v7 : Option V} {x5 : V} {a0 : Nat} {us0 : List Addr} {zs0 : ZA} {acc0 : StL} {RR1 : List (Nat × LO)} (m4 : m ≤ 4) (few : rows.length < 400) (sz : ∀ z ∈ rows, z.length ≤ 14000 ∧ PyData.strOk z = true)
    (nd : H0 d = none) (dd : d ∉ ds) (dl : ds.length ≤ 400)
    (i0 : IS m H0 r s rr d rows ds oss F RR0 H1 a0 us0 zs0 acc0 RR1) (ow : OW H1 x5 ((rows[a0]?).bind fun z => lWords z 1))
    (hx : ∀ (H' : Hp) (v7 v8 : Option V) (us : List Addr), PO H0 H' r s rr rows ds oss us (RR0 ++ F.rows) → StK H' d (stI F.st) → F.bad = false → F.at_ ≤ rows.length → us.length ≤ F.at_ → D0.nx [some (.int m), some (.ref r), some (.ref s), some (.ref rr), some (.int (F.at_ : Nat)), some .non, some (.ref d), v7, v8] H')
    (hr : ∀ (H' : Hp) (t : Addr), Same H0 H' → F.bad = true → ParAt H' t (oss ++ [stI F.st]) (some F.at_) (RR0 ++ F.rows) → D0.rt (.ref t) H') :
    tWhile (tTest (tOp rNotN (tVar 5) (tC .non))) (tStB K P w) D0 [some (.int m), some (.ref r), some (.ref s), some (.ref rr), some (.int (a0 : Nat)), some x5, some (.ref d), v7, v8] H1 := by
  refine ⟨fun f σ H' => ∃ (at_ : Nat) (x5 : V) (v7 v8 : Option V) (us : List Addr) (zs : ZA) (acc : StL) (RR : List (Nat × LO)), f = rows.length - at_ ∧ σ = [some (.int m), some (.ref r), some (.ref s), some (.ref rr), some (.int (at_ : Nat)), some x5, some (.ref d), v7, v8] ∧ IS m H0 r s rr d rows ds oss F RR0 H' at_ us zs acc RR ∧ OW H' x5 ((rows[at_]?).bind fun z => lWords z 1),
    ⟨_, a0, x5, v7, v8, us0, zs0, acc0, RR1, rfl, rfl, i0, ow⟩, ?_⟩
  clear i0 ow
  rintro f σ H2 ⟨at_, x5, v7, v8, us, zs, acc, RR, rfl, rfl, is2, ow⟩
  obtain ⟨f1, f2, f3, f4⟩ := is2.f
  cases hb : ((rows[at_]?).bind fun z => lWords z 1) with
  | none =>
    rw [hb] at ow
    have ow : x5 = .non := ow
    subst ow
    rw [lSt_none hb] at f1 f2 f3 f4
    have f1 : acc = F.st := f1
    have f2 : at_ = F.at_ := f2
    have f3 : false = F.bad := f3
    have f4 : RR ++ [] = RR0 ++ F.rows := f4
    rw [List.append_nil] at f4
    refine (ans_notN (b := false) (val_var rfl) rfl) _ ?_
    rw [if_neg Bool.false_ne_true]
    rw [f2]
    refine hx H2 v7 v8 us (f4 ▸ is2.po) ⟨zs, is2.hd, by rw [is2.za, f1], is2.nd, is2.zv⟩ f3.symm (f2 ▸ is2.le) (f2 ▸ is2.ul)
  | some ws =>
    rw [hb] at ow
    obtain ⟨pw, rfl, hw⟩ := ow
    obtain ⟨alt, ⟨z, ez, lw⟩, est⟩ := lSt_some (m := m) (acc := acc) hb
    rw [est] at f1 f2 f3 f4
    obtain ⟨zl, zo⟩ := sz z (List.mem_of_getElem? ez)
    obtain ⟨wl, wo⟩ := words_sz lw zl zo
    refine (ans_notN (b := true) (val_var rfl) rfl) _ ?_
    rw [if_pos rfl]
    refine ⟨fun σ' H' => ∃ (x5 : V) (v7 v8 : Option V) (us : List Addr) (zs : ZA) (acc : StL) (RR : List (Nat × LO)), σ' = [some (.int m), some (.ref r), some (.ref s), some (.ref rr), some (.int ((at_ + 1 : Nat) : Nat)), some x5, some (.ref d), v7, v8] ∧ IS m H0 r s rr d rows ds oss F RR0 H' (at_ + 1) us zs acc RR ∧ OW H' x5 ((rows[at_ + 1]?).bind fun z => lWords z 1),
      fun σ' H' ⟨x5, v7, v8, us, zs, acc, RR, e, i, o⟩ => ⟨_, by omega, at_ + 1, x5, v7, v8, us, zs, acc, RR, rfl, e, i, o⟩, ?_⟩
    have bad : ∀ (H' : Hp) (v7 v8 : Option V), IS m H0 r s rr d rows ds oss F RR0 H' at_ us zs acc RR → F.bad = true → acc = F.st → at_ = F.at_ → RR = RR0 ++ F.rows →
        tTup (tCons (tOp rCat (tVar 2) (tLst (tCons (tVar 6) tNil))) (tCons (tVar 4) (tCons (tVar 3) tNil))) [some (.int m), some (.ref r), some (.ref s), some (.ref rr), some (.int (at_ : Nat)), some (.ref pw), some (.ref d), v7, v8] H' D0.rt := by
      intro H' v7 v8 is fb e1 e2 e3
      dsimp only [tTup, tOp, tLst, tCons, tNil]
      refine (val_var rfl) _ ?_
      refine (val_var rfl) _ ⟨by show 1 ≤ sizeLine; decide, fun c nc => ?_⟩
      have s1 := same_upd (o := .lst [.ref d]) nc
      have hc : (upd H' c (.lst [.ref d])) c = some (.lst [.ref d]) := upd_same
      have is := is.same s1
      generalize (upd H' c (.lst [.ref d])) = H3 at hc is ⊢
      refine ⟨s, c, _, _, rfl, rfl, is.po.hs, hc, by rw [List.length_map]; exact big_size (by show ds.length + 1 ≤ _; omega), fun c2 nc2 => ?_⟩
      have s2 := same_upd (o := .lst (ds.map V.ref ++ [.ref d])) nc2
      have hc2 : (upd H3 c2 (.lst (ds.map V.ref ++ [.ref d]))) c2 = some (.lst ((ds ++ [d]).map V.ref)) := by rw [List.map_append]; exact upd_same
      have is := is.same s2
      generalize (upd H3 c2 (.lst (ds.map V.ref ++ [.ref d]))) = H4 at hc2 is ⊢
      refine (val_var rfl) _ ((val_var rfl) _ ⟨by show 3 ≤ sizeLine; decide, fun t nt => ?_⟩)
      have s3 := same_upd (o := .tup [.ref c2, .int (at_ : Nat), .ref rr]) nt
      have is := is.same s3
      refine hr _ t is.po.sm fb ⟨c2, rr, ds ++ [d], us, by rw [← e2]; exact upd_same, s3 _ _ hc2, paired_app is.po.st ⟨zs, is.hd, by rw [is.za, e1], is.nd, is.zv⟩, is.po.hu, e3 ▸ is.po.pr⟩
    refine asg_seq ?_
    dsimp only [tCall, tCons, tNil]
    refine (val_var rfl) _ ((val_var rfl) _ ⟨m, pw, ws, rfl, m4, hw, wl, wo, fun H3 x s3 orr => ?_⟩)
    have is3 := is2.same s3
    cases hrw : lRow m ws with
    | none =>
      rw [hrw] at orr f1 f2 f3 f4
      have orr : x = .non := orr
      subst orr
      have f1 : acc = F.st := f1
      have f2 : at_ = F.at_ := f2
      have f3 : true = F.bad := f3
      have f4 : RR ++ [] = RR0 ++ F.rows := f4
      rw [List.append_nil] at f4
      refine (ans_isN (b := true) (val_var rfl) rfl) _ (iteT ?_)
      exact iteT (bad H3 _ v8 is3 f3.symm f1 f2 f4)
    | some q =>
      rw [hrw] at orr f1 f2 f3 f4
      obtain ⟨p, u, e, rfl, hp, hu, he⟩ := orr
      have rw_ := lRow_ok m4 hrw
      refine (ans_isN (b := false) (val_var rfl) rfl) _ (iteF ?_)
      refine tst_open ?_
      refine dup_lc hp hu is3.hd rw_.wl fun H4 D ys s4 hD iff => ?_
      dsimp only [tLst, tNil]
      refine ⟨Nat.zero_le _, fun q6 nq6 => ?_⟩
      have s5 := same_upd (o := .lst []) nq6
      refine ⟨.list (ys.map PyData.int), .list [], .lst (SqL.of (s5 _ _ hD)) dp_ints, .lst (SqL.of upd_same) .nil, ints_shaped, by decide, _, rfl, ?_⟩
      rw [eqvI_nil]
      generalize (upd H4 q6 (.lst [])) = H5 at s5 ⊢
      have s35 := s4.trans s5
      have is5 := is3.same s35
      have hp5 := s35 _ _ hp
      have hu5 := s35 _ _ hu
      have he5 := s35 _ _ he
      clear is3 hp hu he s4 s5 s35 hD nq6
      rw [is5.keys] at iff
      by_cases hy : ys = []
      · rw [decide_eq_true hy]
        have new := iff.mp hy
        dsimp only at f1 f2 f3 f4
        rw [if_pos new] at f1 f2 f3 f4
        refine iteF ?_
        dsimp only [tNext, tSeq, tDrop]
        refine bm_run (x := .ref d) (val_var rfl) (.inr (.inr (.inl ⟨rfl, .inr ⟨_, is5.hd⟩⟩))) ?_
        dsimp only [tCons, tNil, tCB]
        refine new_lc (q := q) hp5 hu5 rw_.wl fun H6 D6 zz s6 hD6 hzz ezz => ⟨D6, zz, rfl, hD6, hzz, fun p2 np2 => ?_⟩
        have enew : mergeT [] (zz.map fun z => (z.2.1, z.2.2.2)) = tkv (newZ q e) := by
          rw [ezz]
          exact mergeT_tkv (newZ q e) [] (newZ_nodup rw_.wn e) (fun k _ h => nomatch h)
        rw [enew]
        have s7 := same_upd (o := .dT (tkv (newZ q e))) np2
        have hp2 : (upd H6 p2 (.dT (tkv (newZ q e)))) p2 = some (.dT (tkv (newZ q e))) := upd_same
        have is7 := is5.same (s6.trans s7)
        have he7 := (s6.trans s7) _ _ he5
        have hp7 := (s6.trans s7) _ _ hp5
        have dp2 : d ≠ p2 := ne_of_none (s6 _ _ is5.hd) np2
        generalize (upd H6 p2 (.dT (tkv (newZ q e)))) = H7 at s7 hp2 is7 he7 hp7 ⊢
        have lzs : (tkv zs).length = zs.length := by unfold tkv; rw [List.length_map]
        have lnew : (tkv (newZ q e)).length ≤ 4 := by
          unfold tkv newZ
          rw [List.length_map, List.length_map]
          exact rw_.wl
        have zl4 := is7.zl
        refine ⟨d, p2, tkv zs, tkv (newZ q e), rfl, rfl, dp2, is7.hd, hp2, big_size (by omega), .inr (newZ_hash rw_ e), ?_⟩
        have kn : ∀ k ∈ (newZ q e).map (·.1), k ∉ zs.map (·.1) := fun k hk => by
          rw [newZ_keys] at hk
          obtain ⟨w, hw, rfl⟩ := List.mem_map.mp hk
          rw [is7.keys]
          exact new w hw
        rw [mergeT_tkv (newZ q e) zs (newZ_nodup rw_.wn e) kn]
        have po8 := is7.po.updD (kvs' := tkv (zs ++ newZ q e)) is7.hd nd dd
        have hd8 : (upd H7 d (.dT (tkv (zs ++ newZ q e)))) d = some (.dT (tkv (zs ++ newZ q e))) := upd_same
        have k8 : ∀ b o, b ≠ d → H7 b = some o → (upd H7 d (.dT (tkv (zs ++ newZ q e)))) b = some o := fun b o ne h => by rw [upd_ne ne]; exact h
        have he8 := k8 _ _ (fun c => by rw [c, is7.hd] at he7; cases he7) he7
        have hp8 := k8 _ _ (fun c => by rw [c, is7.hd] at hp7; cases hp7) hp7
        have zv8 : ∀ z ∈ zs ++ newZ q e, (upd H7 d (.dT (tkv (zs ++ newZ q e)))) z.2.1 = some (.dK (dkv z.2.2)) := fun z hz => by
          rcases List.mem_append.mp hz with hz | hz
          · have := is7.zv z hz
            exact k8 _ _ (fun c => by rw [c, is7.hd] at this; cases this) this
          · unfold newZ at hz
            obtain ⟨w, hw, rfl⟩ := List.mem_map.mp hz
            exact he8
        generalize (upd H7 d (.dT (tkv (zs ++ newZ q e)))) = H8 at po8 hd8 he8 hp8 zv8 ⊢
        refine bm_run (x := .ref rr) (val_var rfl) (.inl ⟨rfl, _, SqL.of po8.hu⟩) ?_
        dsimp only [tTup, tCons, tNil]
        refine (val_var rfl) _ ?_
        refine (row_ix rfl hp8 rfl) _ ⟨e, _, rfl, he8, fun pv npv => ?_⟩
        have s9 := same_upd (o := viewO "dict_values" pv e) npv
        have hpv : (upd H8 pv (viewO "dict_values" pv e)) pv = some (viewO "dict_values" pv e) := upd_same
        generalize (upd H8 pv (viewO "dict_values" pv e)) = H9 at s9 hpv ⊢
        refine ⟨pv, e, _, _, rfl, hpv, s9 _ _ he8, (max_of rw_.ne).1, (max_of rw_.ne).2, fun mx hmx1 hmx2 => ?_⟩
        refine ⟨by show 2 ≤ sizeLine; decide, fun t nt => ?_⟩
        have s10 := same_upd (o := .tup [.int (at_ : Nat), .int mx]) nt
        have ht : (upd H9 t (.tup [.int (at_ : Nat), .int mx])) t = some (.tup [.int (at_ : Nat), .int mx]) := upd_same
        have s810 := s9.trans s10
        generalize (upd H9 t (.tup [.int (at_ : Nat), .int mx])) = H10 at s10 ht s810 ⊢
        have po10 := po8.same s810
        have ul := is7.ul
        refine ⟨rr, us.map V.ref, .ref t, rfl, rfl, po10.hu, by rw [List.length_map]; exact Nat.lt_trans (show us.length < 1000 by omega) (by decide), ?_⟩
        have po11 := po10.pushU (u := t) (q := (at_, q.2.2)) ⟨mx, ht, hmx1, hmx2⟩
        have k11 : ∀ b o, b ≠ rr → H10 b = some o → (upd H10 rr (.lst (us.map V.ref ++ [.ref t]))) b = some o := fun b o ne h => by rw [upd_ne ne]; exact h
        have hd11 := k11 _ _ (fun c => by have := s810 _ _ hd8; rw [c, po10.hu] at this; cases this) (s810 _ _ hd8)
        have zv11 : ∀ z ∈ zs ++ newZ q e, (upd H10 rr (.lst (us.map V.ref ++ [.ref t]))) z.2.1 = some (.dK (dkv z.2.2)) := fun z hz => by
          have := s810 _ _ (zv8 z hz)
          exact k11 _ _ (fun c => by rw [c, po10.hu] at this; cases this) this
        generalize (upd H10 rr (.lst (us.map V.ref ++ [.ref t]))) = H11 at po11 hd11 zv11 ⊢
        refine (val_i0 (i := (at_ : Int)) (j := 1) (val_var rfl) val_c) _ ?_
        dsimp only [gName]
        rw [show (at_ : Int) + 1 = ((at_ + 1 : Nat) : Int) by omega]
        have is11 : IS m H0 r s rr d rows ds oss F RR0 H11 (at_ + 1) (us ++ [t]) (zs ++ newZ q e) (acc ++ q.2.1.map fun w => ((q.1, w), q.2.2)) (RR ++ [(at_, q.2.2)]) := by
          refine ⟨po11, hd11, zv11, ?_, ?_, ⟨f1, f2, f3, ?_⟩, ?_, ?_, by omega⟩
          · unfold zacc newZ stI
            rw [List.map_append, List.map_append, List.map_map, List.map_map]
            have := is7.za
            unfold zacc stI at this
            rw [this]
            rfl
          · rw [List.map_append, List.nodup_append]
            exact ⟨is7.nd, newZ_nodup rw_.wn e, fun a ha b hb c => kn b hb (c ▸ ha)⟩
          · rw [List.append_assoc]
            exact f4
          · have := rw_.wl
            rw [List.length_append]
            unfold newZ
            rw [List.length_map]
            omega
          · rw [List.length_append]
            show us.length + 1 ≤ at_ + 1
            omega
        refine asg_end (words_run (r := r) (rows := rows) (at_ := at_ + 1) (dp := 1) rfl rfl is11.po.hr (fun z hz => (sz z hz).1) (by decide) fun H12 x s12 ow => ?_)
        exact ⟨x, _, _, _, _, _, _, rfl, is11.same s12, ow⟩
      · rw [decide_eq_false hy]
        have nn : ¬ ∀ w ∈ q.2.1, (q.1, w) ∉ acc.map (·.1) := fun h => hy (iff.mpr h)
        dsimp only at f1 f2 f3 f4
        rw [if_neg nn] at f1 f2 f3 f4
        have f1 : acc = F.st := f1
        have f2 : at_ = F.at_ := f2
        have f3 : true = F.bad := f3
        have f4 : RR ++ [] = RR0 ++ F.rows := f4
        rw [List.append_nil] at f4
        exact iteT (bad H5 _ v8 is5 f3.symm f1 f2 f4)
end
end K5
namespace K5
open PySem PySem.Spec PyProof.Rows L2
/-! ### the states of a text, by the law -/
theorem lPart_step {m : Nat} {rows : List Str} {f at_ k : Nat} : lPart m rows (f + 1) at_ k = if (rows[at_]?).bind (fun z => lWords z 0) = some ([("state" : Str), toString ((k : Nat) : Int)] : List Str) then
      if (lSt m (rows.drop (at_ + 1)) (at_ + 1) []).bad = true then ⟨[(lSt m (rows.drop (at_ + 1)) (at_ + 1) []).st], some (lSt m (rows.drop (at_ + 1)) (at_ + 1) []).at_, (lSt m (rows.drop (at_ + 1)) (at_ + 1) []).rows⟩
      else if (lSt m (rows.drop (at_ + 1)) (at_ + 1) []).at_ < rows.length then
        ⟨(lSt m (rows.drop (at_ + 1)) (at_ + 1) []).st :: (lPart m rows f (lSt m (rows.drop (at_ + 1)) (at_ + 1) []).at_ (k + 1)).sts, (lPart m rows f (lSt m (rows.drop (at_ + 1)) (at_ + 1) []).at_ (k + 1)).wrong, (lSt m (rows.drop (at_ + 1)) (at_ + 1) []).rows ++ (lPart m rows f (lSt m (rows.drop (at_ + 1)) (at_ + 1) []).at_ (k + 1)).rows⟩
      else ⟨[(lSt m (rows.drop (at_ + 1)) (at_ + 1) []).st], none, (lSt m (rows.drop (at_ + 1)) (at_ + 1) []).rows⟩
    else ⟨[], some at_, []⟩ := rfl
def spParted : Sp := fun vs H Q _ => ∃ (m : Nat) (r : Addr) (rows : List Str), vs = [.int m, .ref r] ∧ m ≤ 4 ∧ H r = some (.lst (rows.map V.str)) ∧ rows ≠ [] ∧ rows.length < 400 ∧ (∀ z ∈ rows, z.length ≤ 14000 ∧ PyData.strOk z = true) ∧
  ∀ (H' : Hp) (t : Addr), Same H H' → ParAt H' t ((lPart m rows 400 0 0).sts.map stI) (lPart m rows 400 0 0).wrong (lPart m rows 400 0 0).rows → Q (.ref t) H'
abbrev s__law_parted : Stmt := topS 38
abbrev nmPar : List Str := ["_law_worths", "_law_lines", "_law_states", "_law_rows", "_law_at", "_law_words", "_law_state", "_law_row", "_law_one"]
theorem sc__law_parted : FnScope nmPar ["_law_worths", "_law_lines"] (defScope s__law_parted) := ⟨rfl, rfl, rfl, by decide +kernel, rfl, by decide +kernel, by decide +kernel⟩
/-- where the outer walk stands -/
def OutI (P0 : LP) (m : Nat) (rows : List Str) (at_ k : Nat) (oss : List StA) (RR : List (Nat × LO)) : Prop :=
  (at_ < rows.length ∧ P0.sts.map stI = oss ++ (lPart m rows (400 - k) at_ k).sts.map stI ∧ P0.wrong = (lPart m rows (400 - k) at_ k).wrong ∧ P0.rows = RR ++ (lPart m rows (400 - k) at_ k).rows) ∨
  (at_ = rows.length ∧ 0 < k ∧ P0.sts.map stI = oss ∧ P0.wrong = none ∧ P0.rows = RR)
def NameP (mg : Str → Option Value) : Prop := mg "max" = none ∧ mg "dict" = none
section
variable {P : Program} {w : World} {K : PySem.W.Frag} {mg : Str → Option Value} {base : Heap}
theorem ok_parted {f fW fR : Addr} {fd fdW fdR : FuncData} (B : Bt mg) (nm : NameP mg) (D : Df K mg "_law_parted" s__law_parted f fd ["_law_worths", "_law_lines"])
    (DW : Df K mg "_law_words_at" s__law_words_at fW fdW ["_law_line", "_law_deep"]) (GW : FnOk P w K mg base CX0 1 fW fdW ["_law_line", "_law_deep"] spLWords)
    (DR : Df K mg "_law_row_in" s__law_row_in fR fdR ["_law_worths", "_law_words"]) (GR : FnOk P w K mg base CX0 4 fR fdR ["_law_worths", "_law_words"] spLRow) :
    FnOk P w K mg base CX0 5 f fd ["_law_worths", "_law_lines"] spParted := by
  refine D.F.ok sc__law_parted (fun vs H Q E h => ?_) (fun cdv A outer s H vs Q E hr h => ?_)
  · obtain ⟨m, r, rows, rfl, _⟩ := h
    rfl
  · obtain ⟨m, r, rows, rfl, m4, hr0, ne, few, sz, k⟩ := h
    have S := sc__law_parted
    have hu := hr.units
    refine ⟨_, (pss_cons (ps_par3 (i := 2) (j := 3) (l := 4) (by rfl) S.nd rfl rfl rfl (by decide) (by decide) (by decide) rfl rfl rfl (pa_cons (pe_lst pa_nil) (pa_cons (pe_lst pa_nil) (pa_cons pe_int pa_nil))) (by rfl))
      (pss_cons (ps_while PassesOwn.never (PW.pt (pw_or (pt_cmpR op_lt (pv 4) (pe_callB call_len_seq (by rfl) B.m_len PySem.boot_len (pa_cons (pv 1) pa_nil)) (nomark _)) (pw_or1 (pt_cmpR (op_eqLen (by exact hu)) (pv 2) (pe_lst pa_nil) (nomark _)))))
        (pss_cons (ps_set (i := 5) S.nd rfl (.inl rfl) (pe_ifExp (pt_cmpR op_lt (pv 4) (pe_callB call_len_seq (by rfl) B.m_len PySem.boot_len (pa_cons (pv 1) pa_nil)) (nomark _)) (pe_call GW (hr.mono (by decide)) (by rfl) DW.g DW.F.kp DW.b .nil pass0 (pa_cons (pe_ix ix_list (pv 1) (pv 4) (fun _ _ => rfl)) (pa_cons pe_int pa_nil))) pe_non))
      (pss_cons (ps_if (pt_cmpR (op_neD (by exact hu)) (pv 5) (pe_lst (pa_cons pe_str (pa_cons (pe_callTy call_str_int (by rfl) B.m_str (by decide +kernel) (pa_cons (pe_callB call_len_seq (by rfl) B.m_len PySem.boot_len (pa_cons (pv 2) pa_nil)) pa_nil)) pa_nil))) (nomark _))
        (pss_one (ps_ret (pe_tup (pa_cons (pv 2) (pa_cons (pv 4) (pa_cons (pv 3) pa_nil))))))
        pss_nil)
      (pss_cons (ps_asg (pe_tup (pa_cons pe_dnewT (pa_cons (pe_op op_add (pv 4) pe_int) pa_nil))) (pg_tup (by rfl) (pgs_cons (pg_name (i := 6) S.nd rfl (.inr rfl)) (pgs_cons (pg_name (i := 4) S.nd rfl (.inl rfl)) pgs_nil))))
      (pss_cons (ps_set (i := 5) S.nd rfl (.inl rfl) (pe_ifExp (pt_cmpR op_lt (pv 4) (pe_callB call_len_seq (by rfl) B.m_len PySem.boot_len (pa_cons (pv 1) pa_nil)) (nomark _)) (pe_call GW (hr.mono (by decide)) (by rfl) DW.g DW.F.kp DW.b .nil pass0 (pa_cons (pe_ix ix_list (pv 1) (pv 4) (fun _ _ => rfl)) (pa_cons pe_int pa_nil))) pe_non))
      (pss_cons (ps_while PassesOwn.never (pt_cmpR op_notN1 (pv 5) pe_non (nomark _))
        (pss_cons (ps_set (i := 7) S.nd rfl (.inr rfl) (pe_call GR (hr.mono (by decide)) (by rfl) DR.g DR.F.kp DR.b .nil pass0 (pa_cons (pv 0) (pa_cons (pv 5) pa_nil))))
      (pss_cons (ps_if (PW.pt (pw_or (pt_cmpR op_isN1 (pv 7) pe_non (nomark _)) (pw_or1 (pt_cmpR (op_neD (by exact hu)) (pe_lc (own := [("_law_one", 8)]) (g := gName 8) rfl S.nd (pi_list (pe_ix ix_tup (pv 7) pe_int (fun _ _ => rfl))) (blkOk_by (own := [("_law_one", 8)]) (N := nmPar) (sc := defScope s__law_parted) (by decide +kernel)) (fun _ _ _ _ _ => pg_name (i := 8) S.nd rfl (Or.inl rfl)) (fun _ _ _ _ _ => pts_one (pt_cmp (pc_din (hu_of hr) (pe_tup (pa_cons (pe_ix (r := rIxT K) ix_tup (pv 7) pe_int (fun _ _ => rfl)) (pa_cons (pv 8) pa_nil))) (pv 6)))) (fun _ _ _ _ _ => (pv 8))) (pe_lst pa_nil) (nomark _)))))
        (pss_one (ps_ret (pe_tup (pa_cons (pe_op op_cat (pv 2) (pe_lst (pa_cons (pv 6) pa_nil))) (pa_cons (pv 4) (pa_cons (pv 3) pa_nil))))))
        pss_nil)
      (pss_cons (ps_expr (pe_bm PySem.F.plainAttrs_dict PySem.F.slot_dict_update PySem.F.type_dict_update (mt_updT (by exact hu)) (pv 6) (pa_cons (pe_callTy (call_dictPT rfl (by exact hu)) (by rfl) nm.2 (by decide +kernel) (pa_cons (pe_lc (own := [("_law_one", 8)]) (g := gName 8) (tt := tYes) rfl S.nd (pi_list (pe_ix ix_tup (pv 7) pe_int (fun _ _ => rfl))) (blkOk_by (own := [("_law_one", 8)]) (N := nmPar) (sc := defScope s__law_parted) (by decide +kernel)) (fun _ _ _ _ _ => pg_name (i := 8) S.nd rfl (Or.inl rfl)) (fun _ _ _ _ _ => pts_nil) (fun _ _ _ _ _ => (pe_tup (pa_cons (pe_tup (pa_cons (pe_ix (r := rIxT K) ix_tup (pv 7) pe_int (fun _ _ => rfl)) (pa_cons (pv 8) pa_nil))) (pa_cons (pe_ix (r := rIxT K) ix_tup (pv 7) pe_int (fun _ _ => rfl)) pa_nil))))) pa_nil)) pa_nil)))
      (pss_cons (ps_expr (pe_bm PySem.F.plainAttrs_list PySem.F.slot_list_append PySem.F.type_list_append mt_append (pv 3) (pa_cons (pe_tup (pa_cons (pv 4) (pa_cons (pe_callB (cr_maxK rfl) (by rfl) nm.1 (by decide +kernel) (pa_cons (pe_valsK (pe_ix ix_tup (pv 7) pe_int (fun _ _ => rfl))) pa_nil)) pa_nil))) pa_nil)))
      (pss_cons (ps_set (i := 4) S.nd rfl (.inl rfl) (pe_op op_add (pv 4) pe_int))
      (pss_one (ps_set (i := 5) S.nd rfl (.inl rfl) (pe_ifExp (pt_cmpR op_lt (pv 4) (pe_callB call_len_seq (by rfl) B.m_len PySem.boot_len (pa_cons (pv 1) pa_nil)) (nomark _)) (pe_call GW (hr.mono (by decide)) (by rfl) DW.g DW.F.kp DW.b .nil pass0 (pa_cons (pe_ix ix_list (pv 1) (pv 4) (fun _ _ => rfl)) (pa_cons pe_int pa_nil))) pe_non)))))))))
      (pss_one (ps_expr (pe_bm PySem.F.plainAttrs_list PySem.F.slot_list_append PySem.F.type_list_append mt_append (pv 2) (pa_cons (pv 6) pa_nil))))))))))
      (pss_one (ps_ret (pe_tup (pa_cons (pv 2) (pa_cons pe_non (pa_cons (pv 3) pa_nil)))))))), ?_⟩
    dsimp only [tSeq, tPar3]
    refine ⟨Nat.zero_le _, fun s_ ns => ?_⟩
    have s1 := same_upd (o := .lst []) ns
    have hs1 : (upd H s_ (.lst [])) s_ = some (.lst []) := upd_same
    generalize (upd H s_ (.lst [])) = H1 at s1 hs1 ⊢
    refine ⟨Nat.zero_le _, fun rr nr => ?_⟩
    have s2 := same_upd (o := .lst []) nr
    have hr2 : (upd H1 rr (.lst [])) rr = some (.lst []) := upd_same
    have srr : s_ ≠ rr := ne_of_none hs1 nr
    generalize (upd H1 rr (.lst [])) = H2 at s2 hr2 ⊢
    refine val_c _ ⟨_, _, _, rfl, ?_⟩
    have po0 : PO H H2 r s_ rr rows [] [] [] [] := ⟨s1.trans s2, hr0, s2 _ _ hs1, hr2, .nil, .nil, ns, s1.free nr, srr⟩
    have h0 : 0 < rows.length := List.length_pos_iff.mpr ne
    generalize hP0 : lPart m rows 400 0 0 = P0 at k
    clear s1 hs1 s2 hr2 ns nr
    refine ⟨fun f σ H' => ∃ (at_ : Nat) (v5 v6 v7 v8 : Option V) (ds us : List Addr) (oss : List StA) (RR : List (Nat × LO)), f = rows.length - at_ ∧ σ = [some (.int m), some (.ref r), some (.ref s_), some (.ref rr), some (.int (at_ : Nat)), v5, v6, v7, v8] ∧ PO H H' r s_ rr rows ds oss us RR ∧ us.length ≤ at_ ∧ oss.length ≤ at_ ∧ OutI P0 m rows at_ oss.length oss RR,
      ⟨_, 0, none, none, none, none, [], [], [], [], rfl, rfl, po0, Nat.zero_le _, Nat.zero_le _, .inl ⟨h0, by rw [← hP0]; rfl, by rw [← hP0]; rfl, by rw [← hP0]; rfl⟩⟩, ?_⟩
    clear po0
    rintro f σ H3 ⟨at_, v5, v6, v7, v8, ds, us, oss, RR, rfl, rfl, po, ul, ol, oi⟩
    have dl : ds.length = oss.length := Paired.length po.st
    refine (ans_i0 (val_var rfl) (val_lenL (val_var rfl) (SqL.of po.hr))) _ ?_
    rw [List.length_map]
    rcases oi with ⟨alt, e1, e2, e3⟩ | ⟨aeq, k0, e1, e2, e3⟩
    · rw [decide_eq_true (show ((at_ : Nat) : Int) < (rows.length : Int) by omega)]
      refine iteT (iteT ⟨fun σ' H' => ∃ (at' : Nat) (v5 v6 v7 v8 : Option V) (ds us : List Addr) (oss : List StA) (RR : List (Nat × LO)), at_ < at' ∧ σ' = [some (.int m), some (.ref r), some (.ref s_), some (.ref rr), some (.int (at' : Nat)), v5, v6, v7, v8] ∧ PO H H' r s_ rr rows ds oss us RR ∧ us.length ≤ at' ∧ oss.length ≤ at' ∧ OutI P0 m rows at' oss.length oss RR,
        fun σ' H' ⟨at', v5, v6, v7, v8, ds, us, oss, RR, lt, e, q⟩ => ⟨_, by omega, at', v5, v6, v7, v8, ds, us, oss, RR, rfl, e, q⟩, ?_⟩)
      refine asg_seq (words_run (r := r) (rows := rows) (at_ := at_) (dp := 0) rfl rfl po.hr (fun z hz => (sz z hz).1) (by decide) fun H4 x s4 ow => ?_)
      have po4 := po.same s4
      clear po s4
      obtain ⟨f', hf⟩ : ∃ f', 400 - oss.length = f' + 1 := ⟨400 - oss.length - 1, by omega⟩
      rw [hf, lPart_step] at e1 e2 e3
      dsimp only [tSeq, tIfS]
      refine tst_open ?_
      dsimp only [tLst, tCons, tNil]
      refine (val_var rfl) _ (val_c _ ?_)
      have vl := val_lenL (K := K) (val_var (σ := [some (.int m), some (.ref r), some (.ref s_), some (.ref rr), some (.int (at_ : Nat)), some x, v6, v7, v8]) (i := 2) rfl) (SqL.of po4.hs)
      have llen : (((ds.map V.ref).length : Nat) : Int) = ((oss.length : Nat) : Int) := by rw [List.length_map, dl]
      rw [llen] at vl
      refine (val_strI vl (log_mid (by omega))) _ ?_
      refine ⟨by show 2 ≤ sizeLine; decide, fun q nq => ?_⟩
      have s5 := same_upd (o := .lst ([(("state" : Str)), toString ((oss.length : Nat) : Int)].map V.str)) nq
      have hq : (upd H4 q (.lst ([(("state" : Str)), toString ((oss.length : Nat) : Int)].map V.str))) q = some (.lst ([(("state" : Str)), toString ((oss.length : Nat) : Int)].map V.str)) := upd_same
      show rNeD K x (.ref q) (upd H4 q (.lst ([(("state" : Str)), toString ((oss.length : Nat) : Int)].map V.str))) _
      generalize (upd H4 q (.lst ([(("state" : Str)), toString ((oss.length : Nat) : Int)].map V.str))) = H5 at s5 hq ⊢
      have key : ∃ dd, Dp K H5 x dd ∧ SeqAt.shaped dd = true ∧ PyData.eqv dd (.list ([(("state" : Str)), toString ((oss.length : Nat) : Int)].map PyData.str)) = decide ((rows[at_]?).bind (fun z => lWords z 0) = some ([("state" : Str), toString ((oss.length : Nat) : Int)] : List Str)) := by
        cases hb : (rows[at_]?).bind (fun z => lWords z 0) with
        | none =>
          rw [hb] at ow
          have ow : x = .non := ow
          subst ow
          exact ⟨.none, .non, rfl, rfl⟩
        | some ws =>
          rw [hb] at ow
          obtain ⟨pw, rfl, hw⟩ := ow
          obtain ⟨z, ez, lw⟩ : ∃ z, rows[at_]? = some z ∧ lWords z 0 = some ws := by
            cases e : rows[at_]? with
            | none => rw [e] at hb; cases hb
            | some z => rw [e] at hb; exact ⟨z, rfl, hb⟩
          obtain ⟨zl, zo⟩ := sz z (List.mem_of_getElem? ez)
          obtain ⟨wl, wo⟩ := words_sz lw zl zo
          refine ⟨.list (ws.map PyData.str), .lst (SqL.of (s5 _ _ hw)) (dpAll_strs _), shaped_strs fun y hy => (wo y hy).1, ?_⟩
          rw [PyData.eqv, eqv_strs]
          exact decide_eq_decide.mpr ⟨fun e => by rw [e], fun e => Option.some.inj e⟩
      obtain ⟨dx, hdx, sdx, edx⟩ := key
      refine ⟨dx, .list ([(("state" : Str)), toString ((oss.length : Nat) : Int)].map PyData.str), hdx, .lst (SqL.of hq) (dpAll_strs _), sdx, shaped_strs fun y hy => ?_, ?_⟩
      · rcases List.mem_cons.mp hy with c | c
        · rw [c]
          decide +kernel
        · rw [List.mem_singleton.mp c]
          exact num_ok (by omega)
      rw [edx]
      refine ⟨_, rfl, ?_⟩
      have po5 := po4.same s5
      clear po4 s5 hq nq hdx edx sdx vl
      by_cases cw : (rows[at_]?).bind (fun z => lWords z 0) = some ([("state" : Str), toString ((oss.length : Nat) : Int)] : List Str)
      · rw [decide_eq_true cw]
        rw [if_pos cw] at e1 e2 e3
        refine iteF ?_
        dsimp only [tNext, tSeq, tAsg, tTup, tCons, tNil]
        intro d nd
        have s6 := same_upd (o := .dT []) nd
        have hd : (upd H5 d (.dT [])) d = some (.dT []) := upd_same
        have po6 := po5.same s6
        have nd0 : H d = none := po5.sm.free nd
        have dd : d ∉ ds := fun c => by
          obtain ⟨kvs, hk⟩ := mem_st po5.st d c
          rw [nd] at hk
          cases hk
        generalize (upd H5 d (.dT [])) = H6 at s6 hd po6 ⊢
        refine (val_i0 (i := (at_ : Int)) (j := 1) (val_var rfl) val_c) _ ⟨by show 2 ≤ sizeLine; decide, fun t nt => ?_⟩
        have s7 := same_upd (o := .tup [.ref d, .int ((at_ : Int) + 1)]) nt
        have ht : (upd H6 t (.tup [.ref d, .int ((at_ : Int) + 1)])) t = some (.tup [.ref d, .int ((at_ : Int) + 1)]) := upd_same
        have po7 := po6.same s7
        have hd7 := s7 _ _ hd
        generalize (upd H6 t (.tup [.ref d, .int ((at_ : Int) + 1)])) = H7 at ht po7 hd7 ⊢
        refine ⟨t, _, rfl, SqT.of ht, rfl, _, _, rfl, _, _, rfl, rfl, ?_⟩
        rw [show (at_ : Int) + 1 = ((at_ + 1 : Nat) : Int) by omega]
        dsimp only [gName, List.set]
        refine words_run (r := r) (rows := rows) (at_ := at_ + 1) (dp := 1) rfl rfl po7.hr (fun z hz => (sz z hz).1) (by decide) fun H8 x8 s8 ow8 => ?_
        have po8 := po7.same s8
        have hd8 := s8 _ _ hd7
        have lat := lSt_at (m := m) (rows.drop (at_ + 1)) (at_ + 1) []
        generalize hF : lSt m (rows.drop (at_ + 1)) (at_ + 1) [] = F at e1 e2 e3 lat
        refine state_loop (K := K) (P := P) (w := w) (F := F) (RR0 := RR) (oss := oss) (zs0 := []) (acc0 := []) (RR1 := RR) m4 few sz nd0 dd (by omega)
          ⟨po8, hd8, (fun _ h => nomatch h), rfl, List.nodup_nil, ⟨by rw [hF], by rw [hF], by rw [hF], by rw [hF]⟩, Nat.zero_le _, (show us.length ≤ at_ + 1 by omega), (show at_ + 1 ≤ rows.length by omega)⟩ ow8 (fun H9 w7 w8 us9 po9 st9 fb fa fu => ?_) fun H9 t9 sm fb pa => ?_
        · rw [if_neg (by rw [fb]; exact Bool.false_ne_true)] at e1 e2 e3
          refine bm_run (x := .ref s_) (val_var rfl) (.inl ⟨rfl, _, SqL.of po9.hs⟩) ?_
          dsimp only [tCons, tNil]
          refine (val_var rfl) _ ⟨s_, ds.map V.ref, .ref d, rfl, rfl, po9.hs, by rw [List.length_map]; exact Nat.lt_trans (show ds.length < 1000 by omega) (by decide), ?_⟩
          have po10 := po9.pushS st9
          refine ⟨F.at_, _, _, _, _, ds ++ [d], us9, oss ++ [stI F.st], RR ++ F.rows, by omega, rfl, po10, fu, by rw [List.length_append]; show oss.length + 1 ≤ F.at_; omega, ?_⟩
          have el : (oss ++ [stI F.st]).length = oss.length + 1 := by rw [List.length_append]; rfl
          have ef : 400 - (oss.length + 1) = f' := by omega
          rw [el]
          unfold OutI
          rw [ef]
          by_cases ca : F.at_ < rows.length
          · rw [if_pos ca] at e1 e2 e3
            refine .inl ⟨ca, ?_, e2, ?_⟩
            · rw [e1, List.map_cons, List.append_assoc]
              rfl
            · rw [e3, List.append_assoc]
          · rw [if_neg ca] at e1 e2 e3
            refine .inr ⟨by omega, by omega, ?_, e2, e3⟩
            rw [e1]
            rfl
        · rw [if_pos fb] at e1 e2 e3
          refine k H9 t9 sm ?_
          rw [e1, e2, e3]
          exact pa
      · rw [decide_eq_false cw]
        rw [if_neg cw] at e1 e2 e3
        refine iteT ?_
        show tTup _ _ _ _
        dsimp only [tTup, tCons, tNil]
        refine (val_var rfl) _ ((val_var rfl) _ ((val_var rfl) _ ⟨by show 3 ≤ sizeLine; decide, fun t nt => ?_⟩))
        have s6 := same_upd (o := .tup [.ref s_, .int (at_ : Nat), .ref rr]) nt
        have po6 := po5.same s6
        refine k _ t po6.sm ⟨s_, rr, ds, us, ?_, po6.hs, ?_, po6.hu, ?_⟩
        · rw [e2]
          exact upd_same
        · rw [e1]
          show Paired _ ds (oss ++ [])
          rw [List.append_nil]
          exact po6.st
        · rw [e3]
          show Paired _ us (RR ++ [])
          rw [List.append_nil]
          exact po6.pr
    · rw [decide_eq_false (show ¬ ((at_ : Nat) : Int) < (rows.length : Int) by omega)]
      refine iteF ?_
      refine tst_open ?_
      dsimp only [tLst, tNil]
      refine (val_var rfl) _ ⟨Nat.zero_le _, fun q nq => ?_⟩
      have s5 := same_upd (o := .lst []) nq
      have hq : (upd H3 q (.lst [])) q = some (.lst []) := upd_same
      have po5 := po.same s5
      generalize (upd H3 q (.lst [])) = H5 at hq po5 ⊢
      refine ⟨s_, q, _, [], rfl, rfl, SqL.of po5.hs, SqL.of hq, by rw [List.length_map]; show ds.length ≠ 0; omega, _, rfl, iteF ?_⟩
      show tTup _ _ _ _
      dsimp only [tTup, tCons, tNil]
      refine (val_var rfl) _ (val_c _ ((val_var rfl) _ ⟨by show 3 ≤ sizeLine; decide, fun t nt => ?_⟩))
      have s6 := same_upd (o := .tup [.ref s_, .non, .ref rr]) nt
      have po6 := po5.same s6
      refine k _ t po6.sm ⟨s_, rr, ds, us, ?_, po6.hs, e1 ▸ po6.st, po6.hu, e3 ▸ po6.pr⟩
      rw [e2]
      exact upd_same
end
end K5
namespace K5
open PySem PySem.Spec PyProof.Rows L2
/-! ### what is told, as data -/
def osAt (st : StA) (k : Str × Int) : Outs := ((st.find? fun q => decide (q.1 = k)).map (·.2)).getD []
def outsD (os : Outs) : PyData := .tuple ((sortI os).map fun q => .tuple [.int q.1, .int q.2])
def rowD (st : StA) (k : Str × Int) : PyData := .tuple [.str k.1, .int k.2, outsD (osAt st k)]
def stD (st : StA) : PyData := .tuple ((sortK (st.map (·.1))).map (rowD st))
def pactD (sts : List StA) : PyData := .tuple (sts.map stD)
structure StOk (st : StA) : Prop where
  n : (st.map (·.1)).Nodup
  o : ∀ q ∈ st, (q.2.map (·.1)).Nodup
theorem osAt_mem {st : StA} (nd : (st.map (·.1)).Nodup) : ∀ {q : (Str × Int) × Outs}, q ∈ st → osAt st q.1 = q.2 := by
  induction st with
  | nil => exact fun h => nomatch h
  | cons a r ih =>
    intro q h
    rw [List.map_cons, List.nodup_cons] at nd
    unfold osAt
    rcases List.mem_cons.mp h with e | h
    · rw [e, List.find?_cons_of_pos (by simp)]
      rfl
    · have ne : a.1 ≠ q.1 := fun e => nd.1 (by rw [e]; exact List.mem_map_of_mem h)
      rw [List.find?_cons_of_neg (by simp [ne])]
      exact ih nd.2 h
theorem asc_eq : ∀ {a b : List (Int × Int)}, a.Pairwise (fun x y => x.1 < y.1) → b.Pairwise (fun x y => x.1 < y.1) → (∀ q, q ∈ a ↔ q ∈ b) → a = b
  | [], [], _, _, _ => rfl
  | [], y :: b, _, _, h => nomatch (h y).mpr (List.mem_cons_self ..)
  | x :: a, [], _, _, h => nomatch (h x).mp (List.mem_cons_self ..)
  | x :: a, y :: b, ha, hb, h => by
    rw [List.pairwise_cons] at ha hb
    have exy : x = y := by
      rcases List.mem_cons.mp ((h x).mp (List.mem_cons_self ..)) with e | hx
      · exact e
      · rcases List.mem_cons.mp ((h y).mpr (List.mem_cons_self ..)) with e | hy
        · exact e.symm
        · have h1 := hb.1 x hx
          have h2 := ha.1 y hy
          omega
    subst exy
    rw [asc_eq ha.2 hb.2 fun q => ⟨fun hq => ?_, fun hq => ?_⟩]
    · rcases List.mem_cons.mp ((h q).mp (List.mem_cons_of_mem _ hq)) with e | hq'
      · have := ha.1 q hq
        rw [e] at this
        omega
      · exact hq'
    · rcases List.mem_cons.mp ((h q).mpr (List.mem_cons_of_mem _ hq)) with e | hq'
      · have := hb.1 q hq
        rw [e] at this
        omega
      · exact hq'
theorem strict_of {l : List (Int × Int)} (h : l.Pairwise fun a b => a.1 ≤ b.1) (nd : (l.map (·.1)).Nodup) : l.Pairwise fun a b => a.1 < b.1 := by
  unfold List.Nodup at nd
  rw [List.pairwise_map] at nd
  exact List.Pairwise.imp₂ (fun {a b} h1 h2 => by omega) h nd
theorem sortI_strict {os : Outs} (nd : (os.map (·.1)).Nodup) : (sortI os).Pairwise fun a b => a.1 < b.1 :=
  strict_of (sortI_asc os) ((((sortI_perm os).map (·.1)).nodup_iff).mpr nd)
theorem nodup_inj {α : Type} : ∀ {l : List (Int × α)} {a b : Int × α}, (l.map (·.1)).Nodup → a ∈ l → b ∈ l → a.1 = b.1 → a = b
  | x :: l, a, b, nd, ha, hb, e => by
    rw [List.map_cons, List.nodup_cons] at nd
    rcases List.mem_cons.mp ha with ha | ha
    · rcases List.mem_cons.mp hb with hb | hb
      · rw [ha, hb]
      · exact absurd (by rw [← ha, e]; exact List.mem_map_of_mem hb) nd.1
    · rcases List.mem_cons.mp hb with hb | hb
      · exact absurd (by rw [← hb, ← e]; exact List.mem_map_of_mem ha) nd.1
      · exact nodup_inj nd.2 ha hb e
theorem bs_sorted {ks : List Int} {bs : List (Int × Int)} {os : Outs} (e : bs.map (·.1) = ks) (perm : ks.Perm (os.map (·.1))) (asc : ks.Pairwise (· ≤ ·)) (mem : ∀ q ∈ bs, q ∈ os) (nd : (os.map (·.1)).Nodup) : bs = sortI os := by
  subst e
  have ndb : (bs.map (·.1)).Nodup := perm.nodup_iff.mpr nd
  refine asc_eq (strict_of (by rw [List.pairwise_map] at asc; exact asc) ndb) (sortI_strict nd) fun q => ⟨fun hq => (sortI_perm os).mem_iff.mpr (mem q hq), fun hq => ?_⟩
  have hq := (sortI_perm os).mem_iff.mp hq
  have hk : q.1 ∈ bs.map (·.1) := perm.mem_iff.mpr (List.mem_map_of_mem hq)
  obtain ⟨q', hq', e⟩ := List.mem_map.mp hk
  have : q' = q := by
    have hm := mem q' hq'
    exact nodup_inj nd hm hq e
  exact this ▸ hq'
theorem dq_pairs {H : Hp} : ∀ {ts : List Addr} {bs : List (Int × Int)}, Paired (fun (t : Addr) (q : Int × Int) => H t = some (.tup [.int q.1, .int q.2])) ts bs → DqA H (ts.map V.ref) (bs.map fun q => .tuple [.int q.1, .int q.2])
  | _, _, .nil => .nil
  | _, _, .cons h r => .cons (.tup h (.cons (.int _) (.cons (.int _) .nil))) (dq_pairs r)
theorem OutsAt.dq {H : Hp} {p : Addr} {os : Outs} (h : OutsAt H p os) (nd : (os.map (·.1)).Nodup) : Dq H (.ref p) (outsD os) := by
  obtain ⟨ks, ts, bs, h1, h2, h3, h4, h5, h6⟩ := h
  rw [bs_sorted h2 h3 h4 h5 nd] at h6
  exact .tup h1 (dq_pairs h6)
theorem dq_rows {H : Hp} {st : StA} (ok : StOk st) : ∀ {ts : List Addr} {bs : List ((Str × Int) × Addr)}, (∀ b ∈ bs, ∃ os, (b.1, os) ∈ st ∧ OutsAt H b.2 os) → Paired (fun (t : Addr) (b : (Str × Int) × Addr) => H t = some (.tup [.str b.1.1, .int b.1.2, .ref b.2])) ts bs → DqA H (ts.map V.ref) (bs.map fun b => rowD st b.1)
  | _, _, _, .nil => .nil
  | _, b :: bs, hm, .cons h r => by
    obtain ⟨os, m1, m2⟩ := hm b (List.mem_cons_self ..)
    have e : osAt st b.1 = os := osAt_mem ok.n m1
    refine .cons (.tup h (.cons (.str _) (.cons (.int _) (.cons ?_ .nil)))) (dq_rows ok (fun c hc => hm c (List.mem_cons_of_mem _ hc)) r)
    rw [e]
    exact m2.dq (ok.o _ m1)
theorem StAt.dq {H : Hp} {p : Addr} {st : StA} (h : StAt H p st) (ok : StOk st) : Dq H (.ref p) (stD st) := by
  obtain ⟨ts, bs, h1, h2, h3, h4⟩ := h
  have := dq_rows ok h3 h4
  unfold stD
  rw [← h2, List.map_map]
  exact .tup h1 this
theorem dq_sts {H : Hp} : ∀ {ts : List Addr} {sts : List StA}, Paired (StAt H) ts sts → (∀ st ∈ sts, StOk st) → DqA H (ts.map V.ref) (sts.map stD)
  | _, _, .nil, _ => .nil
  | _, _, .cons h r, ok => .cons (h.dq (ok _ (List.mem_cons_self ..))) (dq_sts r fun s hs => ok s (List.mem_cons_of_mem _ hs))
theorem PactAt.dq {H : Hp} {p : Addr} {sts : List StA} (h : PactAt H p sts) (ok : ∀ st ∈ sts, StOk st) : Dq H (.ref p) (pactD sts) := by
  obtain ⟨ts, h1, h2⟩ := h
  exact .tup h1 (dq_sts h2 ok)
/-- what is told, with the worths' own data -/
def o9D (dx : PyData) : Out9 → PyData
  | .pact sts => .tuple [.str "pact", pactD sts]
  | .line i => .tuple [.str "line", .int i]
  | .val => .tuple [.str "worths", dx]
theorem OutAt.dq {H : Hp} {x : V} {dx : PyData} {p : Addr} {o : Out9} (h : OutAt H x p o) (hx : Dq H x dx) (ok : ∀ sts, o = .pact sts → ∀ st ∈ sts, StOk st) : Dq H (.ref p) (o9D dx o) := by
  cases o with
  | pact sts =>
    obtain ⟨q, h1, h2⟩ := h
    exact .tup h1 (.cons (.str _) (.cons (h2.dq (ok sts rfl)) .nil))
  | line i => exact .tup h (.cons (.str _) (.cons (.int _) .nil))
  | val => exact .tup h (.cons (.str _) (.cons hx .nil))
/-! ### the states that the law reads are in order -/
theorem lSt_ok {m : Nat} (hm : m ≤ 4) : ∀ (rs : List Str) (at_ : Nat) (acc : StL), StOk (stI acc) → StOk (stI (lSt m rs at_ acc).st)
  | [], at_, acc, h => h
  | z :: rs, at_, acc, h => by
    have rhs : lSt m (z :: rs) at_ acc = match lWords z 1 with
      | none => ⟨acc, at_, [], false⟩
      | some ws => match lRow m ws with
        | none => ⟨acc, at_, [], true⟩
        | some q => if ∀ w ∈ q.2.1, (q.1, w) ∉ acc.map (·.1) then
            ⟨(lSt m rs (at_ + 1) (acc ++ q.2.1.map fun w => ((q.1, w), q.2.2))).st, (lSt m rs (at_ + 1) (acc ++ q.2.1.map fun w => ((q.1, w), q.2.2))).at_, (at_, q.2.2) :: (lSt m rs (at_ + 1) (acc ++ q.2.1.map fun w => ((q.1, w), q.2.2))).rows, (lSt m rs (at_ + 1) (acc ++ q.2.1.map fun w => ((q.1, w), q.2.2))).bad⟩
          else ⟨acc, at_, [], true⟩ := rfl
    rw [rhs]
    split
    · exact h
    · split
      · exact h
      · rename_i q hq
        have ok := lRow_ok hm hq
        split
        · rename_i c
          refine lSt_ok hm rs _ _ ?_
          have e : stI (acc ++ q.2.1.map fun w => ((q.1, w), q.2.2)) = stI acc ++ q.2.1.map fun w => ((q.1, w), lI q.2.2) := by
            unfold stI
            rw [List.map_append, List.map_map]
            rfl
          rw [e]
          refine ⟨?_, fun p hp => ?_⟩
          · rw [List.map_append, List.map_map, stI_keys, List.nodup_append]
            refine ⟨by have := h.n; rw [stI_keys] at this; exact this, List.Pairwise.map _ (fun a b h e => h (by injection e)) ok.wn, fun a ha b hb e => ?_⟩
            obtain ⟨w, hw, rfl⟩ := List.mem_map.mp hb
            have e : a = (q.1, w) := e
            exact c w hw (e ▸ ha)
          · rcases List.mem_append.mp hp with hp | hp
            · exact h.o p hp
            · obtain ⟨w, hw, rfl⟩ := List.mem_map.mp hp
              show ((lI q.2.2).map (·.1)).Nodup
              rw [lI_keys]
              exact ok.o.n
        · exact h
theorem lPart_ok {m : Nat} {rows : List Str} (hm : m ≤ 4) : ∀ (f at_ k : Nat), ∀ s ∈ (lPart m rows f at_ k).sts, StOk (stI s)
  | 0, _, _, s, h => nomatch h
  | f + 1, at_, k, s, h => by
    have ok := lSt_ok hm (rows.drop (at_ + 1)) (at_ + 1) [] ⟨List.nodup_nil, fun _ h => nomatch h⟩
    rw [lPart_step] at h
    split at h
    · split at h
      · rw [List.mem_singleton.mp h]
        exact ok
      · split at h
        · rcases List.mem_cons.mp h with e | h
          · rw [e]
            exact ok
          · exact lPart_ok hm f _ _ s h
        · rw [List.mem_singleton.mp h]
          exact ok
    · cases h
theorem res_ok {m : Nat} {rows : List Str} (hm : m ≤ 4) {n : Nat} {sts : List StA} (h : lRes n [] (lPart m rows 400 0 0) = .ok sts) : ∀ st ∈ sts, StOk st := fun st hst => by
  unfold lRes at h
  split at h
  · cases h
  · split at h
    · cases h
    · injection h with h
      rw [← h] at hst
      obtain ⟨s, hs, rfl⟩ := List.mem_map.mp hst
      exact lPart_ok hm 400 0 0 s hs
/-! ### rows whose next states are gone -/
def goneL (n : Nat) (RR : List (Nat × LO)) : List Nat := (RR.filter fun q => !inN n q.2).map (·.1)
theorem gone_head (n : Nat) : ∀ RR : List (Nat × LO), gone n RR = (goneL n RR).head?
  | [] => rfl
  | q :: r => by
    show (if inN n q.2 = true then gone n r else some q.1) = _
    unfold goneL
    by_cases h : inN n q.2 = true
    · rw [if_pos h, List.filter_cons_of_neg (by rw [h]; decide), gone_head n r]
      rfl
    · have h : inN n q.2 = false := by
        cases c : inN n q.2 with
        | true => exact absurd c h
        | false => rfl
      rw [if_neg (by rw [h]; decide), List.filter_cons_of_pos (by rw [h]; rfl)]
      rfl
theorem max_gone {mx : Int} {lo : LO} {n : Nat} (h : MaxOf mx lo) : decide ((n : Int) ≤ mx) = !inN n lo := by
  obtain ⟨h1, h2⟩ := h
  unfold lI at h1 h2
  rw [List.map_map] at h1 h2
  unfold inN
  by_cases c : (n : Int) ≤ mx
  · rw [decide_eq_true c]
    obtain ⟨q, hq, e⟩ := List.mem_map.mp h1
    have e : ((q.2 : Nat) : Int) = mx := e
    cases a : lo.all (fun q => decide (q.2 < n)) with
    | false => rfl
    | true =>
      have := of_decide_eq_true (List.all_eq_true.mp a q hq)
      omega
  · rw [decide_eq_false c]
    have : lo.all (fun q => decide (q.2 < n)) = true := List.all_eq_true.mpr fun q hq => decide_eq_true (by
      have : ((q.2 : Nat) : Int) ≤ mx := h2 _ (List.mem_map.mpr ⟨q, hq, rfl⟩)
      omega)
    rw [this]
    rfl
end K5
namespace K5
open PySem PySem.Spec PyProof.Rows L2
/-! ### data without lists stands on tuples alone -/
mutual
def noL : PyData → Bool
  | .list _ => false
  | .dict _ => false
  | .tuple ds => noLA ds
  | _ => true
def noLA : List PyData → Bool
  | [] => true
  | d :: ds => noL d && noLA ds
end
mutual
theorem Dq.keep {H H' : Hp} (k : TKeep H H') : ∀ (d : PyData) {v : V}, noL d = true → Dq H v d → Dq H' v d
  | .none, _, _, h => by cases h; exact .non
  | .bool b, _, _, h => by cases h; exact .bl b
  | .int i, _, _, h => by cases h; exact .int i
  | .str x, _, _, h => by cases h; exact .str x
  | .list ds, _, n, h => nomatch n
  | .tuple ds, _, n, h => by
    cases h with
    | tup h a => exact .tup (k _ _ h) (DqA.keep k ds n a)
  | .dict kvs, _, n, h => nomatch n
theorem DqA.keep {H H' : Hp} (k : TKeep H H') : ∀ (ds : List PyData) {vs : List V}, noLA ds = true → DqA H vs ds → DqA H' vs ds
  | [], _, _, h => by cases h; exact .nil
  | d :: ds, _, n, h => by
    have n : (noL d && noLA ds) = true := n
    rw [Bool.and_eq_true] at n
    cases h with
    | cons a r => exact .cons (Dq.keep k d n.1 a) (DqA.keep k ds n.2 r)
end
theorem noLA_map {α : Type} {f : α → PyData} (h : ∀ a, noL (f a) = true) : ∀ l : List α, noLA (l.map f) = true
  | [] => rfl
  | a :: l => by
    show (noL (f a) && noLA (l.map f)) = true
    rw [h a, noLA_map h l]
    rfl
theorem noL_row (st : StA) (k : Str × Int) : noL (rowD st k) = true := by
  show (true && (true && (noLA ((sortI (osAt st k)).map fun q => .tuple [.int q.1, .int q.2]) && true))) = true
  rw [noLA_map (f := fun q : Int × Int => PyData.tuple [.int q.1, .int q.2]) (fun _ => rfl)]
  rfl
theorem noL_st (st : StA) : noL (stD st) = true := noLA_map (noL_row st) _
theorem dqA_app {H : Hp} : ∀ {vs : List V} {ds : List PyData} {v : V} {d : PyData}, DqA H vs ds → Dq H v d → DqA H (vs ++ [v]) (ds ++ [d])
  | _, _, _, _, .nil, h => .cons h .nil
  | _, _, _, _, .cons x r, h => .cons x (dqA_app r h)
theorem dqA_len {H : Hp} : ∀ {vs : List V} {ds : List PyData}, DqA H vs ds → vs.length = ds.length
  | _, _, .nil => rfl
  | _, _, .cons _ r => congrArg Nat.succ (dqA_len r)
/-! ### how much there is -/
theorem lSt_bound {m : Nat} (hm : m ≤ 4) : ∀ (rs : List Str) (at_ : Nat) (acc : StL), at_ + (lSt m rs at_ acc).rows.length = (lSt m rs at_ acc).at_ ∧ (lSt m rs at_ acc).st.length ≤ acc.length + 4 * rs.length
  | [], at_, acc => ⟨rfl, Nat.le_add_right _ _⟩
  | z :: rs, at_, acc => by
    have rhs : lSt m (z :: rs) at_ acc = match lWords z 1 with
      | none => ⟨acc, at_, [], false⟩
      | some ws => match lRow m ws with
        | none => ⟨acc, at_, [], true⟩
        | some q => if ∀ w ∈ q.2.1, (q.1, w) ∉ acc.map (·.1) then
            ⟨(lSt m rs (at_ + 1) (acc ++ q.2.1.map fun w => ((q.1, w), q.2.2))).st, (lSt m rs (at_ + 1) (acc ++ q.2.1.map fun w => ((q.1, w), q.2.2))).at_, (at_, q.2.2) :: (lSt m rs (at_ + 1) (acc ++ q.2.1.map fun w => ((q.1, w), q.2.2))).rows, (lSt m rs (at_ + 1) (acc ++ q.2.1.map fun w => ((q.1, w), q.2.2))).bad⟩
          else ⟨acc, at_, [], true⟩ := rfl
    rw [rhs]
    split
    · exact ⟨rfl, Nat.le_add_right _ _⟩
    · split
      · exact ⟨rfl, Nat.le_add_right _ _⟩
      · rename_i q hq
        have ok := lRow_ok hm hq
        split
        · obtain ⟨h1, h2⟩ := lSt_bound hm rs (at_ + 1) (acc ++ q.2.1.map fun w => ((q.1, w), q.2.2))
          have := ok.wl
          rw [List.length_append, List.length_map] at h2
          refine ⟨?_, ?_⟩
          · show at_ + ((lSt m rs (at_ + 1) (acc ++ q.2.1.map fun w => ((q.1, w), q.2.2))).rows.length + 1) = (lSt m rs (at_ + 1) (acc ++ q.2.1.map fun w => ((q.1, w), q.2.2))).at_
            omega
          · rw [List.length_cons]
            show (lSt m rs (at_ + 1) (acc ++ q.2.1.map fun w => ((q.1, w), q.2.2))).st.length ≤ _
            omega
        · exact ⟨rfl, Nat.le_add_right _ _⟩
theorem lPart_bound {m : Nat} {rows : List Str} (hm : m ≤ 4) : ∀ (f at_ k : Nat), (lPart m rows f at_ k).rows.length ≤ rows.length - at_ ∧ (∀ s ∈ (lPart m rows f at_ k).sts, s.length ≤ 4 * rows.length) ∧ (lPart m rows f at_ k).sts.length ≤ f
  | 0, _, _ => ⟨Nat.zero_le _, (fun s h => nomatch h), Nat.le_refl _⟩
  | f + 1, at_, k => by
    obtain ⟨b1, b2⟩ := lSt_bound hm (rows.drop (at_ + 1)) (at_ + 1) []
    have l3 := (lSt_at (m := m) (rows.drop (at_ + 1)) (at_ + 1) []).2
    rw [List.length_drop] at b2 l3
    simp only [List.length_nil] at b2
    rw [lPart_step]
    split
    · split
      · refine ⟨?_, fun s h => ?_, Nat.succ_le_succ (Nat.zero_le _)⟩
        · show (lSt m (rows.drop (at_ + 1)) (at_ + 1) []).rows.length ≤ _
          omega
        · rw [List.mem_singleton.mp h]
          omega
      · split
        · rename_i ca
          obtain ⟨c1, c2, c3⟩ := lPart_bound hm (rows := rows) f (lSt m (rows.drop (at_ + 1)) (at_ + 1) []).at_ (k + 1)
          refine ⟨?_, fun s h => ?_, Nat.succ_le_succ c3⟩
          · show ((lSt m (rows.drop (at_ + 1)) (at_ + 1) []).rows ++ _).length ≤ _
            rw [List.length_append]
            omega
          · rcases List.mem_cons.mp h with e | h
            · rw [e]
              omega
            · exact c2 s h
        · refine ⟨?_, fun s h => ?_, Nat.succ_le_succ (Nat.zero_le _)⟩
          · show (lSt m (rows.drop (at_ + 1)) (at_ + 1) []).rows.length ≤ _
            omega
          · rw [List.mem_singleton.mp h]
            omega
    · exact ⟨Nat.zero_le _, (fun s h => nomatch h), Nat.zero_le _⟩
/-! ### what the law reads -/
def readO (m : Nat) (z : Str) : Out9 := match lRes (lThere (rowsOf z) 0) [] (lPart m (rowsOf z) 400 0 0) with
  | .error e => .line (e : Nat)
  | .ok sts => .pact sts
def spReading : Sp := fun vs H Q _ => ∃ (m : Nat) (z : Str), vs = [.int m, .str z] ∧ m ≤ 4 ∧ z.length ≤ 14000 ∧ PyData.strOk z = true ∧ (rowsOf z).length < 400 ∧
  ∀ (H' : Hp) (x : V), Same H H' → Dq H' x (o9D .none (readO m z)) → Q x H'
abbrev s__law_reading : Stmt := topS 39
abbrev nmRd : List Str := ["_law_worths", "_law_page", "_law_lines", "_law_states", "_law_wrong", "_law_rows", "_law_there", "_law_gone", "_law_found", "_law_state", "_law_rows_here", "_law_at", "_law_later", "_law_call"]
theorem sc__law_reading : FnScope nmRd ["_law_worths", "_law_page"] (defScope s__law_reading) := ⟨rfl, rfl, rfl, by decide +kernel, rfl, by decide +kernel, by decide +kernel⟩
abbrev rSDT : List V → Hp → VK → Prop := fun xs H Q => ∃ (a : Addr) (kvs : List (List Key × V)) (ks : List (Str × Int)), xs = [.ref a] ∧ H a = some (.dT kvs) ∧ kvs.map (·.1) = ks.map keyV ∧
    ∀ (ts : List Addr) (p : Addr), Paired (fun t k => H t = some (.tup [.str k.1, .int k.2])) ts (sortK ks) → H p = none → Q (.ref p) (upd H p (.lst (ts.map V.ref)))
abbrev rSIt : List V → Hp → VK → Prop := fun xs H Q => ∃ (p a : Addr) (is : List (Int × Int)), xs = [.ref p] ∧ H p = some (L2.DX.itemsO p a) ∧ H a = some (.dK (dkv is)) ∧
    ∀ (H' : Hp) (l : Addr) (ts : List Addr), Same H H' → H' l = some (.lst (ts.map V.ref)) → Paired (fun t (q : Int × Int) => H' t = some (.tup [.int q.1, .int q.2])) ts (sortI is) → Q (.ref l) H'
abbrev rTup (K : PySem.W.Frag) : List V → Hp → VK → Prop := fun xs H Q => ∃ p ys, xs = [.ref p] ∧ ((SqL K H p ys ∧ ∀ l, H l = none → Q (.ref l) (upd H l (.tup ys))) ∨ (SqT K H p ys ∧ Q (.ref p) H))
section
variable {K : PySem.W.Frag}
abbrev keyIx (K : PySem.W.Frag) (i : Nat) : TE := tOp (rIxT K) (tVar 13) (tC (.int (i : Nat)))
theorem key_ix {σ : L2.St} {H : Hp} {p : Addr} {xs : List V} {v : V} {i : Nat} (h7 : σ[13]? = some (some (.ref p))) (hp : H p = some (.tup xs)) (e : xs[i]? = some v) : Val (keyIx K i) σ H v := fun Q q =>
  (val_var h7) _ (val_c _ ⟨p, xs, _, v, rfl, rfl, SqT.of hp, atI_nat e, q⟩)
/-- [at for at, later in rows if later >= there] -/
theorem gone_lc {v0 v1 v2 v3 v4 v7 v8 v9 v10 v11 v12 v13 : Option V} {n : Nat} {rr : Addr} {us : List Addr} {RR : List (Nat × LO)} {H : Hp} {Q : VK} (hu : H rr = some (.lst (us.map V.ref))) (pr : Paired (PrK H) us RR) (few : us.length ≤ 1000)
    (k : ∀ (H' : Hp) (D : Addr), Same H H' → H' D = some (.lst (((goneL n RR).map fun a : Nat => (a : Int)).map V.int)) → Q (.ref D) H') :
    tLc (iList K (tVar 5)) (gTup K 2 (gCons (gName 11) (gCons (gName 12) gNil))) (tTest (tOp (rI0 fun i j => V.bl (decide (j ≤ i))) (tVar 12) (tVar 6))) (tVar 11) [11, 12] [v0, v1, v2, v3, v4, some (.ref rr), some (.int (n : Nat)), v7, v8, v9, v10, v11, v12, v13] H Q := by
  dsimp only [tLc, iList]
  refine (val_var rfl) _ ⟨rr, rfl, ⟨_, SqL.of hu⟩, fun D nD => ?_⟩
  refine lc_list (K := K) (a := rr) (xs := us.map V.ref) (fun i H' => Same H H' ∧ H' D = some (.lst (((goneL n (RR.take i)).map fun a : Nat => (a : Int)).map V.int)) ∧ (goneL n (RR.take i)).length ≤ i) ⟨same_upd nD, upd_same, Nat.zero_le _⟩ (fun i H5 _ ⟨s5, _⟩ => SqL.of (s5 _ _ hu)) (fun i x H5 ex hI => ?_) fun H5 hI => ?_
  · obtain ⟨s5, hD, ly⟩ := hI
    obtain ⟨t, et, rfl⟩ : ∃ t, us[i]? = some t ∧ x = .ref t := by
      rw [List.getElem?_map] at ex
      cases e : us[i]? with
      | none => rw [e] at ex; cases ex
      | some i => rw [e] at ex; exact ⟨i, rfl, (Option.some.inj ex).symm⟩
    obtain ⟨q, eq, mx, hq, hmx⟩ := paired_at i pr et
    have ilt := (List.getElem?_eq_some_iff.mp et).1
    have tk : RR.take (i + 1) = RR.take i ++ [q] := by
      rw [List.take_succ, eq]
      rfl
    refine ⟨t, _, rfl, SqT.of (s5 _ _ hq), rfl, _, _, rfl, _, _, rfl, rfl, ?_⟩
    refine ⟨rfl, ?_⟩
    refine (ans_i0 (i := mx) (j := (n : Int)) (val_var rfl) (val_var rfl)) _ ?_
    rw [max_gone hmx, tk]
    unfold goneL at hD ly ⊢
    rw [List.filter_append]
    cases c : inN n q.2 with
    | true =>
      rw [List.filter_cons_of_neg (by rw [c]; decide), List.filter_nil, List.append_nil]
      exact iteF ⟨s5, hD, Nat.le_succ_of_le ly⟩
    | false =>
      rw [List.filter_cons_of_pos (by rw [c]; rfl), List.filter_nil]
      refine iteT ?_
      refine (val_var rfl) _ ⟨_, hD, by rw [List.length_map, List.length_map]; exact Nat.lt_of_le_of_lt ly (Nat.lt_trans (show i < 2000 by omega) (by decide)), fun b o e => ?_, ?_, ?_⟩
      · rw [upd_ne (ne_of_none e nD)]
        exact s5 b o e
      · rw [List.map_append, List.map_append, List.map_append]
        exact upd_same
      · rw [List.map_append, List.length_append]
        exact Nat.succ_le_succ ly
  · obtain ⟨s5, hD, ly⟩ := hI
    have e := Paired.length pr
    rw [List.length_map, List.take_of_length_le (by omega)] at hD
    exact k H5 D s5 hD
/-- the rows of a state -/
theorem rows_lc {v0 v1 v2 v3 v4 v5 v6 v7 v8 v10 v11 v12 v13 : Option V} {d : Addr} {os : StA} {H : Hp} {Q : VK} (hs : StK H d os) (few : os.length ≤ 4000)
    (k : ∀ (H' : Hp) (D : Addr) (ts : List Addr), Same H H' → H' D = some (.lst (ts.map V.ref)) → DqA H' (ts.map V.ref) ((sortK (os.map (·.1))).map (rowD os)) → Q (.ref D) H') :
    tLc (iList K (tCB rSDT (tCons (tVar 9) tNil))) (gName 13) tYes (tTup (tCons (keyIx K 0) (tCons (keyIx K 1) (tCons (tCB (rTup K) (tCons (tCB rSIt (tCons (tItemsK (tDGet (tVar 9) (tVar 13))) tNil)) tNil)) tNil)))) [13] [v0, v1, v2, v3, v4, v5, v6, v7, v8, some (.ref d), v10, v11, v12, v13] H Q := by
  obtain ⟨zs, hd, za, nd, zv⟩ := hs
  have ek : zs.map (·.1) = os.map (·.1) := by rw [← zacc_keys, za]
  dsimp only [tLc, iList, tCB, tCons, tNil]
  refine (val_var rfl) _ ⟨d, tkv zs, zs.map (·.1), rfl, hd, by unfold tkv; rw [List.map_map, List.map_map]; rfl, fun ks p pks np => ?_⟩
  rw [ek] at pks
  have s1 := same_upd (o := .lst (ks.map V.ref)) np
  have hp : (upd H p (.lst (ks.map V.ref))) p = some (.lst (ks.map V.ref)) := upd_same
  generalize (upd H p (.lst (ks.map V.ref))) = H1 at s1 hp ⊢
  refine ⟨p, rfl, ⟨_, SqL.of hp⟩, fun D nD => ?_⟩
  have lk : ks.length = (sortK (os.map (·.1))).length := Paired.length pks
  have lk2 : (sortK (os.map (·.1))).length = os.length := by unfold sortK; rw [List.length_mergeSort, List.length_map]
  refine lc_list (K := K) (a := p) (xs := ks.map V.ref) (fun i H' => Same H1 H' ∧ ∃ ts : List Addr, H' D = some (.lst (ts.map V.ref)) ∧ DqA H' (ts.map V.ref) (((sortK (os.map (·.1))).take i).map (rowD os)) ∧ ts.length = i) ⟨same_upd nD, [], upd_same, .nil, rfl⟩ (fun i H5 _ ⟨s5, _⟩ => SqL.of (s5 _ _ hp)) (fun i x H5 ex hI => ?_) fun H5 hI => ?_
  · obtain ⟨s5, ts, hD, da, lt⟩ := hI
    obtain ⟨t, et, rfl⟩ : ∃ t, ks[i]? = some t ∧ x = .ref t := by
      rw [List.getElem?_map] at ex
      cases e : ks[i]? with
      | none => rw [e] at ex; cases ex
      | some i => rw [e] at ex; exact ⟨i, rfl, (Option.some.inj ex).symm⟩
    obtain ⟨ky, eky, hky⟩ := paired_at i pks et
    have ilt := (List.getElem?_eq_some_iff.mp et).1
    have kyin : ky ∈ zs.map (·.1) := by
      rw [ek]
      have := List.mem_of_getElem? eky
      unfold sortK at this
      exact List.mem_mergeSort.mp this
    obtain ⟨z, hz, rfl⟩ := List.mem_map.mp kyin
    have tk : (sortK (os.map (·.1))).take (i + 1) = (sortK (os.map (·.1))).take i ++ [z.1] := by
      rw [List.take_succ, eky]
      rfl
    have zo : osAt os z.1 = z.2.2 := by
      have : (z.1, z.2.2) ∈ os := by
        rw [← za]
        exact List.mem_map_of_mem (f := fun z : (Str × Int) × Addr × Outs => (z.1, z.2.2)) hz
      exact osAt_mem (q := (z.1, z.2.2)) (ek ▸ nd) this
    have hk5 := s5 _ _ (s1 _ _ hky)
    dsimp only [gName]
    refine ⟨rfl, ?_⟩
    dsimp only [tYes]
    rw [if_pos rfl]
    dsimp only [tTup, tCons, tNil]
    refine (key_ix rfl hk5 rfl) _ ((key_ix rfl hk5 rfl) _ ?_)
    dsimp only [tCB, tItemsK, tDGet, tCons, tNil]
    refine (val_var rfl) _ ((val_var rfl) _ ⟨d, .ref z.2.1, rfl, ?_, ?_⟩)
    · have g := DGet.t (k := keyV z.1) (s5 _ _ (s1 _ _ hd)) hk5
      rw [tkv_get nd hz] at g
      exact g
    have hz5 := s5 _ _ (s1 _ _ (zv z hz))
    refine ⟨z.2.1, _, rfl, hz5, fun pi npi => ?_⟩
    have s6 := same_upd (o := L2.DX.itemsO pi z.2.1) npi
    have hpi : (upd H5 pi (L2.DX.itemsO pi z.2.1)) pi = some (L2.DX.itemsO pi z.2.1) := upd_same
    generalize (upd H5 pi (L2.DX.itemsO pi z.2.1)) = H6 at s6 hpi ⊢
    refine ⟨pi, z.2.1, z.2.2, rfl, hpi, s6 _ _ hz5, fun H7 l us s7 hl pus => ?_⟩
    refine ⟨l, _, rfl, .inl ⟨SqL.of hl, fun o no => ?_⟩⟩
    have s8 := same_upd (o := .tup (us.map V.ref)) no
    have ho : (upd H7 o (.tup (us.map V.ref))) o = some (.tup (us.map V.ref)) := upd_same
    have pus8 : Paired (fun t (q : Int × Int) => (upd H7 o (.tup (us.map V.ref))) t = some (.tup [.int q.1, .int q.2])) us (sortI z.2.2) := Paired.mapP pus fun _ _ e => s8 _ _ e
    have s58 := s6.trans (s7.trans s8)
    generalize (upd H7 o (.tup (us.map V.ref))) = H8 at s8 ho pus8 s58 ⊢
    refine ⟨by show 3 ≤ sizeLine; decide, fun t9 nt9 => ?_⟩
    have s9 := same_upd (o := .tup [.str z.1.1, .int z.1.2, .ref o]) nt9
    have ht9 : (upd H8 t9 (.tup [.str z.1.1, .int z.1.2, .ref o])) t9 = some (.tup [.str z.1.1, .int z.1.2, .ref o]) := upd_same
    have s59 := s58.trans s9
    have dr : Dq (upd H8 t9 (.tup [.str z.1.1, .int z.1.2, .ref o])) (.ref t9) (rowD os z.1) := by
      refine .tup ht9 (.cons (.str _) (.cons (.int _) (.cons ?_ .nil)))
      rw [zo]
      exact .tup (s9 _ _ ho) (dq_pairs (Paired.mapP pus8 fun _ _ e => s9 _ _ e))
    generalize (upd H8 t9 (.tup [.str z.1.1, .int z.1.2, .ref o])) = H9 at s59 dr ⊢
    have hD9 := s59 _ _ hD
    have tkp : TKeep H9 (upd H9 D (.lst (ts.map V.ref ++ [.ref t9]))) := TKeep.but (SameBut.upd D H9 _) hD9
    refine ⟨_, hD9, by rw [List.length_map, lt]; exact Nat.lt_trans (show i < 5000 by omega) (by decide), fun b o e => ?_, ts ++ [t9], by rw [List.map_append]; exact upd_same, ?_, by rw [List.length_append, lt]; rfl⟩
    · rw [upd_ne (ne_of_none e nD)]
      exact s59 _ _ (s5 b o e)
    · rw [tk, List.map_append, List.map_append]
      exact dqA_app (DqA.keep tkp _ (noLA_map (noL_row os) _) (DqA.mono s59 _ da)) (Dq.keep tkp _ (noL_row os _) dr)
  · obtain ⟨s5, ts, hD, da, lt⟩ := hI
    rw [List.length_map, List.take_of_length_le (by omega)] at da
    exact k H5 D ts (s1.trans s5) hD da
end
section
variable {P : Program} {w : World} {K : PySem.W.Frag} {mg : Str → Option Value} {base : Heap}
theorem ok_reading {f fP fT : Addr} {fd fdP fdT : FuncData} (B : Bt mg) (ms : mg "sorted" = none) (D : Df K mg "_law_reading" s__law_reading f fd ["_law_worths", "_law_page"])
    (DP : Df K mg "_law_parted" s__law_parted fP fdP ["_law_worths", "_law_lines"]) (GP : FnOk P w K mg base CX0 5 fP fdP ["_law_worths", "_law_lines"] spParted)
    (DT : Df K mg "_law_states_there" s__law_states_there fT fdT ["_law_lines"]) (GT : FnOk P w K mg base CX0 1 fT fdT ["_law_lines"] spLThere) :
    FnOk P w K mg base CX0 6 f fd ["_law_worths", "_law_page"] spReading := by
  refine D.F.ok sc__law_reading (fun vs H Q E h => ?_) (fun cdv A outer s H vs Q E hr h => ?_)
  · obtain ⟨m, z, rfl, _⟩ := h
    rfl
  · obtain ⟨m, z, rfl, m4, zl, zo, few, k⟩ := h
    have S := sc__law_reading
    have hu := hr.units
    refine ⟨_, (pss_cons (ps_set (i := 2) S.nd rfl (.inl rfl) (pe_bm PySem.F.plainAttrs_str PySem.F.slot_str_split PySem.F.type_str_split mt_split (pv 1) (pa_cons pe_str pa_nil)))
      (pss_cons (ps_asg (pe_call GP (hr.mono (by decide)) (by rfl) DP.g DP.F.kp DP.b .nil pass0 (pa_cons (pv 0) (pa_cons (pv 2) pa_nil))) (pg_tup (by rfl) (pgs_cons (pg_name (i := 3) S.nd rfl (.inl rfl)) (pgs_cons (pg_name (i := 4) S.nd rfl (.inl rfl)) (pgs_cons (pg_name (i := 5) S.nd rfl (.inl rfl)) pgs_nil)))))
      (pss_cons (ps_set (i := 6) S.nd rfl (.inr rfl) (pe_call GT (hr.mono (by decide)) (by rfl) DT.g DT.F.kp DT.b .nil pass0 (pa_cons (pv 2) pa_nil)))
      (pss_cons (ps_setLc (i := 7) (own := [("_law_at", 11), ("_law_later", 12)]) (g := gTup K 2 (gCons (gName 11) (gCons (gName 12) gNil))) (by rfl) S.nd rfl rfl (sw_true rfl rfl rfl (by decide +kernel)) (pi_list (pv 5)) (blkOk_by (own := [("_law_at", 11), ("_law_later", 12)]) (N := nmRd) (sc := defScope s__law_reading) (by decide +kernel)) (fun _ _ _ _ _ => pg_tup (by rfl) (pgs_cons (pg_name (i := 11) S.nd rfl (Or.inl rfl)) (pgs_cons (pg_name (i := 12) S.nd rfl (Or.inl rfl)) pgs_nil))) (fun _ _ _ _ _ => pts_one (pt_cmpR op_ge (pv 12) (pv 6) (nomark _))) (fun _ _ _ _ _ => (pv 11)))
      (pss_cons (ps_if (pt_cmpR (op_neD (by exact hu)) (pv 7) (pe_lst pa_nil) (nomark _))
        (pss_one (ps_ret (pe_tup (pa_cons pe_str (pa_cons (pe_ix ix_list (pv 7) pe_int (fun _ _ => rfl)) pa_nil)))))
        pss_nil)
      (pss_cons (ps_if (pt_cmpR op_notN1 (pv 4) pe_non (nomark _))
        (pss_one (ps_ret (pe_tup (pa_cons pe_str (pa_cons (pv 4) pa_nil)))))
        pss_nil)
      (pss_cons (ps_set (i := 8) S.nd rfl (.inl rfl) (pe_lst pa_nil))
      (pss_cons (ps_for PassesOwn.never rfl (pi_list (pv 3)) (pg_name (i := 9) S.nd rfl (.inr rfl))
        (pss_cons (ps_setLc (i := 10) (own := [("_law_call", 13)]) (g := gName 13) (tt := tYes) (by rfl) S.nd rfl rfl (sw_true rfl rfl rfl (by decide +kernel)) (pi_list (pe_callB (call_sortedDT rfl (by exact hu)) (by rfl) ms (by decide +kernel) (pa_cons (pv 9) pa_nil))) (blkOk_by (own := [("_law_call", 13)]) (N := nmRd) (sc := defScope s__law_reading) (by decide +kernel)) (fun _ _ _ _ _ => pg_name (i := 13) S.nd rfl (Or.inl rfl)) (fun _ _ _ _ _ => pts_nil) (fun _ _ _ _ _ => (pe_tup (pa_cons (pe_ix (r := rIxT K) ix_tup (pv 13) pe_int (fun _ _ => rfl)) (pa_cons (pe_ix (r := rIxT K) ix_tup (pv 13) pe_int (fun _ _ => rfl)) (pa_cons (pe_callTy (r := rTup K) call_tuple_of (by rfl) B.m_tuple PyProof.Rows.boot_tuple (pa_cons (pe_callB (call_sortedItems rfl (by exact hu)) (by rfl) ms (by decide +kernel) (pa_cons (pe_itemsK (pe_dget (hu_of hr) (pv 9) (pv 13) (fun _ _ => rfl))) pa_nil)) pa_nil)) pa_nil))))))
      (pss_one (ps_expr (pe_bm PySem.F.plainAttrs_list PySem.F.slot_list_append PySem.F.type_list_append mt_append (pv 8) (pa_cons (pe_callTy call_tuple_of (by rfl) B.m_tuple PyProof.Rows.boot_tuple (pa_cons (pv 10) pa_nil)) pa_nil))))))
      (pss_one (ps_ret (pe_tup (pa_cons pe_str (pa_cons (pe_callTy call_tuple_of (by rfl) B.m_tuple PyProof.Rows.boot_tuple (pa_cons (pv 8) pa_nil)) pa_nil))))))))))))), ?_⟩
    refine asg_seq ?_
    refine bm_run (x := .str z) (val_var rfl) rfl ?_
    dsimp only [tCons, tNil]
    refine val_c _ ⟨z, "\n", rfl, rfl, by decide +kernel, big_size (by omega), fun lp nlp => ?_⟩
    have s1 := same_upd (o := .lst ((Txt.split z "\n").map V.str)) nlp
    have hl : (upd H lp (.lst ((Txt.split z "\n").map V.str))) lp = some (.lst ((rowsOf z).map V.str)) := upd_same
    generalize (upd H lp (.lst ((Txt.split z "\n").map V.str))) = H1 at s1 hl ⊢
    dsimp only [tSeq, tAsg]
    dsimp only [tCall, tCons, tNil]
    refine (val_var rfl) _ ((val_var rfl) _ ⟨m, lp, rowsOf z, rfl, m4, hl, rows_ne z, few, fun y hy => ⟨Nat.le_trans (split_len hy) zl, split_ok hy zo⟩, fun H2 t s2 pa => ?_⟩)
    obtain ⟨s_, rr, ds, us, ht, hs, hst, hrr, hpr⟩ := pa
    have hl2 := s2 _ _ hl
    have s02 := s1.trans s2
    have hres : readO m z = match lRes (lThere (rowsOf z) 0) [] (lPart m (rowsOf z) 400 0 0) with
      | .error e => .line (e : Nat)
      | .ok sts => .pact sts := rfl
    obtain ⟨bd1, bd2, bd3⟩ := lPart_bound m4 (rows := rowsOf z) 400 0 0
    generalize lPart m (rowsOf z) 400 0 0 = LP0 at ht hst hpr hres bd1 bd2 bd3
    have lus : us.length = LP0.rows.length := Paired.length hpr
    refine ⟨t, _, rfl, SqT.of ht, rfl, _, _, rfl, _, _, rfl, _, _, rfl, rfl, ?_⟩
    try dsimp only [gName, List.set]
    refine asg_seq ?_
    dsimp only [tCall, tCons, tNil]
    refine (val_var rfl) _ ⟨lp, rowsOf z, rfl, hl2, by omega, ?_⟩
    generalize lThere (rowsOf z) 0 = n at hres ⊢
    refine asg_seq (gone_lc (n := n) hrr hpr (by omega) fun H3 D s3 hD => ?_)
    have hs3 := s3 _ _ hs
    have hst3 : Paired (StK H3) ds (LP0.sts.map stI) := Paired.mapP hst fun _ _ e => e.same s3
    have s03 := s02.trans s3
    clear hs hst hrr hpr ht hl hl2 s1 s2 s3 s02
    dsimp only [tSeq, tIfS]
    refine tst_open ?_
    dsimp only [tLst, tNil]
    refine (val_var rfl) _ ⟨Nat.zero_le _, fun q6 nq6 => ?_⟩
    have s4 := same_upd (o := .lst []) nq6
    refine ⟨.list (((goneL n LP0.rows).map fun a : Nat => (a : Int)).map PyData.int), .list [], .lst (SqL.of (s4 _ _ hD)) dp_ints, .lst (SqL.of upd_same) .nil, ints_shaped, by decide, _, rfl, ?_⟩
    rw [eqvI_nil]
    generalize (upd H3 q6 (.lst [])) = H4 at s4 ⊢
    have hD4 := s4 _ _ hD
    have hs4 := s4 _ _ hs3
    have hst4 : Paired (StK H4) ds (LP0.sts.map stI) := Paired.mapP hst3 fun _ _ e => e.same s4
    have s04 := s03.trans s4
    clear hs3 hst3 s03 s4 hD nq6
    have hg := gone_head n LP0.rows
    unfold lRes at hres
    cases hL : goneL n LP0.rows with
    | cons a rest =>
      rw [hL] at hg hD4
      have hg : gone n LP0.rows = some a := hg
      rw [hg] at hres
      have hres : readO m z = .line (a : Nat) := hres
      rw [decide_eq_false (fun e => nomatch e)]
      refine iteT ?_
      show tTup _ _ _ _
      dsimp only [tTup, tCons, tNil]
      refine val_c _ ((val_ixL (K := K) (v := .int (a : Nat)) (val_var rfl) val_c (SqL.of hD4) (atI_nat (j := 0) rfl)) _ ⟨by show 2 ≤ sizeLine; decide, fun t9 nt9 => ?_⟩)
      refine k _ _ (s04.trans (same_upd nt9)) ?_
      rw [hres]
      exact .tup upd_same (.cons (.str _) (.cons (.int _) .nil))
    | nil =>
      rw [hL] at hg hD4
      have hg : gone n LP0.rows = none := hg
      rw [hg] at hres
      rw [List.map_nil, decide_eq_true rfl]
      refine iteF ?_
      dsimp only [tNext, tSeq, tIfS]
      cases hw : LP0.wrong with
      | some e =>
        rw [hw] at hres
        have hres : readO m z = .line (e : Nat) := hres
        refine (ans_notN (b := true) (val_var rfl) rfl) _ (iteT ?_)
        show tTup _ _ _ _
        dsimp only [tTup, tCons, tNil]
        refine val_c _ ((val_var rfl) _ ⟨by show 2 ≤ sizeLine; decide, fun t9 nt9 => ?_⟩)
        refine k _ _ (s04.trans (same_upd nt9)) ?_
        rw [hres]
        exact .tup upd_same (.cons (.str _) (.cons (.int _) .nil))
      | none =>
        rw [hw] at hres
        have hres : readO m z = .pact (LP0.sts.map stI) := hres
        refine (ans_notN (b := false) (val_var rfl) rfl) _ (iteF ?_)
        refine asg_seq ?_
        refine ⟨Nat.zero_le _, fun fl nfl => ?_⟩
        have s5 := same_upd (o := .lst []) nfl
        have hf : (upd H4 fl (.lst [])) fl = some (.lst []) := upd_same
        have hs5 := s5 _ _ hs4
        have hst5 : Paired (StK (upd H4 fl (.lst []))) ds (LP0.sts.map stI) := Paired.mapP hst4 fun _ _ e => e.same s5
        have s05 := s04.trans s5
        have nfl0 : H fl = none := s04.free nfl
        have flD : s_ ≠ fl := ne_of_none hs4 nfl
        generalize (upd H4 fl (.lst [])) = H5 at hf hs5 hst5 s05 ⊢
        clear hs4 hst4 s5 s04 nfl hD4
        have lds : ds.length = LP0.sts.length := by
          have := Paired.length hst5
          rw [List.length_map] at this
          exact this
        refine ⟨.ref s_, rfl, s_, rfl, ⟨_, SqL.of hs5⟩, ?_⟩
        show ∃ W : Nat → Nat → L2.St → Hp → Prop, _
        refine for_list (K := K) (a := s_) (xs := ds.map V.ref) (fun i σ' H' => ∃ (v9 v10 v11 v12 v13 : Option V) (ts : List Addr), σ' = [some (.int m), some (.str z), some (.ref lp), some (.ref s_), some .non, some (.ref rr), some (.int (n : Nat)), some (.ref D), some (.ref fl), v9, v10, v11, v12, v13] ∧ (∀ b o, b ≠ fl → H5 b = some o → H' b = some o) ∧ H' fl = some (.lst (ts.map V.ref)) ∧ DqA H' (ts.map V.ref) (((LP0.sts.map stI).take i).map stD) ∧ ts.length = i) ?_ ?_ ?_ ?_
        · exact ⟨none, none, none, none, none, [], rfl, fun _ _ _ h => h, hf, .nil, rfl⟩
        · rintro i σ' H' _ ⟨_, _, _, _, _, _, rfl, kp, _⟩
          exact SqL.of (kp _ _ flD hs5)
        · rintro i x σ' H6 ex ⟨v9, v10, v11, v12, v13, ts, rfl, kp, hf6, da, lt⟩
          obtain ⟨d, ed, rfl⟩ : ∃ t, ds[i]? = some t ∧ x = .ref t := by
            rw [List.getElem?_map] at ex
            cases e : ds[i]? with
            | none => rw [e] at ex; cases ex
            | some i => rw [e] at ex; exact ⟨i, rfl, (Option.some.inj ex).symm⟩
          obtain ⟨os, eo, hos⟩ := paired_at i hst5 ed
          have ilt := (List.getElem?_eq_some_iff.mp ed).1
          have bo : os.length ≤ 4000 := by
            obtain ⟨s, hs, rfl⟩ := List.mem_map.mp (List.mem_of_getElem? eo)
            have := bd2 s hs
            unfold stI
            rw [List.length_map]
            omega
          have hos6 : StK H6 d os := by
            obtain ⟨zs, h1, h2, h3, h4⟩ := hos
            exact ⟨zs, kp _ _ (fun e => by rw [e, hf] at h1; cases h1) h1, h2, h3, fun y hy => kp _ _ (fun e => by have := h4 y hy; rw [e, hf] at this; cases this) (h4 y hy)⟩
          have ib : ds.length ≤ 10000 := by omega
          dsimp only [gName]
          refine asg_seq (rows_lc hos6 bo fun H7 R us7 s7 hR da7 => ?_)
          dsimp only [tDrop]
          refine bm_run (x := .ref fl) (val_var rfl) (.inl ⟨rfl, _, SqL.of (s7 _ _ hf6)⟩) ?_
          dsimp only [tCB, tCons, tNil]
          refine (val_var rfl) _ ⟨R, _, rfl, .inl ⟨SqL.of hR, fun o no => ?_⟩⟩
          have s8 := same_upd (o := .tup (us7.map V.ref)) no
          have ho : (upd H7 o (.tup (us7.map V.ref))) o = some (.tup (us7.map V.ref)) := upd_same
          have s68 := s7.trans s8
          have da8 := DqA.mono s8 _ da7
          generalize (upd H7 o (.tup (us7.map V.ref))) = H8 at ho s68 da8 ⊢
          have hf8 := s68 _ _ hf6
          refine ⟨fl, ts.map V.ref, .ref o, rfl, rfl, hf8, by rw [List.length_map, lt]; exact Nat.lt_trans (show i < 20000 by omega) (by decide), ?_⟩
          have tkp : TKeep H8 (upd H8 fl (.lst (ts.map V.ref ++ [.ref o]))) := TKeep.but (SameBut.upd fl H8 _) hf8
          have tk : (LP0.sts.map stI).take (i + 1) = (LP0.sts.map stI).take i ++ [os] := by
            rw [List.take_succ, eo]
            rfl
          refine ⟨_, _, _, _, _, ts ++ [o], rfl, fun b u ne e => by rw [upd_ne ne]; exact s68 _ _ (kp b u ne e), by rw [List.map_append]; exact upd_same, ?_, by rw [List.length_append, lt]; rfl⟩
          rw [tk, List.map_append, List.map_append]
          refine dqA_app (DqA.keep tkp _ (noLA_map noL_st _) (DqA.mono s68 _ da)) (Dq.keep tkp _ (noL_st os) (.tup ho da8))
        · rintro σ' H6 ⟨v9, v10, v11, v12, v13, ts, rfl, kp, hf6, da, lt⟩
          rw [List.length_map, List.take_of_length_le (by rw [List.length_map]; omega)] at da
          dsimp only [tRet, tTup, tCB, tCons, tNil]
          refine val_c _ ((val_var rfl) _ ⟨fl, _, rfl, .inl ⟨SqL.of hf6, fun o no => ?_⟩⟩)
          have s8 := same_upd (o := .tup (ts.map V.ref)) no
          have ho : (upd H6 o (.tup (ts.map V.ref))) o = some (.tup (ts.map V.ref)) := upd_same
          have da8 := DqA.mono s8 _ da
          generalize (upd H6 o (.tup (ts.map V.ref))) = H8 at ho s8 da8 ⊢
          refine ⟨by show 2 ≤ sizeLine; decide, fun t9 nt9 => ?_⟩
          have s9 := same_upd (o := .tup [.str "pact", .ref o]) nt9
          refine k _ _ (fun b u e => s9 _ _ (s8 _ _ (kp _ _ (ne_of_none e nfl0) (s05 _ _ e)))) ?_
          rw [hres]
          exact .tup upd_same (.cons (.str _) (.cons (.tup (s9 _ _ ho) (DqA.mono s9 _ da8)) .nil))
end
end K5
namespace K5
open PySem PySem.Spec PyProof.Rows L2
/-! ### promises of defs that show things: they are called while nothing is being shown -/
structure FnG (P : Program) (w : World) (K : PySem.W.Frag) (mg : Str → Option Value) (base : Heap) (cx : CXT) (lv : Nat) (g : Addr) (rec : FuncData) (ns : List Str) (pr : Sp) : Prop where
  many : ∀ xs G R T, pr xs G R T → xs.length = ns.length
  does : ∀ (B : Around) (out : List Env) (st : Shared) (G : Hp) (as : Args) (zs : List Value) (xs : List V) (R : VK) (T : XK), B.guards = some [] → Room lv B →
    Env0 P w K mg base B out st G → BindsTo st rec as (ns.zip zs) → Vals xs zs → pr xs G R T → codeAny (model P w) B (.call (.ref g) as) (CR cx out P w G st R T) st
section
variable {P : Program} {w : World} {K : PySem.W.Frag} {mg : Str → Option Value} {base : Heap}
theorem okG {x qual : Str} {d : Stmt} {g : Addr} {rec : FuncData} {N ns : List Str} {lv : Nat} {pr : Sp} {cx : CXT} (F : Fun K x qual d g rec) (S : FnScope N ns (defScope d)) (many : ∀ xs G R T, pr xs G R T → xs.length = ns.length)
    (runs : ∀ (cd : Value) (B : Around) (out : List Env) (st : Shared) (G : Hp) (xs : List V) (R : VK) (T : XK), B.guards = some [] → Room lv (B.deeper (envOfC qual (defScope d) st.heap.objs.size g cd)) → pr xs G R T →
      ∃ t, PSs (cxOf cx P w K mg base N qual (defScope d) g cd B out st G T) (defBody d) t ∧ t { nx := fun _ G' => R .non G', rt := R } (start N xs) G) : FnG P w K mg base cx (lv + 1) g rec ns pr := by
  obtain ⟨oc, od, kV, doc, pm, an, cd, ct, sl, rfl, lk, hcd⟩ := F.ex
  constructor
  · exact many
  intro B out st G as zs xs R T gu room e bind rel p
  have size := many _ _ _ _ p
  have still : ∀ b o, base.get? b = some o → st.heap.get? b = some o := fun b o z => (e.bs b o z).1
  have inK : K.In st.heap := e.mod.kin.keeps still
  have nol : st.heap.NoLimit := e.mod.nolimit.keeps still
  have kinds : ∀ y ∈ ns.zip zs, (defScope d).names.lookup y.1 = some .local ∨ ((defScope d).names.lookup y.1 = some .cell ∧ ((cellsFrom (st.heap.objs.size + 1) (defScope d).names []).lookup y.1).isSome = true) := by
    rintro ⟨n, v⟩ hy
    have q := S.par n (List.of_mem_zip hy).1
    exact q.imp id fun c => ⟨c, PySem.W.cellsFrom_some _ _ _ (.inl c)⟩
  apply codeAny_call_function room.depth (inK _ _ lk) rfl S.co S.gen rfl (PySem.W.codeRec_of inK hcd)
  refine bind _ _ _ _ (wpAny_newFunctionEnv_cells S.kind kinds ?_)
  intro env he s1 ic
  subst he
  obtain ⟨t, ht, hq⟩ := runs cd B out st G xs R T gu (room.deeper _) p
  have I0 := inv_start (CX := cx) (P := P) (w := w) (K := K) (mg := mg) (base := base) (qual := qual) (cd := cd) (f := g) (E := T) S room.hd e size rel ic
  refine ⟨nol.keeps ic.toInCall.keep, codeAny_func (wpAny_mono (ht.run [] s1 (start N xs) G _ I0 hq) ?_ fun _ _ z => z)⟩
  intro fl s2 hs
  have ends : ∀ {σ2 : L2.St} {G2 : Hp} {v : V} {u : Value}, Inv (cxOf cx P w K mg base N qual (defScope d) g cd B out st G T) [] σ2 G2 s2 → RelV v u → R v G2 → CE out P w G st R u s2 := by
    intro σ2 G2 v u J r q
    exact ⟨v, G2, J.os, J.bare, J.base, J.hok, r, q⟩
  match fl, hs with
  | .ret u, ⟨v, σ2, G2, J, r, q⟩ => exact ends J r q
  | .next, ⟨σ2, G2, J, q⟩ => exact ends (v := V.non) (u := Value.none) J rfl q
  | .brk, ⟨_, _, _, q⟩ => exact q.elim
  | .cont, ⟨_, _, _, q⟩ => exact q.elim
end
section
variable {X : Cx} {cx : CXT} {k : Nat} {f : Addr} {fd : FuncData} {ps : List Str} {sp : Sp} {x : Str} {E : XK} {p pos : Pos} {e : Expr} {es : List Expr} {t : TA}
theorem pe_callG (F : FnG X.prog X.w X.K X.mg X.base cx k f fd ps sp) (gu : X.A.guards = some []) (room : Room k X.A) (gl : Gl X x) (hm : X.mg x = some (.ref f)) (kp : PySem.W.keepIn X.K (.ref f) = true) (hb : Binds X.K fd ps []) (out : Passes cx X E)
    (ha : PA X (e :: es) t) (hdb : (x == ("__debug__" : Str)) = false := by decide) (he : starEach (e :: es) X.env = (false, eval e X.env) :: starEach es X.env := by rfl) (hpl : (backTo pos (starEach es X.env)).any (·.1) = false := by rfl) :
    PE X (.Call (.Name x p) (e :: es) [] pos) (tCall sp [] E t) := by
  constructor
  intro pins s σ H Q I h
  apply wpAny_Call_Name_kw
  apply ld_glob I gl hm _ hdb
  apply PySem.W.callWith_K (h₀ := X.base) I.ok.mod.kin kp _ he hpl
  refine thn (ha.run pos pins s σ H _ I h) ?_
  rintro us s1 ⟨vs, H1, I1, r, q⟩
  rw [List.append_nil] at q
  refine ⟨I1.kIn, wpAny_call (codeAny_mono (F.does X.A X.stack s1 H1 ⟨us, []⟩ us vs Q E gu room I1.env0 ?_ r q) ?_)⟩
  · have z := hb s1 us I1.kIn (by rw [List.append_nil, ← r.length]; exact F.many _ _ _ _ q)
    rw [List.append_nil] at z
    exact z
  · intro res s2 hq
    match res, hq with
    | .error v, hq => exact out pins σ H1 s1 v s2 I1 hq
    | .ok (.ret u), hq => exact I1.after hq
    | .ok .next, hq => exact hq.elim
    | .ok .brk, hq => exact hq.elim
    | .ok .cont, hq => exact hq.elim
end
/-! ### repr of any value -/
structure ShOk (d : PyData) : Prop where
  s : d.showable = true
  l : d.hasDict = true → listIn d = false
  z : d.shown.length ≤ sizeLine
  d : d.depth ≤ 50
def rReprQ : List V → Hp → VK → Prop := fun xs H Q => ∃ (x : V) (d : PyData), xs = [x] ∧ Dq H x d ∧ ShOk d ∧ Q (.str d.shown) H
section
variable {X : Cx}
theorem call_reprQ (gu : X.A.guards = some []) (hu : X.A.units + 64 < cLine) : CallR X (.builtin "repr") rReprQ := by
  intro pins s σ H xs us Q I r h
  obtain ⟨x, d, rfl, hd, sh, q⟩ := h
  obtain ⟨u, rfl, ru⟩ := r.one
  have sz := sh.z
  cases hd with
  | non =>
    obtain rfl : u = Value.none := ru
    exact PySem.P.repr_of_none ⟨.str _, H, I.tok _, ⟨_, rfl⟩, q⟩
  | bl b =>
    obtain rfl : u = Value.bool b := ru
    exact PySem.P.repr_of_bool ⟨.str _, H, I.tok _, ⟨_, rfl⟩, q⟩
  | int i =>
    obtain ⟨t, rfl⟩ := ru
    exact PySem.P.repr_of_int (of_decide_eq_true sh.s) ⟨.str _, H, I.tok _, ⟨_, rfl⟩, q⟩
  | str z =>
    obtain ⟨t, rfl⟩ := ru
    exact PySem.P.repr_of_str ⟨.str _, H, I.tok _, ⟨_, rfl⟩, q⟩ sz
  | lst h a =>
    cases ru
    obtain ⟨as, rd, hm⟩ := Dq.reads I _ _ _ (Dq.lst h a) rfl
    exact repr_of_reads' rd sh.s (fun e => hm (sh.l e)) gu (by have := sh.d; omega) (fun _ _ e => e) (fun h' u tk hk => ⟨.str _, H, I.kept hk, ⟨u, rfl⟩, q⟩) sz
  | tup h a =>
    cases ru
    obtain ⟨as, rd, hm⟩ := Dq.reads I _ _ _ (Dq.tup h a) rfl
    exact repr_of_reads' rd sh.s (fun e => hm (sh.l e)) gu (by have := sh.d; omega) (fun _ _ e => e) (fun h' u tk hk => ⟨.str _, H, I.kept hk, ⟨u, rfl⟩, q⟩) sz
  | dic h =>
    cases ru
    obtain ⟨as, rd, hm⟩ := Dq.reads I _ _ _ (Dq.dic h) rfl
    exact repr_of_reads' rd sh.s (fun e => hm (sh.l e)) gu (by have := sh.d; omega) (fun _ _ e => e) (fun h' u tk hk => ⟨.str _, H, I.kept hk, ⟨u, rfl⟩, q⟩) sz
end
section
variable {K : PySem.W.Frag} {σ : L2.St} {H : Hp} {ta : TE} {x : V} {d : PyData}
theorem val_reprQ (ha : Val ta σ H x) (hd : Dq H x d) (s : ShOk d) : Val (tCB rReprQ (tCons ta tNil)) σ H (.str d.shown) := fun Q q => ha _ ⟨x, d, rfl, hd, s, q⟩
end
/-! ### how much data is told -/
structure Sm (w p : Nat) (d : PyData) : Prop where
  s : d.showable = true
  l : d.leavesShort 13 = true
  w : d.weight ≤ w
  p : d.depth ≤ p
  h : d.hasDict = false
structure SmA (w p : Nat) (ds : List PyData) : Prop where
  s : PyData.showableAll ds = true
  l : PyData.leavesShortAll 13 ds = true
  w : PyData.weightAll ds ≤ w
  p : PyData.depthAll ds ≤ p
  h : PyData.hasDictAll ds = false
theorem Sm.sh {w p : Nat} {d : PyData} (h : Sm w p d) (hw : w ≤ 1000000) (hp : p ≤ 50) : ShOk d := ⟨h.s, (fun e => by rw [h.h] at e; cases e), PyData.shown_fits (by decide) (by decide) h.l (Nat.le_trans h.w (Nat.le_trans hw (by decide))), Nat.le_trans h.p hp⟩
theorem SmA.nil {p : Nat} : SmA 0 p [] := ⟨rfl, rfl, Nat.le_refl _, Nat.zero_le _, rfl⟩
theorem SmA.cons {w v p : Nat} {d : PyData} {ds : List PyData} (a : Sm w p d) (b : SmA v p ds) : SmA (w + 1 + v) p (d :: ds) := ⟨by
  show (d.showable && PyData.showableAll ds) = true
  rw [a.s, b.s]
  rfl, by
  show (d.leavesShort 13 && PyData.leavesShortAll 13 ds) = true
  rw [a.l, b.l]
  rfl, by
  have := a.w
  have := b.w
  show d.weight + 1 + PyData.weightAll ds ≤ _
  omega, by
  have := a.p
  have := b.p
  show max d.depth (PyData.depthAll ds) ≤ _
  omega, by
  show (d.hasDict || PyData.hasDictAll ds) = false
  rw [a.h, b.h]
  rfl⟩
theorem SmA.tup {w p : Nat} {ds : List PyData} (h : SmA w p ds) : Sm w (p + 1) (.tuple ds) := ⟨h.s, h.l, h.w, Nat.succ_le_succ h.p, h.h⟩
theorem Sm.mono {w p w' p' : Nat} {d : PyData} (h : Sm w p d) (hw : w ≤ w') (hp : p ≤ p') : Sm w' p' d := ⟨h.s, h.l, Nat.le_trans h.w hw, Nat.le_trans h.p hp, h.h⟩
theorem SmA.mono {w p w' p' : Nat} {d : List PyData} (h : SmA w p d) (hw : w ≤ w') (hp : p ≤ p') : SmA w' p' d := ⟨h.s, h.l, Nat.le_trans h.w hw, Nat.le_trans h.p hp, h.h⟩
theorem int_small : ∀ i : Fin 420, (PyData.showable (.int ((i.val : Int) - 10)) && (PyData.leavesShort 13 (.int ((i.val : Int) - 10)) && decide (PyData.weight (.int ((i.val : Int) - 10)) ≤ 10))) = true := by decide +kernel
theorem sm_int {i : Int} (h0 : -10 ≤ i) (h1 : i < 410) : Sm 10 0 (.int i) := by
  have := int_small ⟨(i + 10).toNat, by omega⟩
  rw [show (((i + 10).toNat : Nat) : Int) - 10 = i by omega, Bool.and_eq_true, Bool.and_eq_true] at this
  exact ⟨this.1, this.2.1, of_decide_eq_true this.2.2, Nat.le_refl _, rfl⟩
theorem sm_str {n : Nat} {z : Str} (hl : z.length ≤ n) (ho : PyData.strOk z = true) : Sm n 0 (.str z) := ⟨rfl, PyData.leavesShort_of_canLay0 13 (.str z) ho rfl, hl, Nat.le_refl _, rfl⟩
theorem sm_map {α : Type} {f : α → PyData} {g : α → Nat} {c p : Nat} : ∀ {l : List α}, (∀ x ∈ l, Sm (c * g x) p (f x)) → SmA (c * (l.map g).sum + l.length) p (l.map f)
  | [], _ => SmA.nil
  | x :: l, h => by
    have a := SmA.cons (h x (List.mem_cons_self ..)) (sm_map (l := l) fun y hy => h y (List.mem_cons_of_mem _ hy))
    refine a.mono ?_ (Nat.le_refl _)
    rw [List.map_cons, List.sum_cons, List.length_cons, Nat.mul_add]
    omega
theorem sum_const {α : Type} (c : Nat) : ∀ l : List α, (l.map fun _ => c).sum = c * l.length
  | [] => rfl
  | x :: l => by rw [List.map_cons, List.sum_cons, sum_const c l, List.length_cons, Nat.mul_succ]; omega
theorem nodup_le {α : Type} [DecidableEq α] : ∀ {l k : List α}, l.Nodup → (∀ x ∈ l, x ∈ k) → l.length ≤ k.length
  | [], _, _, _ => Nat.zero_le _
  | x :: l, k, nd, h => by
    rw [List.nodup_cons] at nd
    have hx := h x (List.mem_cons_self ..)
    have := nodup_le (l := l) (k := k.erase x) nd.2 fun y hy => by
      have : y ≠ x := fun e => nd.1 (e ▸ hy)
      exact (List.mem_erase_of_ne this).mpr (h y (List.mem_cons_of_mem _ hy))
    rw [List.length_erase_of_mem hx] at this
    have := List.length_pos_of_mem hx
    rw [List.length_cons]
    omega
theorem LoI.few {o : LO} (h : LoI o) : o.length ≤ 6 := by
  have := nodup_le (k := ([-2, -1, 0, 1, 2, 3] : List Int)) h.n fun x hx => by
    obtain ⟨q, hq, rfl⟩ := List.mem_map.mp hx
    obtain ⟨a, b⟩ := h.b q hq
    have : q.1 = -2 ∨ q.1 = -1 ∨ q.1 = 0 ∨ q.1 = 1 ∨ q.1 = 2 ∨ q.1 = 3 := by omega
    rcases this with e | e | e | e | e | e <;> rw [e] <;> decide
  rw [List.length_map] at this
  exact this
/-- a row of a state that is read -/
structure RowQ (q : (Str × Int) × LO) : Prop where
  d : q.1.1.length ≤ 8
  o : PyData.strOk q.1.1 = true
  w : 0 ≤ q.1.2 ∧ q.1.2 < 4
  l : LoI q.2
theorem low_ok {z : Str} (h : lowAll z = true) : PyData.strOk z = true := by
  unfold PyData.strOk
  unfold lowAll at h
  rw [Array.all_eq_true']
  rw [List.all_eq_true] at h
  intro c hc
  have := of_decide_eq_true (h c (Array.mem_toList_iff.mpr hc))
  exact decide_eq_true (by omega)
theorem lSt_in {m : Nat} (hm : m ≤ 4) : ∀ (rs : List Str) (at_ : Nat) (acc : StL), (∀ q ∈ (lSt m rs at_ acc).st, q ∈ acc ∨ (RowQ q ∧ ∃ r ∈ (lSt m rs at_ acc).rows, r.2 = q.2)) ∧ (lSt m rs at_ acc).st.length ≤ acc.length + 4 * (lSt m rs at_ acc).rows.length
  | [], at_, acc => ⟨fun q h => .inl h, Nat.le_add_right _ _⟩
  | z :: rs, at_, acc => by
    have rhs : lSt m (z :: rs) at_ acc = match lWords z 1 with
      | none => ⟨acc, at_, [], false⟩
      | some ws => match lRow m ws with
        | none => ⟨acc, at_, [], true⟩
        | some q => if ∀ w ∈ q.2.1, (q.1, w) ∉ acc.map (·.1) then
            ⟨(lSt m rs (at_ + 1) (acc ++ q.2.1.map fun w => ((q.1, w), q.2.2))).st, (lSt m rs (at_ + 1) (acc ++ q.2.1.map fun w => ((q.1, w), q.2.2))).at_, (at_, q.2.2) :: (lSt m rs (at_ + 1) (acc ++ q.2.1.map fun w => ((q.1, w), q.2.2))).rows, (lSt m rs (at_ + 1) (acc ++ q.2.1.map fun w => ((q.1, w), q.2.2))).bad⟩
          else ⟨acc, at_, [], true⟩ := rfl
    rw [rhs]
    split
    · exact ⟨fun q h => .inl h, Nat.le_add_right _ _⟩
    · split
      · exact ⟨fun q h => .inl h, Nat.le_add_right _ _⟩
      · rename_i q hq
        have ok := lRow_ok hm hq
        split
        · obtain ⟨h1, h2⟩ := lSt_in hm rs (at_ + 1) (acc ++ q.2.1.map fun w => ((q.1, w), q.2.2))
          have := ok.wl
          rw [List.length_append, List.length_map] at h2
          refine ⟨fun x hx => ?_, ?_⟩
          · rcases h1 x hx with h | ⟨a, r, hr, e⟩
            · rcases List.mem_append.mp h with h | h
              · exact .inl h
              · obtain ⟨w, hw, rfl⟩ := List.mem_map.mp h
                exact .inr ⟨⟨ok.dl, low_ok ok.da, ok.wb w hw, ok.o⟩, (at_, q.2.2), List.mem_cons_self .., rfl⟩
            · exact .inr ⟨a, r, List.mem_cons_of_mem _ hr, e⟩
          · show (lSt m rs (at_ + 1) (acc ++ q.2.1.map fun w => ((q.1, w), q.2.2))).st.length ≤ acc.length + 4 * ((lSt m rs (at_ + 1) (acc ++ q.2.1.map fun w => ((q.1, w), q.2.2))).rows.length + 1)
            omega
        · exact ⟨fun q h => .inl h, Nat.le_add_right _ _⟩
theorem lPart_in {m : Nat} {rows : List Str} (hm : m ≤ 4) : ∀ (f at_ k : Nat), (∀ s ∈ (lPart m rows f at_ k).sts, ∀ q ∈ s, RowQ q ∧ ∃ r ∈ (lPart m rows f at_ k).rows, r.2 = q.2) ∧ ((lPart m rows f at_ k).sts.map (·.length)).sum ≤ 4 * (lPart m rows f at_ k).rows.length
  | 0, _, _ => ⟨(fun s h => nomatch h), Nat.zero_le _⟩
  | f + 1, at_, k => by
    obtain ⟨b1, b2⟩ := lSt_in hm (rows.drop (at_ + 1)) (at_ + 1) []
    have b1 : ∀ q ∈ (lSt m (rows.drop (at_ + 1)) (at_ + 1) []).st, RowQ q ∧ ∃ r ∈ (lSt m (rows.drop (at_ + 1)) (at_ + 1) []).rows, r.2 = q.2 := fun q hq => (b1 q hq).resolve_left (fun h => nomatch h)
    simp only [List.length_nil] at b2
    rw [lPart_step]
    split
    · split
      · refine ⟨fun s h q hq => ?_, ?_⟩
        · rw [List.mem_singleton.mp h] at hq
          exact b1 q hq
        · show (lSt m (rows.drop (at_ + 1)) (at_ + 1) []).st.length + 0 ≤ 4 * (lSt m (rows.drop (at_ + 1)) (at_ + 1) []).rows.length
          omega
      · split
        · obtain ⟨c1, c2⟩ := lPart_in hm (rows := rows) f (lSt m (rows.drop (at_ + 1)) (at_ + 1) []).at_ (k + 1)
          refine ⟨fun s h q hq => ?_, ?_⟩
          · rcases List.mem_cons.mp h with e | h
            · rw [e] at hq
              obtain ⟨x, r, hr, er⟩ := b1 q hq
              exact ⟨x, r, List.mem_append_left _ hr, er⟩
            · obtain ⟨x, r, hr, er⟩ := c1 s h q hq
              exact ⟨x, r, List.mem_append_right _ hr, er⟩
          · show (List.map (·.length) ((lSt m (rows.drop (at_ + 1)) (at_ + 1) []).st :: (lPart m rows f (lSt m (rows.drop (at_ + 1)) (at_ + 1) []).at_ (k + 1)).sts)).sum ≤ 4 * ((lSt m (rows.drop (at_ + 1)) (at_ + 1) []).rows ++ (lPart m rows f (lSt m (rows.drop (at_ + 1)) (at_ + 1) []).at_ (k + 1)).rows).length
            rw [List.map_cons, List.sum_cons, List.length_append]
            omega
        · refine ⟨fun s h q hq => ?_, ?_⟩
          · rw [List.mem_singleton.mp h] at hq
            exact b1 q hq
          · show (lSt m (rows.drop (at_ + 1)) (at_ + 1) []).st.length + 0 ≤ 4 * (lSt m (rows.drop (at_ + 1)) (at_ + 1) []).rows.length
            omega
    · exact ⟨(fun s h => nomatch h), Nat.zero_le _⟩
theorem gone_none {n : Nat} : ∀ {RR : List (Nat × LO)}, gone n RR = none → ∀ r ∈ RR, inN n r.2 = true
  | q :: l, h, r, hr => by
    have h : (if inN n q.2 = true then gone n l else some q.1) = none := h
    by_cases c : inN n q.2 = true
    · rw [if_pos c] at h
      rcases List.mem_cons.mp hr with e | hr
      · rw [e]
        exact c
      · exact gone_none h r hr
    · rw [if_neg c] at h
      cases h
theorem sm_outs {lo : LO} {n : Nat} (h : LoI lo) (hn : n ≤ 400) (i : inN n lo = true) : Sm 138 2 (outsD (lI lo)) := by
  unfold outsD
  have hm : ∀ q ∈ sortI (lI lo), Sm (22 * 1) 1 (.tuple [.int q.1, .int q.2]) := fun q hq => by
    have hq := (sortI_perm (lI lo)).mem_iff.mp hq
    obtain ⟨x, hx, rfl⟩ := List.mem_map.mp hq
    have hb := h.b x hx
    have hi := of_decide_eq_true (List.all_eq_true.mp i x hx)
    exact ((SmA.cons (sm_int (i := x.1) (by omega) (by omega)) (SmA.cons (sm_int (i := ((x.2 : Nat) : Int)) (by omega) (by omega)) SmA.nil)).mono (by decide) (Nat.le_refl _)).tup
  have a := sm_map hm
  have le : (sortI (lI lo)).length ≤ 6 := by
    rw [(sortI_perm (lI lo)).length_eq]
    unfold lI
    rw [List.length_map]
    exact h.few
  rw [sum_const] at a
  exact (a.mono (by omega) (Nat.le_refl _)).tup
theorem there_le : ∀ (rs : List Str) (k : Nat), lThere rs k ≤ k + rs.length
  | [], k => Nat.le_refl _
  | z :: r, k => by
    show lThere r (if z = stateRow k then k + 1 else k) ≤ k + (r.length + 1)
    split
    · have := there_le r (k + 1)
      omega
    · have := there_le r k
      omega
theorem sm_row {st : StL} {n : Nat} (ok : StOk (stI st)) {q : (Str × Int) × LO} (hq : q ∈ st) (rq : RowQ q) (hn : n ≤ 400) (i : inN n q.2 = true) : Sm 160 3 (rowD (stI st) q.1) := by
  unfold rowD
  have e : osAt (stI st) q.1 = lI q.2 := osAt_mem ok.n (q := (q.1, lI q.2)) (List.mem_map_of_mem (f := fun q : (Str × Int) × LO => (q.1, lI q.2)) hq)
  rw [e]
  have := rq.w
  exact ((SmA.cons ((sm_str rq.d rq.o).mono (Nat.le_refl _) (by decide)) (SmA.cons ((sm_int (i := q.1.2) (by omega) (by omega)).mono (Nat.le_refl _) (by decide)) (SmA.cons (sm_outs rq.l hn i) SmA.nil))).mono (by decide) (Nat.le_refl _)).tup
theorem sm_st {st : StL} {n : Nat} (ok : StOk (stI st)) (h : ∀ q ∈ st, RowQ q ∧ inN n q.2 = true) (hn : n ≤ 400) : Sm (161 * st.length) 4 (stD (stI st)) := by
  unfold stD
  have hm : ∀ k ∈ sortK ((stI st).map (·.1)), Sm (160 * 1) 3 (rowD (stI st) k) := fun k hk => by
    unfold sortK at hk
    have hk := List.mem_mergeSort.mp hk
    rw [stI_keys] at hk
    obtain ⟨q, hq, rfl⟩ := List.mem_map.mp hk
    exact sm_row ok hq (h q hq).1 hn (h q hq).2
  have a := sm_map hm
  have le : (sortK ((stI st).map (·.1))).length = st.length := by
    unfold sortK
    rw [List.length_mergeSort, List.length_map]
    unfold stI
    rw [List.length_map]
  rw [sum_const, le] at a
  exact (a.mono (by omega) (Nat.le_refl _)).tup
theorem lSt_ix {m : Nat} : ∀ (rs : List Str) (at_ : Nat) (acc : StL), ∀ r ∈ (lSt m rs at_ acc).rows, r.1 < at_ + rs.length
  | [], at_, acc, r, h => nomatch h
  | z :: rs, at_, acc, r, h => by
    have rhs : lSt m (z :: rs) at_ acc = match lWords z 1 with
      | none => ⟨acc, at_, [], false⟩
      | some ws => match lRow m ws with
        | none => ⟨acc, at_, [], true⟩
        | some q => if ∀ w ∈ q.2.1, (q.1, w) ∉ acc.map (·.1) then
            ⟨(lSt m rs (at_ + 1) (acc ++ q.2.1.map fun w => ((q.1, w), q.2.2))).st, (lSt m rs (at_ + 1) (acc ++ q.2.1.map fun w => ((q.1, w), q.2.2))).at_, (at_, q.2.2) :: (lSt m rs (at_ + 1) (acc ++ q.2.1.map fun w => ((q.1, w), q.2.2))).rows, (lSt m rs (at_ + 1) (acc ++ q.2.1.map fun w => ((q.1, w), q.2.2))).bad⟩
          else ⟨acc, at_, [], true⟩ := rfl
    rw [rhs] at h
    split at h
    · cases h
    · split at h
      · cases h
      · split at h
        · rcases List.mem_cons.mp h with e | h
          · rw [e, List.length_cons]
            show at_ < _
            omega
          · have := lSt_ix rs _ _ r h
            rw [List.length_cons]
            omega
        · cases h
theorem lPart_ix {m : Nat} {rows : List Str} : ∀ (f at_ k : Nat), at_ ≤ rows.length → (∀ r ∈ (lPart m rows f at_ k).rows, r.1 ≤ rows.length) ∧ ∀ e, (lPart m rows f at_ k).wrong = some e → e ≤ rows.length
  | 0, at_, _, h => ⟨(fun s h => nomatch h), fun e he => by
    rw [← Option.some.inj (show some at_ = some e from he)]
    exact h⟩
  | f + 1, at_, k, h => by
    have ix := lSt_ix (m := m) (rows.drop (at_ + 1)) (at_ + 1) []
    have l3 := (lSt_at (m := m) (rows.drop (at_ + 1)) (at_ + 1) []).2
    rw [List.length_drop] at ix l3
    rw [lPart_step]
    split
    · rename_i hb
      have alt : at_ < rows.length := by
        cases e : rows[at_]? with
        | none =>
          rw [e] at hb
          cases hb
        | some z => exact (List.getElem?_eq_some_iff.mp e).1
      split
      · refine ⟨fun r hr => ?_, fun e he => ?_⟩
        · have := ix r hr
          omega
        · rw [← Option.some.inj (show some (lSt m (rows.drop (at_ + 1)) (at_ + 1) []).at_ = some e from he)]
          omega
      · split
        · rename_i ca
          obtain ⟨c1, c2⟩ := lPart_ix (m := m) (rows := rows) f (lSt m (rows.drop (at_ + 1)) (at_ + 1) []).at_ (k + 1) (by omega)
          refine ⟨fun r hr => ?_, c2⟩
          rcases List.mem_append.mp hr with hr | hr
          · have := ix r hr
            omega
          · exact c1 r hr
        · refine ⟨fun r hr => ?_, fun e he => nomatch he⟩
          have := ix r hr
          omega
    · refine ⟨(fun s h => nomatch h), fun e he => ?_⟩
      rw [← Option.some.inj (show some at_ = some e from he)]
      exact h
theorem gone_mem {n : Nat} : ∀ {RR : List (Nat × LO)} {e : Nat}, gone n RR = some e → ∃ r ∈ RR, r.1 = e
  | q :: l, e, h => by
    have h : (if inN n q.2 = true then gone n l else some q.1) = some e := h
    by_cases c : inN n q.2 = true
    · rw [if_pos c] at h
      obtain ⟨r, hr, er⟩ := gone_mem h
      exact ⟨r, List.mem_cons_of_mem _ hr, er⟩
    · rw [if_neg c] at h
      exact ⟨q, List.mem_cons_self .., Option.some.inj h⟩
theorem readO_sm {m : Nat} {z : Str} (hm : m ≤ 4) (few : (rowsOf z).length < 400) : Sm 900000 8 (o9D .none (readO m z)) := by
  have hres : readO m z = match lRes (lThere (rowsOf z) 0) [] (lPart m (rowsOf z) 400 0 0) with
      | .error e => .line (e : Nat)
      | .ok sts => .pact sts := rfl
  obtain ⟨i1, i2⟩ := lPart_in hm (rows := rowsOf z) 400 0 0
  obtain ⟨bd1, bd2, bd3⟩ := lPart_bound hm (rows := rowsOf z) 400 0 0
  obtain ⟨x1, x2⟩ := lPart_ix (m := m) (rows := rowsOf z) 400 0 0 (Nat.zero_le _)
  have okS := lPart_ok hm (rows := rowsOf z) 400 0 0
  have th := there_le (rowsOf z) 0
  have hl : ∀ e : Nat, (e ≤ 401) → Sm 900000 8 (o9D .none (.line (e : Nat))) := fun e he => ((SmA.cons (sm_str (n := 4) (z := "line") (by decide +kernel) (by decide +kernel)) (SmA.cons (sm_int (i := ((e : Nat) : Int)) (by omega) (by omega)) SmA.nil)).tup).mono (by decide) (by decide)
  rw [hres]
  generalize lPart m (rowsOf z) 400 0 0 = LP0 at i1 i2 bd1 bd2 bd3 x1 x2 okS ⊢
  unfold lRes
  cases hg : gone (lThere (rowsOf z) 0) LP0.rows with
  | some e =>
    obtain ⟨r, hr, er⟩ := gone_mem hg
    have := x1 r hr
    exact hl e (by omega)
  | none =>
    cases hw : LP0.wrong with
    | some e =>
      have := x2 e hw
      exact hl e (by omega)
    | none =>
      show Sm 900000 8 (.tuple [.str "pact", pactD (([] ++ LP0.sts).map stI)])
      rw [List.nil_append]
      unfold pactD
      rw [List.map_map]
      have gn := gone_none hg
      have a := sm_map (f := stD ∘ stI) (g := fun s : StL => s.length) (c := 161) (p := 4) (l := LP0.sts) fun s hs => sm_st (okS s hs) (fun q hq => by
        obtain ⟨rq, r, hr, er⟩ := i1 s hs q hq
        exact ⟨rq, by rw [← er]; exact gn r hr⟩) (n := lThere (rowsOf z) 0) (by omega)
      have b := (SmA.cons ((sm_str (n := 4) (z := "pact") (by decide +kernel) (by decide +kernel)).mono (Nat.le_refl _) (Nat.zero_le 5)) (SmA.cons a.tup SmA.nil)).tup
      have e : (fun s : StL => s.length) = (·.length) := rfl
      refine b.mono ?_ (by decide)
      have : (LP0.sts.map fun s : StL => s.length).sum ≤ 4 * LP0.rows.length := i2
      omega
end K5
namespace K5
open PySem PySem.Spec PyProof.Rows L2
/-! ### t[::-1] of a list -/
def tRevL (K : PySem.W.Frag) (te : TE) : TE := fun σ H Q => te σ H fun x H1 => ∃ a xs, x = .ref a ∧ SqL K H1 a xs ∧ ∀ p, H1 p = none → Q (.ref p) (upd H1 p (.lst xs.reverse))
theorem pe_revL {X : Cx} {e : Expr} {te : TE} {k : Nat} {p1 p2 p3 pos : Pos} (he : PE X e te) : PE X (.Subscript e (.Slice none none (some (.UnaryOp .USub (.Constant (.int 1) k p1) p2)) p3) pos) (tRevL X.K te) := by
  refine ⟨fun pins s σ H Q I h => ?_⟩
  refine Subscript_ (thn (he.run pins s σ H _ I h) fun v s1 ⟨x, H1, I1, r1, q1⟩ => ?_)
  obtain ⟨a, xs, ex, hx, q⟩ := q1
  subst ex
  cases r1
  have hst : L2.PO X (some (.UnaryOp .USub (.Constant (.int 1) k p1) p2)) (tPart (tUn (rU fun i => .int (-i)) (tC (.int 1)))) := po_some (pe_un un_neg pe_int)
  refine wpAny_Slice (thn (po_none.run pins s1 σ H1 (fun o H2 => o = none ∧ H2 = H1) I1 ⟨rfl, rfl⟩) fun vl s2 ⟨l, H2, I2, pl, el, e2⟩ => ?_)
  subst el e2
  refine thn (po_none.run pins s2 σ H2 (fun o H3 => o = none ∧ H3 = H2) I2 ⟨rfl, rfl⟩) fun vu s3 ⟨u, H3, I3, pu, eu, e3⟩ => ?_
  subst eu e3
  refine thn (hst.run pins s3 σ H3 (fun o H4 => o = some (-1) ∧ H4 = H3) I3 ⟨1, rfl, -1, rfl, rfl, rfl⟩) fun vs s4 ⟨o, H4, I4, ps, eo, e4⟩ => ?_
  subst eo e4
  have I5 : L2.Inv X pins σ H4 { s4 with heap := s4.heap.push { cls := .type "slice", data := .fields #[vl, vu, vs] } } := I4.kept (t' := s4.toks) fun b ob q => Heap.get?_push_of_some _ q
  obtain ⟨its, r, ht, hz⟩ := I5.list hx
  have hlen := r.length
  show wpAny (model X.prog X.w) X.A (subscriptTail e (.Slice none none (some (.UnaryOp .USub (.Constant (.int 1) k p1) p2)) p3) (.ref a) (.ref s4.heap.objs.size)) (EP X pins σ Q) X.xe { s4 with heap := s4.heap.push { cls := .type "slice", data := .fields #[vl, vu, vs] } }
  refine tail_any (ops := [.ref a, .ref s4.heap.objs.size]) ht.isList.typeIs (slot_list_getitem.lookup) ?_ (by with_unfolding_all rfl)
  refine wpAny_getItem_list_slice ht.isList (Heap.IsSliceOf.new _ vl vu vs) pl pu ps (by decide) ?_ (by rw [List.size_toArray]; omega)
  rw [PySem.W.krv_pick]
  refine ⟨.ref _, _, I5.laid (t' := s4.toks) (o := .lst xs.reverse) (fun b ob q => Heap.get?_push_of_some _ q) (Nat.le_refl _) ?_, rfl, q _ (I5.hok.fresh (Nat.le_refl _))⟩
  refine ⟨by rw [List.length_reverse]; exact hz, its.reverse, 0, r.reverse, ?_⟩
  exact Heap.get?_push_size _ rfl
/-! ### one of some -/
abbrev s__law_of : Stmt := topS 26
theorem sc__law_of : FnScope ["_law_box_here", "_law_some_here"] ["_law_box_here", "_law_some_here"] (defScope s__law_of) := ⟨rfl, rfl, rfl, by decide +kernel, rfl, by decide +kernel, by decide +kernel⟩
def spOfB : Sp := fun vs H Q _ => ∃ (b l : Addr) (xs : List V) (p q n : Int), vs = [.ref b, .ref l] ∧ H b = some (.lst (bx p q n)) ∧ Box p q n ∧ n < 1000000 ∧ H l = some (.lst xs) ∧ l ≠ b ∧ 0 < xs.length ∧ xs.length ≤ 20000 ∧
  ∀ (x : V) (p' n' : Int), x ∈ xs → Box p' q n' → n' ≤ n + 1 → Q x (upd H b (.lst (bx p' q n')))
section
variable {P : Program} {w : World} {K : PySem.W.Frag} {mg : Str → Option Value} {base : Heap}
theorem ok_ofB {f fT : Addr} {fd fdT : FuncData} (B : Bt mg) (D : Df K mg "_law_of" s__law_of f fd ["_law_box_here", "_law_some_here"]) (D__law_take : Df K mg "_law_take" sTake fT fdT ["_law_box_here", "_law_many"]) :
    FnOk P w K mg base CX0 2 f fd ["_law_box_here", "_law_some_here"] spOfB := by
  have G__law_take : FnOk P w K mg base CX0 1 fT fdT ["_law_box_here", "_law_many"] spTake := ok_take (CX := CX0) D__law_take.F B.m_int
  refine D.F.ok sc__law_of (fun vs H Q E h => ?_) (fun cdv A outer s H vs Q E hr h => ?_)
  · obtain ⟨b, l, xs, p, q, n, rfl, _⟩ := h
    rfl
  · obtain ⟨b, l, xs, p, q, n, rfl, hb, Bx, hn, hl, nlb, l0, l1, k⟩ := h
    have S := sc__law_of
    refine ⟨_, (pss_one (ps_ret (pe_ix ix_list (pv 1) (pe_call G__law_take (hr.mono (by decide)) (by rfl) D__law_take.g D__law_take.F.kp D__law_take.b .nil pass0 (pa_cons (pv 0) (pa_cons (pe_callB call_len_seq (by rfl) B.m_len PySem.boot_len (pa_cons (pv 1) pa_nil)) pa_nil))) (fun _ _ => rfl)))), ?_⟩
    dsimp only [tRet, tOp]
    refine (val_var rfl) _ ?_
    refine take_box rfl (val_lenL (val_var rfl) (SqL.of hl)) hb Bx (by omega) (by omega) hn fun d p' n' d0 d1 B2 h2 => ?_
    obtain ⟨j, rfl⟩ : ∃ j : Nat, d = (j : Int) := ⟨d.toNat, by omega⟩
    have hj : j < xs.length := by omega
    exact ⟨l, xs, (j : Int), xs[j], rfl, rfl, SqL.of (by rw [upd_ne nlb]; exact hl), atI_nat (List.getElem?_eq_getElem hj), k _ p' n' (List.getElem_mem hj) B2 h2⟩
end
/-- texts that are written or known -/
def AH (t : TA) (σ : L2.St) (H : Hp) (ws : List Str) : Prop := ∀ (H1 : Hp) (Q : List V → Hp → Prop), Same H H1 → Q (ws.map V.str) H1 → t σ H1 Q
section
variable {K : PySem.W.Frag} {σ : L2.St} {H : Hp} {ta te : TE} {t : TA} {ws : List Str} {z : Str} {b : Addr} {p q n : Int} {i : Nat} {Q : VK}
theorem AH.nil : AH tNil σ H [] := fun _ _ _ q => q
theorem AH.c (h : AH t σ H ws) : AH (tCons (tC (.str z)) t) σ H (z :: ws) := fun H1 Q s q => val_c _ (h H1 _ s q)
theorem AH.v (hv : SV ta σ H z) (h : AH t σ H ws) : AH (tCons ta t) σ H (z :: ws) := fun H1 Q s q => hv H1 s _ (h H1 _ s q)
theorem LV.lstH (h : AH t σ H ws) (few : ws.length ≤ 100) : LV (tLst t) σ H ws := fun H1 Q s q => h H1 _ s ⟨by rw [List.length_map]; exact Nat.le_trans few (by decide), fun p np => q _ p (same_upd np) upd_same⟩
theorem of_run (hv : σ[i]? = some (some (.ref b))) (hl : LV te σ H ws) (hb : H b = some (.lst (bx p q n))) (Bx : Box p q n) (hn : n < 1000000) (l0 : 0 < ws.length) (l1 : ws.length ≤ 20000)
    (k : ∀ (H' : Hp) (z : Str) (p' n' : Int), SameBut b H H' → H' b = some (.lst (bx p' q n')) → Box p' q n' → n' ≤ n + 1 → z ∈ ws → Q (.str z) H') : tCall spOfB [] E0 (tCons (tVar i) (tCons te tNil)) σ H Q := by
  dsimp only [tCall, tCons, tNil]
  refine (val_var hv) _ (hl H _ (Same.refl _) fun H1 l s1 h1 => ?_)
  have hb1 := s1 _ _ hb
  refine ⟨b, l, ws.map V.str, p, q, n, rfl, hb1, Bx, hn, h1, ls_ne hb1 h1, by rw [List.length_map]; exact l0, by rw [List.length_map]; exact l1, fun x p' n' hx B2 le => ?_⟩
  obtain ⟨z, hz, rfl⟩ := List.mem_map.mp hx
  exact k _ z p' n' ((SameBut.of_same s1).trans (SameBut.upd _ _ _)) upd_same B2 le hz
end

theorem LV.rev {K : PySem.W.Frag} {σ : L2.St} {H : Hp} {ta : TE} {ws : List Str} (ha : LV ta σ H ws) : LV (tRevL K ta) σ H ws.reverse := fun H1 Q s q => ha H1 _ s fun H2 p1 s2 h1 => ⟨p1, _, rfl, SqL.of h1, fun p np => q _ p (s2.trans (same_upd np)) (by
  unfold LsAt
  rw [upd_same, List.map_reverse])⟩
/-! ### the words of a page -/
theorem wfold_all {Pr : Nat → Prop} : ∀ (p : List Nat) (st : List (List Nat) × List Nat), (∀ c ∈ p, Unicode.isSpace c = false → Pr c) → (∀ l ∈ st.1, ∀ c ∈ l, Pr c) → (∀ c ∈ st.2, Pr c) → (∀ l ∈ (p.foldl TL.wstep st).1, ∀ c ∈ l, Pr c) ∧ ∀ c ∈ (p.foldl TL.wstep st).2, Pr c
  | [], st, _, h1, h2 => ⟨h1, h2⟩
  | c :: r, st, hp, h1, h2 => by
    rw [List.foldl_cons]
    refine wfold_all r _ (fun d hd => hp d (List.mem_cons_of_mem _ hd)) ?_ ?_
    · unfold TL.wstep
      split
      · split
        · exact h1
        · intro l hl
          rcases List.mem_append.mp hl with hl | hl
          · exact h1 l hl
          · rw [List.mem_singleton.mp hl]
            exact h2
      · exact h1
    · unfold TL.wstep
      split
      · split
        · exact h2
        · exact fun _ h => nomatch h
      · rename_i hc
        intro d hd
        rcases List.mem_append.mp hd with hd | hd
        · exact h2 d hd
        · rw [List.mem_singleton.mp hd]
          exact hp c (List.mem_cons_self ..) (by
            cases q : Unicode.isSpace c with
            | true => exact absurd q hc
            | false => rfl)
theorem words_all {Pr : Nat → Prop} {x : Str} (h : ∀ c ∈ x.cps.toList, Unicode.isSpace c = false → Pr c) : ∀ y ∈ Txt.words x, ∀ c ∈ y.cps.toList, Pr c := fun y hy c hc => by
  have e := TL.words_tl x
  have hm : TL.tl y ∈ (Txt.words x).map TL.tl := List.mem_map_of_mem hy
  rw [e] at hm
  obtain ⟨a, b⟩ := wfold_all (Pr := Pr) (TL.tl x) ([], []) h (fun _ h => nomatch h) (fun _ h => nomatch h)
  unfold TL.wfin at hm
  split at hm
  · exact a _ hm c hc
  · rcases List.mem_append.mp hm with hm | hm
    · exact a _ hm c hc
    · have ey := List.mem_singleton.mp hm
      have hc : c ∈ TL.tl y := hc
      rw [ey] at hc
      exact b c hc
theorem sp10 : Unicode.isSpace 10 = true := by decide +kernel
theorem words_free {x : Str} : ∀ y ∈ Txt.words x, 10 ∉ y.cps.toList := fun y hy hc => words_all (Pr := fun c => c ≠ 10) (x := x) (fun c _ hs e => by
  rw [e, sp10] at hs
  cases hs) y hy 10 hc rfl
theorem words_strOk {x : Str} (h : PyData.strOk x = true) : ∀ y ∈ Txt.words x, PyData.strOk y = true := fun y hy => by
  unfold PyData.strOk at h ⊢
  rw [Array.all_eq_true'] at h ⊢
  intro c hc
  exact decide_eq_true (words_all (Pr := fun c => c < 0x110000) (x := x) (fun c hc _ => of_decide_eq_true (h c (Array.mem_toList_iff.mp hc))) y hy c (Array.mem_toList_iff.mpr hc))
theorem words_wt (x : Str) : Wt (Txt.words x) ≤ x.length + 1 := by
  have h1 := StrLaws.words_weight x
  have h2 := sum_Wt (Txt.words x)
  omega
end K5
namespace K5
open PySem PySem.Spec PyProof.Rows L2
/-! ### what the package tells is what the law reads -/
theorem told_read {m : Nat} {z : Str} (m2 : 2 ≤ m) (m4 : m ≤ 4) (few : (rowsOf z).length < 400) : told9 (.int m) (.str z) = readO m z := by
  have hw : worthsOk (.int (m : Nat)) = true := by
    show (decide ((2 : Int) ≤ (m : Int)) && decide ((m : Int) ≤ 4)) = true
    rw [decide_eq_true (by omega), decide_eq_true (by omega)]
    rfl
  have e : told9 (.int m) (.str z) = match pactR ((m : Int)).toNat (rowsOf z) with
    | .error e => .line (e : Nat)
    | .ok sts => .pact sts := if_neg (by rw [hw]; decide)
  rw [e, Int.toNat_natCast, pact_law m4 (rows_ne z) few]
  rfl
theorem read_ok {m : Nat} {z : Str} (m4 : m ≤ 4) : ∀ sts, readO m z = .pact sts → ∀ st ∈ sts, StOk st := fun sts h => by
  have hres : readO m z = match lRes (lThere (rowsOf z) 0) [] (lPart m (rowsOf z) 400 0 0) with
      | .error e => .line (e : Nat)
      | .ok sts => .pact sts := rfl
  rw [hres] at h
  cases hl : lRes (lThere (rowsOf z) 0) [] (lPart m (rowsOf z) 400 0 0) with
  | error e =>
    rw [hl] at h
    cases h
  | ok x =>
    rw [hl] at h
    injection h with h
    rw [← h]
    exact res_ok m4 hl
theorem not_val (m : Nat) (z : Str) : readO m z ≠ .val := fun h => by
  have hres : readO m z = match lRes (lThere (rowsOf z) 0) [] (lPart m (rowsOf z) 400 0 0) with
      | .error e => .line (e : Nat)
      | .ok sts => .pact sts := rfl
  rw [hres] at h
  cases hl : lRes (lThere (rowsOf z) 0) [] (lPart m (rowsOf z) 400 0 0) with
  | error e => rw [hl] at h; cases h
  | ok x => rw [hl] at h; cases h
theorem o9D_any {o : Out9} (h : o ≠ .val) (a b : PyData) : o9D a o = o9D b o := by
  cases o with
  | pact _ => rfl
  | line _ => rfl
  | val => exact absurd rfl h
def spIsRight (P1 P2 : Addr) : Sp := fun vs H Q _ => ∃ (m : Nat) (z : Str), vs = [.int m, .str z] ∧ 2 ≤ m ∧ m ≤ 4 ∧ z.length ≤ 14000 ∧ PyData.strOk z = true ∧ (rowsOf z).length < 400 ∧ Tabs P1 P2 H ∧ P1 ≠ P2 ∧
  ∀ H' : Hp, But [P1, P2] H H' → Tabs P1 P2 H' → Q (.bl true) H'
abbrev s__law_is_right : Stmt := topS 43
theorem sc__law_is_right : FnScope ["_law_worths", "_law_page"] ["_law_worths", "_law_page"] (defScope s__law_is_right) := ⟨rfl, rfl, rfl, by decide +kernel, rfl, by decide +kernel, by decide +kernel⟩
section
variable {P : Program} {w : World} {K : PySem.W.Frag} {mg : Str → Option Value} {base : Heap} {P1 P2 : Addr}
theorem ok_is_right {f fT fR : Addr} {fd fdT fdR : FuncData} (B : Bt mg) (D : Df K mg "_law_is_right" s__law_is_right f fd ["_law_worths", "_law_page"])
    (DT : Df K mg "_law_told" s__law_told fT fdT ["_law_worths", "_law_page"]) (GT : FnOk P w K mg base (L2.CX P w) 11 fT fdT ["_law_worths", "_law_page"] (spToldP P1 P2))
    (DR : Df K mg "_law_reading" s__law_reading fR fdR ["_law_worths", "_law_page"]) (GR : FnOk P w K mg base CX0 6 fR fdR ["_law_worths", "_law_page"] spReading) :
    FnG P w K mg base (L2.CX P w) 12 f fd ["_law_worths", "_law_page"] (spIsRight P1 P2) := by
  refine okG D.F sc__law_is_right (fun vs H Q E h => ?_) (fun cdv A outer s H vs Q E gu hr h => ?_)
  · obtain ⟨m, z, rfl, _⟩ := h
    rfl
  · obtain ⟨m, z, rfl, m2, m4, zl, zo, few, tab, pne, k⟩ := h
    have S := sc__law_is_right
    have hu := hr.units
    refine ⟨_, (pss_one (ps_ret (pe_cmpR op_eq (pe_callB (call_reprQ (by exact gu) (by exact hu)) (by rfl) B.m_repr PyProof.Rows.boot_repr (pa_cons (pe_call GT (hr.mono (by decide)) (by rfl) DT.g DT.F.kp DT.b .nil passL (pa_cons (pv 0) (pa_cons (pv 1) pa_nil))) pa_nil)) (pe_callB (call_reprQ (by exact gu) (by exact hu)) (by rfl) B.m_repr PyProof.Rows.boot_repr (pa_cons (pe_call GR (hr.mono (by decide)) (by rfl) DR.g DR.F.kp DR.b .nil pass0 (pa_cons (pv 0) (pa_cons (pv 1) pa_nil))) pa_nil)) (nomark _)))), ?_⟩
    have sh := (readO_sm m4 few).sh (by decide) (by decide)
    dsimp only [tRet, tOp, tCB, tCons, tNil]
    dsimp only [tCall]
    refine (val_var rfl) _ ((val_var rfl) _ ⟨.int m, .str z, "int", "str", rfl, .int _, .str _, tab, pne, fun y e => (by
      injection e with e
      rw [← e]
      exact ⟨zl, zo⟩), fun H1 p1 b1 t1 oa => ?_⟩)
    rw [told_read m2 m4 few] at oa
    have d1 := oa.dq (dx := .int m) (.int _) (read_ok m4)
    rw [o9D_any (not_val m z) _ .none] at d1
    refine ⟨.ref p1, _, rfl, d1, sh, ?_⟩
    refine (val_var rfl) _ ((val_var rfl) _ ⟨m, z, rfl, m4, zl, zo, few, fun H2 x s2 dx => ?_⟩)
    refine ⟨x, _, rfl, dx, sh, rfl, ?_⟩
    rw [decide_eq_true rfl]
    exact k H2 (b1.trans (But.of_same s2)) (t1.same s2)
end
end K5
namespace K5
open PySem PySem.Spec PyProof.Rows L2
/-! ### a row of words, bent -/
def spBentRow : Sp := fun vs H Q _ => ∃ (b wp sp : Addr) (ws ss : List Str) (c : Nat) (p q n : Int), vs = [.ref b, .ref wp, .ref sp] ∧ H b = some (.lst (bx p q n)) ∧ Box p q n ∧ n + 10 < 1000000 ∧ LsAt H wp ws ∧ LsAt H sp ss ∧ Wt ws ≤ 20000 ∧ 0 < ss.length ∧ ss.length ≤ 20000 ∧ (∀ s ∈ ss, s.length + 1 ≤ c) ∧
  ∀ (H' : Hp) (r : Addr) (ys : List Str) (p' n' : Int), SameBut b H H' → H' b = some (.lst (bx p' q n')) → Box p' q n' → n' ≤ n + 4 → LsAt H' r ys → (∀ y ∈ ys, y ∈ ws ∨ y ∈ ss) → Wt ys ≤ Wt ws + max (Wt ws) c → ys.length ≤ ws.length + 1 → Q (.ref r) H'
abbrev s__law_bent_row : Stmt := topS 41
abbrev nmBR : List Str := ["_law_box_here", "_law_words", "_law_some_here", "_law_at", "_law_way"]
theorem sc__law_bent_row : FnScope nmBR ["_law_box_here", "_law_words", "_law_some_here"] (defScope s__law_bent_row) := ⟨rfl, rfl, rfl, by decide +kernel, rfl, by decide +kernel, by decide +kernel⟩
theorem Wt_take (k : Nat) (xs : List Str) : Wt (xs.take k) ≤ Wt xs := by
  have := Wt_cut k xs
  omega
theorem Wt_dropk (k : Nat) (xs : List Str) : Wt (xs.drop k) ≤ Wt xs := by
  have := Wt_cut k xs
  omega
theorem Wt_rev : ∀ xs : List Str, Wt xs.reverse = Wt xs
  | [] => rfl
  | x :: r => by rw [List.reverse_cons, Wt_app, Wt_rev r, Wt_cons, Wt_cons, Wt_nil]; omega
section
variable {P : Program} {w : World} {K : PySem.W.Frag} {mg : Str → Option Value} {base : Heap}
theorem ok_bent_row {f fT fO : Addr} {fd fdT fdO : FuncData} (B : Bt mg) (D : Df K mg "_law_bent_row" s__law_bent_row f fd ["_law_box_here", "_law_words", "_law_some_here"]) (DT : Df K mg "_law_take" sTake fT fdT ["_law_box_here", "_law_many"])
    (DO : Df K mg "_law_of" s__law_of fO fdO ["_law_box_here", "_law_some_here"]) :
    FnOk P w K mg base CX0 3 f fd ["_law_box_here", "_law_words", "_law_some_here"] spBentRow := by
  have GT : FnOk P w K mg base CX0 1 fT fdT ["_law_box_here", "_law_many"] spTake := ok_take (CX := CX0) DT.F B.m_int
  have GO : FnOk P w K mg base CX0 2 fO fdO ["_law_box_here", "_law_some_here"] spOfB := ok_ofB B DO DT
  refine D.F.ok sc__law_bent_row (fun vs H Q E h => ?_) (fun cdv A outer s H vs Q E hr h => ?_)
  · obtain ⟨b, wp, sp, ws, ss, c, p, q, n, rfl, _⟩ := h
    rfl
  · obtain ⟨b, wp, sp, ws, ss, c, p, q, n, rfl, hb, Bx, hn, hw, hs, wW, s0, s1, sc, k⟩ := h
    have S := sc__law_bent_row
    refine ⟨_, (pss_cons (ps_par (i := 3) (j := 4) (by rfl) S.nd rfl rfl (by decide) rfl rfl (pa_cons (pe_call GT (hr.mono (by decide)) (by rfl) DT.g DT.F.kp DT.b .nil pass0 (pa_cons (pv 0) (pa_cons (pe_op op_add (pe_callB call_len_seq (by rfl) B.m_len PySem.boot_len (pa_cons (pv 1) pa_nil)) pe_int) pa_nil))) (pa_cons (pe_call GT (hr.mono (by decide)) (by rfl) DT.g DT.F.kp DT.b .nil pass0 (pa_cons (pv 0) (pa_cons pe_int pa_nil))) pa_nil)) (by rfl))
      (pss_cons (ps_if (pt_cmpR op_eq (pv 4) pe_int (nomark _))
        (pss_one (ps_ret (pe_op op_cat (pe_slice sl_list (pv 1) po_none (po_some (pv 3))) (pe_slice sl_list (pv 1) (po_some (pe_op op_add (pv 3) pe_int)) po_none))))
        pss_nil)
      (pss_cons (ps_if (pt_cmpR op_eq (pv 4) pe_int (nomark _))
        (pss_one (ps_ret (pe_op op_cat (pe_slice sl_list (pv 1) po_none (po_some (pe_op op_add (pv 3) pe_int))) (pe_slice sl_list (pv 1) (po_some (pv 3)) po_none))))
        pss_nil)
      (pss_cons (ps_if (pt_cmpR op_eq (pv 4) pe_int (nomark _))
        (pss_one (ps_ret (pe_op op_cat (pe_op op_cat (pe_slice sl_list (pv 1) po_none (po_some (pv 3))) (pe_revL (pe_slice sl_list (pv 1) (po_some (pv 3)) (po_some (pe_op op_add (pv 3) pe_int))))) (pe_slice sl_list (pv 1) (po_some (pe_op op_add (pv 3) pe_int)) po_none))))
        pss_nil)
      (pss_one (ps_ret (pe_op op_cat (pe_op op_cat (pe_slice sl_list (pv 1) po_none (po_some (pv 3))) (pe_lst (pa_cons (pe_call GO (hr.mono (by decide)) (by rfl) DO.g DO.F.kp DO.b .nil pass0 (pa_cons (pv 0) (pa_cons (pv 2) pa_nil))) pa_nil))) (pe_slice sl_list (pv 1) (po_some (pe_op op_sub (pe_op op_add (pv 3) (pv 4)) pe_int)) po_none)))))))), ?_⟩
    have wl := Wt_len ws
    have wb := ls_ne hb hw
    have sb := ls_ne hb hs
    dsimp only [tSeq, tPar, tCons, tNil]
    have v0 : Val (tOp (rI0 fun i j => V.int (i + j)) (tCB (rLenSq K) (tCons (tVar 1) tNil)) (tC (.int 1))) (L2.start nmBR [.ref b, .ref wp, .ref sp]) H (.int ((ws.length : Nat) + 1)) := by
      have := val_lenL (K := K) (val_var (σ := L2.start nmBR [.ref b, .ref wp, .ref sp]) (i := 1) rfl) (SqL.of hw)
      rw [List.length_map] at this
      exact val_i0 this val_c
    refine take_box rfl v0 hb Bx (by omega) (by omega) (by omega) fun at' p1 n1 a0 a1 B1 le1 => ?_
    have sb1 : SameBut b H (upd H b (.lst (bx p1 q n1))) := SameBut.upd _ _ _
    have hb1 : (upd H b (.lst (bx p1 q n1))) b = some (.lst (bx p1 q n1)) := upd_same
    generalize (upd H b (.lst (bx p1 q n1))) = H1 at sb1 hb1 ⊢
    refine take_box rfl val_c hb1 B1 (by decide) (by decide) (by omega) fun way p2 n2 y0 y1 B2 le2 => ?_
    have sb2 : SameBut b H (upd H1 b (.lst (bx p2 q n2))) := sb1.trans (SameBut.upd _ _ _)
    have hb2 : (upd H1 b (.lst (bx p2 q n2))) b = some (.lst (bx p2 q n2)) := upd_same
    generalize (upd H1 b (.lst (bx p2 q n2))) = H2 at sb2 hb2 ⊢
    have hw2 : LsAt H2 wp ws := sb2 _ _ wb hw
    have hs2 : LsAt H2 sp ss := sb2 _ _ sb hs
    clear sb1 hb1
    refine ⟨_, _, rfl, ?_⟩
    obtain ⟨at', rfl⟩ : ∃ k : Nat, at' = (k : Int) := ⟨at'.toNat, by omega⟩
    try dsimp only [List.set]
    have hv : LV (tVar 1) [some (.ref b), some (.ref wp), some (.ref sp), some (.int (at' : Nat)), some (.int way)] H2 ws := LV.v rfl hw2
    have va : ∀ H' : Hp, Val (tVar 3) [some (.ref b), some (.ref wp), some (.ref sp), some (.int (at' : Nat)), some (.int way)] H' (.int (at' : Nat)) := fun _ => val_var rfl
    have va1 : ∀ (j : Nat) (H' : Hp), Val (tOp (rI0 fun i j => V.int (i + j)) (tVar 3) (tC (.int (j : Nat)))) [some (.ref b), some (.ref wp), some (.ref sp), some (.int (at' : Nat)), some (.int way)] H' (.int ((at' + j : Nat) : Nat)) := fun j H' => by
      have : (((at' + j : Nat) : Nat) : Int) = (at' : Int) + (j : Int) := by omega
      rw [this]
      exact val_i0 (val_var rfl) val_c
    have lt : (ws.take at').length ≤ ws.length := by rw [List.length_take]; omega
    have lt1 : (ws.take (at' + 1)).length ≤ ws.length := by rw [List.length_take]; omega
    have ld : ∀ j, (ws.drop j).length ≤ ws.length := fun j => by rw [List.length_drop]; omega
    have Wc := Wt_cut at' ws
    have Wc1 := Wt_cut (at' + 1) ws
    have Wc2 := Wt_cut (at' + 2) ws
    have fin : ∀ {te : TE} {ys : List Str}, LV te [some (.ref b), some (.ref wp), some (.ref sp), some (.int (at' : Nat)), some (.int way)] H2 ys → (∀ y ∈ ys, y ∈ ws) → Wt ys ≤ 2 * Wt ws → ys.length ≤ ws.length + 1 → te [some (.ref b), some (.ref wp), some (.ref sp), some (.int (at' : Nat)), some (.int way)] H2 Q := fun hl hm h1 h2 =>
      hl H2 Q (Same.refl _) fun H' r s' hr => k H' r _ p2 n2 (sb2.trans (SameBut.of_same s')) (s' _ _ hb2) B2 (by omega) hr (fun y hy => .inl (hm y hy)) (by omega) h2
    have mt : ∀ {j : Nat} {y : Str}, y ∈ ws.take j → y ∈ ws := fun h => List.mem_of_mem_take h
    have md : ∀ {j : Nat} {y : Str}, y ∈ ws.drop j → y ∈ ws := fun h => List.mem_of_mem_drop h
    try dsimp only [tSeq, tIfS]
    refine (ans_eq2 (x := .int way) (v := .int 0) (val_var rfl) val_c rfl) _ ?_
    refine ite2 (fun _ => ?_) fun c0 => ?_
    · refine fin ((LV.to hv va).catB (LV.from hv (va1 1)) (by have := ld (at' + 1); omega)) (fun y hy => ?_) ?_ ?_
      · rcases List.mem_append.mp hy with h | h
        · exact mt h
        · exact md h
      · rw [Wt_app]
        omega
      · rw [List.length_append, List.length_take, List.length_drop]
        omega
    try dsimp only [tNext, tSeq, tIfS]
    refine (ans_eq2 (x := .int way) (v := .int 1) (val_var rfl) val_c rfl) _ ?_
    refine ite2 (fun _ => ?_) fun c1 => ?_
    · refine fin ((LV.to hv (va1 1)).catB (LV.from hv va) (by have := ld at'; omega)) (fun y hy => ?_) ?_ ?_
      · rcases List.mem_append.mp hy with h | h
        · exact mt h
        · exact md h
      · rw [Wt_app]
        omega
      · rw [List.length_append, List.length_take, List.length_drop]
        omega
    try dsimp only [tNext, tSeq, tIfS]
    refine (ans_eq2 (x := .int way) (v := .int 2) (val_var rfl) val_c rfl) _ ?_
    refine ite2 (fun _ => ?_) fun c2 => ?_
    · have em : at' + 2 - at' = 2 := by omega
      have hm := LV.mid (K := K) (a := at') (b := at' + 2) hv va (va1 2) (by omega)
      rw [em] at hm
      have l2 : ((ws.drop at').take 2).length ≤ ws.length := by rw [List.length_take, List.length_drop]; omega
      refine fin (((LV.to hv va).catB hm.rev (by rw [List.length_reverse]; omega)).catB (LV.from hv (va1 2)) (by rw [List.length_append, List.length_reverse]; have := ld (at' + 2); omega)) (fun y hy => ?_) ?_ ?_
      · rcases List.mem_append.mp hy with h | h
        · rcases List.mem_append.mp h with h | h
          · exact mt h
          · exact md (List.mem_of_mem_take (List.mem_reverse.mp h))
        · exact md h
      · rw [Wt_app, Wt_app, Wt_rev]
        have := Wt_take 2 (ws.drop at')
        omega
      · rw [List.length_append, List.length_append, List.length_reverse, List.length_take, List.length_take, List.length_drop, List.length_drop]
        omega
    · have w0 : way ≠ 0 := fun e => by
        rw [e] at c0
        revert c0
        decide
      have w1 : way ≠ 1 := fun e => by
        rw [e] at c1
        revert c1
        decide
      have w2 : way ≠ 2 := fun e => by
        rw [e] at c2
        revert c2
        decide
      clear c0 c1 c2
      refine (LV.to (k := at') hv va) H2 _ (Same.refl _) fun H3 c1 s3 h3 => ?_
      have hb3 := s3 _ _ hb2
      have hs3 := s3 _ _ hs2
      have hw3 := s3 _ _ hw2
      have sb3 := sb2.trans (SameBut.of_same s3)
      dsimp only [tLst, tCons, tNil]
      dsimp only [tCall, tCons, tNil]
      refine (val_var rfl) _ ((val_var rfl) _ ⟨b, sp, ss.map V.str, p2, q, n2, rfl, hb3, B2, by omega, hs3, ls_ne hb3 hs3, by rw [List.length_map]; exact s0, by rw [List.length_map]; exact s1, fun x p3 n3 mx B3 le3 => ?_⟩)
      obtain ⟨y, my, rfl⟩ := List.mem_map.mp mx
      have ly := sc y my
      have sb4 : SameBut b H (upd H3 b (.lst (bx p3 q n3))) := sb3.trans (SameBut.upd _ _ _)
      have hb4 : (upd H3 b (.lst (bx p3 q n3))) b = some (.lst (bx p3 q n3)) := upd_same
      have h34 : ∀ u o, u ≠ b → H3 u = some o → (upd H3 b (.lst (bx p3 q n3))) u = some o := fun u o ne e => by rw [upd_ne ne]; exact e
      have hc4 : LsAt (upd H3 b (.lst (bx p3 q n3))) c1 (ws.take at') := h34 _ _ (ls_ne hb3 h3) h3
      have hw4 : LsAt (upd H3 b (.lst (bx p3 q n3))) wp ws := h34 _ _ wb hw3
      generalize (upd H3 b (.lst (bx p3 q n3))) = H4 at sb4 hb4 hc4 hw4 ⊢
      refine ⟨by show 1 ≤ sizeLine; decide, fun c2 nc2 => ?_⟩
      have s5 := same_upd (o := .lst [.str y]) nc2
      have h2' : LsAt (upd H4 c2 (.lst [.str y])) c2 [y] := upd_same
      generalize (upd H4 c2 (.lst [.str y])) = H5 at s5 h2' ⊢
      refine ⟨c1, c2, _, _, rfl, rfl, s5 _ _ hc4, h2', by rw [List.length_map, List.length_map]; exact big_size (by show _ + 1 ≤ _; omega), fun c3 nc3 => ?_⟩
      have s6 := same_upd (o := .lst ((ws.take at').map V.str ++ ([y] : List Str).map V.str)) nc3
      have h3' : LsAt (upd H5 c3 (.lst ((ws.take at').map V.str ++ ([y] : List Str).map V.str))) c3 (ws.take at' ++ [y]) := by
        unfold LsAt
        rw [upd_same, List.map_append]
      generalize (upd H5 c3 (.lst ((ws.take at').map V.str ++ ([y] : List Str).map V.str))) = H6 at s6 h3' ⊢
      have s46 := s5.trans s6
      obtain ⟨e, he⟩ : ∃ e : Nat, (at' : Int) + way - 3 = (e : Int) := ⟨((at' : Int) + way - 3).toNat, by omega⟩
      have hw6 : LsAt H6 wp ws := s46 _ _ hw4
      refine (LV.from (k := e) (LV.v rfl hw6) fun _ => ?_) H6 _ (Same.refl _) fun H7 c4 s7 h4 => ?_
      · rw [← he]
        exact val_i0 (i := (at' : Int) + way) (j := 3) (val_i0 (i := (at' : Int)) (j := way) (val_var rfl) (val_var rfl)) val_c
      refine ⟨c3, c4, _, _, rfl, rfl, s7 _ _ h3', h4, by rw [List.length_map, List.length_map, List.length_append]; have := ld e; exact big_size (by show _ + 1 + _ ≤ _; omega), fun c5 nc5 => ?_⟩
      have s8 := same_upd (o := .lst ((ws.take at' ++ [y]).map V.str ++ (ws.drop e).map V.str)) nc5
      have h5 : LsAt (upd H7 c5 (.lst ((ws.take at' ++ [y]).map V.str ++ (ws.drop e).map V.str))) c5 ((ws.take at' ++ [y]) ++ ws.drop e) := by
        unfold LsAt
        rw [upd_same, ← List.map_append]
      have s48 := s46.trans (s7.trans s8)
      refine k _ c5 _ p3 n3 (sb4.trans (SameBut.of_same s48)) (s48 _ _ hb4) B3 (by omega) h5 (fun u hu => ?_) ?_ ?_
      · rcases List.mem_append.mp hu with h | h
        · rcases List.mem_append.mp h with h | h
          · exact .inl (mt h)
          · rw [List.mem_singleton.mp h]
            exact .inr my
        · exact .inl (md h)
      · rw [Wt_app, Wt_app, Wt_cons, Wt_nil]
        have h1 := Wt_take at' (ws.take e)
        rw [List.take_take, Nat.min_eq_left (by omega)] at h1
        have h2 := Wt_cut e ws
        omega
      · rw [List.length_append, List.length_append, List.length_take, List.length_drop]
        show min at' ws.length + 1 + (ws.length - e) ≤ ws.length + 1
        omega
end
end K5
namespace K5
open PySem PySem.Spec PyProof.Rows L2
/-! ### " " * n -/
theorem fold_rep (n : Nat) : ∀ acc : Array Nat, ((List.replicate n (#[32] : Array Nat)).foldl (· ++ ·) acc).toList = acc.toList ++ List.replicate n 32 := by
  induction n with
  | zero => intro acc; simp
  | succ n ih =>
    intro acc
    rw [List.replicate_succ, List.foldl_cons, ih, List.replicate_succ]
    simp
def blanks (k : Int) : Str := Txt.mul " " k
theorem blanks_list (k : Int) : (blanks k).cps.toList = List.replicate k.toNat 32 := by
  unfold blanks Txt.mul
  by_cases h : k < 1
  · rw [if_pos h, show k.toNat = 0 by omega]
    rfl
  · rw [if_neg h]
    have := fold_rep k.toNat #[]
    rw [List.nil_append] at this
    split
    · rename_i c
      rw [Bool.or_eq_true] at c
      rcases c with c | c
      · rw [eq_of_beq c]
        decide +kernel
      · exact absurd c (by decide +kernel)
    · exact this
theorem blanks_len (k : Int) : (blanks k).length = k.toNat := by
  show (blanks k).cps.size = _
  rw [← Array.length_toList, blanks_list, List.length_replicate]
theorem blanks_ok (k : Int) : PyData.strOk (blanks k) = true := by
  unfold PyData.strOk
  rw [Array.all_eq_true']
  intro c hc
  have := Array.mem_toList_iff.mpr hc
  rw [blanks_list] at this
  rw [List.eq_of_mem_replicate this]
  decide
theorem blanks_free (k : Int) : 10 ∉ (blanks k).cps.toList := fun h => by
  rw [blanks_list] at h
  have := List.eq_of_mem_replicate h
  omega
def rMulB : R2 := fun x y H Q => ∃ k : Int, x = .str " " ∧ y = .int k ∧ 0 ≤ k ∧ k ≤ 20000 ∧ Q (.str (blanks k)) H
theorem op_mulB {X : Cx} : OpR X (binaryOp .Mult) rMulB := by
  intro pins s σ H x y v u Q I rx ry h
  obtain ⟨k, rfl, rfl, k0, k1, q⟩ := h
  obtain ⟨t, rfl⟩ := rx
  obtain ⟨t2, rfl⟩ := ry
  have e1 : (" " : Str).length = 1 := by decide +kernel
  refine SB.mul ⟨?_, fun _ _ => ?_, fun _ _ => ?_⟩ fun t' j => ⟨.str _, H, I.tok _, ⟨_, rfl⟩, q⟩
  · rw [decide_eq_false (by omega), decide_eq_false (by omega)]
    rfl
  · rw [e1]
    have h1 : (2 ^ 63 - 1 : Int) / k ≥ 1 := by
      have hk : 0 < k := by omega
      exact (Int.le_ediv_iff_mul_le hk).mpr (by omega)
    show ¬ ((1 : Int) > (2 ^ 63 - 1) / k)
    omega
  · rw [e1, Nat.one_mul]
    unfold Builtin.Str.tooLong
    exact decide_eq_false (by
      have : k.toNat ≤ 20000 := by omega
      have h2 : (20000 : Nat) ≤ sizeLine := by decide
      omega)
end K5
namespace K5
open PySem PySem.Spec PyProof.Rows L2
/-! ### a page that is bent -/
def spBent : Sp := fun vs H Q _ => ∃ (b : Addr) (z : Str) (L R : Nat) (p q n : Int), vs = [.ref b, .str z] ∧ H b = some (.lst (bx p q n)) ∧ Box p q n ∧ n + 30 < 1000000 ∧ Pg L R z ∧ L ≤ 6600 ∧ R ≤ 150 ∧ 20 ≤ L ∧
  ∀ (H' : Hp) (y : Str) (p' n' : Int), SameBut b H H' → H' b = some (.lst (bx p' q n')) → Box p' q n' → n' ≤ n + 12 → Pg (2 * L + 200) (2 * R + 2) y → Q (.str y) H'
def more5 : List Str := ["", "state 0", "state 1", "  get 0 -> 0 0", "state 9"]
def signs8 : List Str := [" ", "\n", ",", "a", "A", "0", "", "-"]
def words13 : List Str := ["any", "lost", "busy", "0", "1", "2,", "3", "4", "->", "state", "01", "1,", "get"]
theorem more5_ok : ∀ z ∈ more5, z.length ≤ 14 ∧ PyData.strOk z = true ∧ 10 ∉ z.cps.toList := by decide +kernel
theorem signs8_ok : ∀ z ∈ signs8, z.length ≤ 1 ∧ PyData.strOk z = true ∧ lns z ≤ 1 := by decide +kernel
theorem words14_ok : ∀ z ∈ words13 ++ (["abcdefghi"] : List Str), z.length ≤ 9 ∧ PyData.strOk z = true ∧ 10 ∉ z.cps.toList := by decide +kernel
abbrev s__law_bent : Stmt := topS 42
abbrev nmBent : List Str := ["_law_box_here", "_law_page", "_law_lines", "_law_way", "_law_at", "_law_spot", "_law_sign", "_law_rest", "_law_some_here"]
theorem sc__law_bent : FnScope nmBent ["_law_box_here", "_law_page"] (defScope s__law_bent) := ⟨rfl, rfl, rfl, by decide +kernel, rfl, by decide +kernel, by decide +kernel⟩
theorem strip_free {z y : Str} {c : Nat} (h : c ∉ z.cps.toList) : c ∉ (Txt.lstripChars z y).cps.toList := fun hc => by
  obtain ⟨i, hi, e⟩ := PyProof.Rows.stripBy_left y.cps.contains z
  unfold Txt.lstripChars at hc
  rw [e] at hc
  have hc : c ∈ z.cps.extract i z.length := Array.mem_toList_iff.mp hc
  rw [Array.mem_extract_iff_getElem] at hc
  obtain ⟨k, hk, e⟩ := hc
  rw [← e] at h
  exact h (Array.mem_toList_iff.mpr (Array.getElem_mem _))
theorem split_free1 {z : Str} {c : Nat} (h : c ∉ z.cps.toList) : ∀ p ∈ Txt.split z " ", c ∉ p.cps.toList := fun p hp hc => by
  have := join_mem (y := " ") hp hc
  rw [StrLaws.join_split] at this
  exact h this
theorem cut_free {z : Str} {c : Nat} {lo hi : Option Int} (h : c ∉ z.cps.toList) : c ∉ (cutS z lo hi).cps.toList := fun hc => by
  unfold cutS at hc
  exact h (List.mem_of_mem_drop (List.mem_of_mem_take hc))
theorem free_join : ∀ {ps : List Str}, (∀ y ∈ ps, 10 ∉ y.cps.toList) → 10 ∉ (Str.join " " ps).cps.toList
  | [], _ => fun h => nomatch h
  | [x], h => h x (List.mem_cons_self ..)
  | x :: y :: r, h => by
    rw [join2, cps_append, cps_append]
    intro hc
    rcases List.mem_append.mp hc with hc | hc
    · exact h x (List.mem_cons_self ..) hc
    · rcases List.mem_append.mp hc with hc | hc
      · revert hc
        decide +kernel
      · exact free_join (ps := y :: r) (fun z hz => h z (List.mem_cons_of_mem _ hz)) hc
section
variable {P : Program} {w : World} {K : PySem.W.Frag} {mg : Str → Option Value} {base : Heap}
theorem ok_bent {f fT fO fR : Addr} {fd fdT fdO fdR : FuncData} (B : Bt mg) (D : Df K mg "_law_bent" s__law_bent f fd ["_law_box_here", "_law_page"]) (DT : Df K mg "_law_take" sTake fT fdT ["_law_box_here", "_law_many"])
    (DO : Df K mg "_law_of" s__law_of fO fdO ["_law_box_here", "_law_some_here"]) (DR : Df K mg "_law_bent_row" s__law_bent_row fR fdR ["_law_box_here", "_law_words", "_law_some_here"]) :
    FnOk P w K mg base CX0 4 f fd ["_law_box_here", "_law_page"] spBent := by
  have GT : FnOk P w K mg base CX0 1 fT fdT ["_law_box_here", "_law_many"] spTake := ok_take (CX := CX0) DT.F B.m_int
  have GO : FnOk P w K mg base CX0 2 fO fdO ["_law_box_here", "_law_some_here"] spOfB := ok_ofB B DO DT
  have GR : FnOk P w K mg base CX0 3 fR fdR ["_law_box_here", "_law_words", "_law_some_here"] spBentRow := ok_bent_row B DR DT DO
  refine D.F.ok sc__law_bent (fun vs H Q E h => ?_) (fun cdv A outer s H vs Q E hr h => ?_)
  · obtain ⟨b, z, L, R, p, q, n, rfl, _⟩ := h
    rfl
  · obtain ⟨b, z, L, R, p, q, n, rfl, hb, Bx, hn, pg, L6, R1, L0, k⟩ := h
    have S := sc__law_bent
    refine ⟨_, (pss_cons (ps_par (i := 2) (j := 3) (by rfl) S.nd rfl rfl (by decide) rfl rfl (pa_cons (pe_bm PySem.F.plainAttrs_str PySem.F.slot_str_split PySem.F.type_str_split mt_split (pv 1) (pa_cons pe_str pa_nil)) (pa_cons (pe_call GT (hr.mono (by decide)) (by rfl) DT.g DT.F.kp DT.b .nil pass0 (pa_cons (pv 0) (pa_cons pe_int pa_nil))) pa_nil)) (by rfl))
      (pss_cons (ps_set (i := 4) S.nd rfl (.inl rfl) (pe_call GT (hr.mono (by decide)) (by rfl) DT.g DT.F.kp DT.b .nil pass0 (pa_cons (pv 0) (pa_cons (pe_callB call_len_seq (by rfl) B.m_len PySem.boot_len (pa_cons (pv 2) pa_nil)) pa_nil))))
      (pss_cons (ps_if (pt_cmpR op_eq (pv 3) pe_int (nomark _))
        (pss_one (ps_ret (pe_bm PySem.F.plainAttrs_str PySem.F.slot_str_join PySem.F.type_str_join mt_join pe_str (pa_cons (pe_call GR (hr.mono (by decide)) (by rfl) DR.g DR.F.kp DR.b .nil pass0 (pa_cons (pv 0) (pa_cons (pv 2) (pa_cons (pe_op op_cat (pv 2) (pe_lst (pa_cons pe_str (pa_cons pe_str (pa_cons pe_str (pa_cons pe_str (pa_cons pe_str pa_nil))))))) pa_nil)))) pa_nil))))
        pss_nil)
      (pss_cons (ps_if (pt_cmpR op_eq (pv 3) pe_int (nomark _))
        (pss_cons (ps_set (i := 5) S.nd rfl (.inl rfl) (pe_call GT (hr.mono (by decide)) (by rfl) DT.g DT.F.kp DT.b .nil pass0 (pa_cons (pv 0) (pa_cons (pe_op op_add (pe_callB call_len_str (by rfl) B.m_len PySem.boot_len (pa_cons (pv 1) pa_nil)) pe_int) pa_nil))))
      (pss_cons (ps_set (i := 6) S.nd rfl (.inl rfl) (pe_call GO (hr.mono (by decide)) (by rfl) DO.g DO.F.kp DO.b .nil pass0 (pa_cons (pv 0) (pa_cons (pe_lst (pa_cons pe_str (pa_cons pe_str (pa_cons pe_str (pa_cons pe_str (pa_cons pe_str (pa_cons pe_str (pa_cons pe_str (pa_cons pe_str pa_nil))))))))) pa_nil))))
      (pss_one (ps_ret (pe_op op_add_str (pe_op op_add_str (pe_slice sl_str (pv 1) po_none (po_some (pv 5))) (pv 6)) (pe_slice sl_str (pv 1) (po_some (pe_op op_add (pv 5) (pe_call GT (hr.mono (by decide)) (by rfl) DT.g DT.F.kp DT.b .nil pass0 (pa_cons (pv 0) (pa_cons pe_int pa_nil))))) po_none))))))
        pss_nil)
      (pss_cons (ps_if (pt_cmpR op_eq (pv 3) pe_int (nomark _))
        (pss_cons (ps_asg (pe_call GO (hr.mono (by decide)) (by rfl) DO.g DO.F.kp DO.b .nil pass0 (pa_cons (pv 0) (pa_cons (pe_lst (pa_cons (pe_op op_add_str pe_str (pe_ix ix_list (pv 2) (pv 4) (fun _ _ => rfl))) (pa_cons (pe_slice sl_str (pe_ix ix_list (pv 2) (pv 4) (fun _ _ => rfl)) (po_some pe_int) po_none) (pa_cons (pe_op op_add_str pe_str (pe_ix ix_list (pv 2) (pv 4) (fun _ _ => rfl))) (pa_cons (pe_op op_add_str (pe_ix ix_list (pv 2) (pv 4) (fun _ _ => rfl)) pe_str) pa_nil))))) pa_nil))) (pg_sub (pv 2) (pv 4) set_list))
      (pss_one (ps_ret (pe_bm PySem.F.plainAttrs_str PySem.F.slot_str_join PySem.F.type_str_join mt_join pe_str (pa_cons (pv 2) pa_nil)))))
        pss_nil)
      (pss_cons (ps_set (i := 7) S.nd rfl (.inl rfl) (pe_bm PySem.F.plainAttrs_str PySem.F.slot_str_lstrip PySem.F.type_str_lstrip mt_lstripChars (pe_ix ix_list (pv 2) (pv 4) (fun _ _ => rfl)) (pa_cons pe_str pa_nil)))
      (pss_cons (ps_set (i := 8) S.nd rfl (.inl rfl) (pe_op op_cat (pe_words (pv 1)) (pe_lst (pa_cons pe_str (pa_cons pe_str (pa_cons pe_str (pa_cons pe_str (pa_cons pe_str (pa_cons pe_str (pa_cons pe_str (pa_cons pe_str (pa_cons pe_str (pa_cons pe_str (pa_cons pe_str (pa_cons pe_str (pa_cons pe_str pa_nil))))))))))))))))
      (pss_cons (ps_expr (pe_bm PySem.F.plainAttrs_list PySem.F.slot_list_append PySem.F.type_list_append mt_append (pv 8) (pa_cons pe_str pa_nil)))
      (pss_cons (ps_asg (pe_op op_add_str (pe_op op_mulB pe_str (pe_op op_sub (pe_callB call_len_str (by rfl) B.m_len PySem.boot_len (pa_cons (pe_ix ix_list (pv 2) (pv 4) (fun _ _ => rfl)) pa_nil)) (pe_callB call_len_str (by rfl) B.m_len PySem.boot_len (pa_cons (pv 7) pa_nil)))) (pe_bm PySem.F.plainAttrs_str PySem.F.slot_str_join PySem.F.type_str_join mt_join pe_str (pa_cons (pe_call GR (hr.mono (by decide)) (by rfl) DR.g DR.F.kp DR.b .nil pass0 (pa_cons (pv 0) (pa_cons (pe_bm PySem.F.plainAttrs_str PySem.F.slot_str_split PySem.F.type_str_split mt_split (pv 7) (pa_cons pe_str pa_nil)) (pa_cons (pv 8) pa_nil)))) pa_nil))) (pg_sub (pv 2) (pv 4) set_list))
      (pss_one (ps_ret (pe_bm PySem.F.plainAttrs_str PySem.F.slot_str_join PySem.F.type_str_join mt_join pe_str (pa_cons (pv 2) pa_nil))))))))))))), ?_⟩
    have lz := pg.l
    have oz := pg.o
    have sbU : ∀ {H' : Hp} {lp : Addr} {o : HO}, H lp = none → SameBut b H H' → SameBut b H (upd H' lp o) := fun nl sb a u na e => by
      rw [upd_ne (ne_of_none e nl)]
      exact sb a u na e
    have fin : ∀ (zs : List Str) (te : TE) (H' : Hp) (σ : L2.St) (p' n' : Int), LV te σ H' zs → SameBut b H H' → H' b = some (.lst (bx p' q n')) → Box p' q n' → n' ≤ n + 12 → Wt zs ≤ 2 * L + 200 → OkA zs → (∀ y ∈ zs, 10 ∉ y.cps.toList) → zs.length ≤ 2 * R + 2 →
        tBM K "str" (rJoinS K) (tC (.str "\n")) (tCons te tNil) σ H' Q := by
      intro zs te H' σ p' n' hl sb hb' Bx' hn' wz oz' fz lz'
      refine join_run hl nl1 (by omega) fun H5 s5 => ?_
      exact k _ _ p' n' (fun a o na e => s5 _ _ (sb a o na e)) (s5 _ _ hb') Bx' hn' (pg_join (by omega) wz oz' fz lz')
    have fin2 : ∀ (zs : List Str) (r : Addr) (H' : Hp) (p' n' : Int), LsAt H' r zs → SameBut b H H' → H' b = some (.lst (bx p' q n')) → Box p' q n' → n' ≤ n + 12 → Wt zs ≤ 2 * L + 200 → OkA zs → (∀ y ∈ zs, 10 ∉ y.cps.toList) → zs.length ≤ 2 * R + 2 →
        rJoinS K (.str "\n") [.ref r] H' Q := by
      intro zs r H' p' n' hl sb hb' Bx' hn' wz oz' fz lz'
      refine ⟨"\n", r, zs, rfl, rfl, .inl (SqL.of hl), ?_, ?_⟩
      · have := sum_Wt zs
        rw [nl1, Nat.mul_one]
        omega
      · rw [jn_txt]
        exact k _ _ p' n' sb hb' Bx' hn' (pg_join (by omega) wz oz' fz lz')
    dsimp only [tSeq, tPar, tCons, tNil]
    refine bm_run (x := .str z) (val_var rfl) rfl ?_
    dsimp only [tCons, tNil]
    refine val_c _ ⟨z, "\n", rfl, rfl, by decide +kernel, big_size (by omega), fun lp nlp => ?_⟩
    have hl1 : LsAt (upd H lp (.lst ((Txt.split z "\n").map V.str))) lp (rowsOf z) := upd_same
    have s1 := same_upd (o := .lst ((Txt.split z "\n").map V.str)) nlp
    generalize (upd H lp (.lst ((Txt.split z "\n").map V.str))) = H1 at hl1 s1 ⊢
    have hb1 := s1 _ _ hb
    have lb : lp ≠ b := ls_ne hb1 hl1
    have wW := Wt_rows z
    have wO : OkA (rowsOf z) := OkA.split oz
    have wF := rows_free z
    have wR := pg.r
    have wne : 0 < (rowsOf z).length := List.length_pos_iff.mpr (rows_ne z)
    have wl := Wt_len (rowsOf z)
    refine take_box rfl val_c hb1 Bx (by decide) (by decide) (by omega) fun way p1 n1 w0 w3 B1 le1 => ?_
    have sb2 : SameBut b H (upd H1 b (.lst (bx p1 q n1))) := (SameBut.of_same s1).trans (SameBut.upd _ _ _)
    have hb2 : (upd H1 b (.lst (bx p1 q n1))) b = some (.lst (bx p1 q n1)) := upd_same
    have hl2 : LsAt (upd H1 b (.lst (bx p1 q n1))) lp (rowsOf z) := by
      unfold LsAt
      rw [upd_ne lb]
      exact hl1
    generalize (upd H1 b (.lst (bx p1 q n1))) = H2 at sb2 hb2 hl2 ⊢
    clear s1 hb1 hl1
    refine ⟨_, _, rfl, ?_⟩
    refine asg_seq ?_
    have v2 := val_lenL (K := K) (val_var (σ := [some (.ref b), some (.str z), some (.ref lp), some (.int way), none, none, none, none, none]) (i := 2) rfl) (SqL.of hl2)
    rw [List.length_map] at v2
    refine take_box rfl v2 hb2 B1 (by omega) (by omega) (by omega) fun at' p4 n4 a0 a8 B4 le4 => ?_
    have hl4 : LsAt (upd H2 b (.lst (bx p4 q n4))) lp (rowsOf z) := by
      unfold LsAt
      rw [upd_ne lb]
      exact hl2
    have hb4 : (upd H2 b (.lst (bx p4 q n4))) b = some (.lst (bx p4 q n4)) := upd_same
    have sb4 : SameBut b H (upd H2 b (.lst (bx p4 q n4))) := sb2.trans (SameBut.upd _ _ _)
    generalize (upd H2 b (.lst (bx p4 q n4))) = H4 at hl4 hb4 sb4 ⊢
    clear sb2 hb2 hl2 v2
    obtain ⟨at', rfl⟩ : ∃ k : Nat, at' = (k : Int) := ⟨at'.toNat, by omega⟩
    have al : at' < (rowsOf z).length := by omega
    have hat : (rowsOf z)[at']? = some (rowsOf z)[at'] := List.getElem?_eq_getElem al
    have oat : PyData.strOk (rowsOf z)[at'] = true := wO _ (List.getElem_mem al)
    have fat : 10 ∉ ((rowsOf z)[at']).cps.toList := wF _ (List.getElem_mem al)
    have lat := Wt_mem (List.getElem_mem al)
    generalize hzs : rowsOf z = zs at *
    try dsimp only [gName, tSeq, tIfS]
    refine (ans_eq2 (x := .int way) (v := .int 0) (val_var rfl) val_c rfl) _ ?_
    refine ite2 (fun _ => ?_) fun _ => ?_
    · -- rows bent
      refine bm_run (x := .str "\n") val_c rfl ?_
      dsimp only [tCons, tNil]
      dsimp only [tCall, tCons, tNil]
      refine (val_var rfl) _ ((val_var rfl) _ ?_)
      refine (LV.catB (LV.v rfl hl4) (LV.lst (ws := more5) ?_ (by decide)) (by show zs.length + 5 ≤ _; omega)) H4 _ (Same.refl _) fun H5 c s5 h5 => ?_
      · repeat (first | exact AL.nil | refine AL.c ?_)
      have hb5 := s5 _ _ hb4
      refine ⟨b, lp, c, zs, zs ++ more5, L + 15, p4, q, n4, rfl, hb5, B4, by omega, s5 _ _ hl4, h5, by omega, by rw [List.length_append]; show 0 < zs.length + 5; omega, by rw [List.length_append]; show zs.length + 5 ≤ 20000; omega, fun y hy => ?_, fun H6 r ys p6 n6 sb6 hb6 B6 le6 hr6 hm wy ly => ?_⟩
      · rcases List.mem_append.mp hy with h | h
        · have := Wt_mem h
          omega
        · have := (more5_ok y h).1
          omega
      · have hm2 : ∀ y ∈ ys, y ∈ zs ∨ y ∈ more5 := fun y hy => by
          rcases hm y hy with h | h
          · exact .inl h
          · exact List.mem_append.mp h
        refine fin2 ys r H6 p6 n6 hr6 (sb4.trans ((SameBut.of_same s5).trans sb6)) hb6 B6 (by omega) (by omega) (fun y hy => ?_) (fun y hy => ?_) (by omega)
        · rcases hm2 y hy with h | h
          · exact wO y h
          · exact (more5_ok y h).2.1
        · rcases hm2 y hy with h | h
          · exact wF y h
          · exact (more5_ok y h).2.2
    try dsimp only [tNext, tSeq, tIfS]
    refine (ans_eq2 (x := .int way) (v := .int 1) (val_var rfl) val_c rfl) _ ?_
    refine ite2 (fun _ => ?_) fun _ => ?_
    · -- a sign put in
      refine asg_seq ?_
      refine take_box rfl (val_i0 (i := (z.length : Int)) (j := 1) (val_lenS (val_var rfl) (big_size (by omega))) val_c) hb4 B4 (by omega) (by omega) (by omega) fun spot p5 n5 s0 s9 B5 le5 => ?_
      have sb5 : SameBut b H (upd H4 b (.lst (bx p5 q n5))) := sb4.trans (SameBut.upd _ _ _)
      have hb5 : (upd H4 b (.lst (bx p5 q n5))) b = some (.lst (bx p5 q n5)) := upd_same
      generalize (upd H4 b (.lst (bx p5 q n5))) = H5 at sb5 hb5 ⊢
      refine asg_seq (of_run (ws := signs8) rfl (LV.lst ?_ (by decide)) hb5 B5 (by omega) (by decide) (by decide) fun H6 y p6 n6 sb6 hb6 B6 le6 my => ?_)
      · repeat (first | exact AL.nil | refine AL.c ?_)
      obtain ⟨ly, oy, ny⟩ := signs8_ok y my
      try dsimp only [gName, tRet, tOp]
      refine (val_cutH (z := z) (val_var rfl) (val_var rfl) (big_size (by omega))) _ ?_
      have l1 : (cutS z none (some spot)).length ≤ z.length := cutS_le
      have o1 : PyData.strOk (cutS z none (some spot)) = true := cut_ok oz
      have c1 := lns_cut (z := z) (lo := none) (hi := some spot)
      generalize cutS z none (some spot) = a1 at l1 o1 c1 ⊢
      refine (val_var rfl) _ ⟨a1, y, rfl, rfl, big_size (by omega), ?_⟩
      try dsimp only [tSl]
      refine (val_var rfl) _ ?_
      show tPart _ _ _ _
      try dsimp only [tPart]
      refine (val_var rfl) _ ?_
      refine take_box rfl val_c hb6 B6 (by decide) (by decide) (by omega) fun d p7 n7 d0 d2 B7 le7 => ?_
      refine ⟨spot, d, rfl, rfl, _, rfl, ?_⟩
      show tNoPart _ _ _
      refine ⟨z, rfl, big_size (by omega), ?_⟩
      have l2 : (cutS z (some (spot + d)) none).length ≤ z.length := cutS_le
      have o2 : PyData.strOk (cutS z (some (spot + d)) none) = true := cut_ok oz
      have c2 := lns_cut (z := z) (lo := some (spot + d)) (hi := none)
      generalize cutS z (some (spot + d)) none = a2 at l2 o2 c2 ⊢
      have la := app_len' a1 y
      refine ⟨a1 ++ y, a2, rfl, rfl, big_size (by omega), ?_⟩
      refine k _ _ p7 n7 (sb5.trans (sb6.trans (SameBut.upd _ _ _))) upd_same B7 (by omega) ⟨by rw [app_len']; omega, ok_add (ok_add o1 oy) o2, ?_⟩
      rw [rows_lns, lns_app, lns_app]
      have := rows_lns z
      rw [hzs] at this
      omega
    try dsimp only [tNext, tSeq, tIfS]
    refine (ans_eq2 (x := .int way) (v := .int 2) (val_var rfl) val_c rfl) _ ?_
    refine ite2 (fun _ => ?_) fun _ => ?_
    · -- a row set in or out
      have sv : SV (tOp (rIxL K) (tVar 2) (tVar 4)) [some (.ref b), some (.str z), some (.ref lp), some (.int way), some (.int (at' : Nat)), none, none, none, none] H4 zs[at'] := fun H1 s => val_ixL (K := K) (val_var rfl) (val_var rfl) (SqL.of (s _ _ hl4)) (atI_nat (j := at') (by rw [List.getElem?_map, hat]; rfl))
      have svc : SV (tSl rSlS (tOp (rIxL K) (tVar 2) (tVar 4)) (tPart (tC (.int (2 : Nat)))) tNoPart) [some (.ref b), some (.str z), some (.ref lp), some (.int way), some (.int (at' : Nat)), none, none, none, none] H4 (cutS zs[at'] (some (2 : Nat)) none) := fun H1 s Q q => (sv H1 s) _ (val_c _ ⟨2, rfl, (show tNoPart _ _ _ from ⟨zs[at'], rfl, big_size (by omega), q⟩)⟩)
      have e2 : ("  " : Str).length = 2 := by decide +kernel
      refine of_run (ws := [("  " : Str) ++ zs[at'], cutS zs[at'] (some (2 : Nat)) none, (" " : Str) ++ zs[at'], zs[at'] ++ (" " : Str)]) rfl (LV.lstH (AH.v (SV.add SV.c sv (by omega)) (AH.v svc (AH.v (SV.add SV.c sv (by rw [sp1]; omega)) (AH.v (SV.add sv SV.c (by rw [sp1]; omega)) AH.nil)))) (by show 4 ≤ 100; decide)) hb4 B4 (by omega) (by show 0 < 4; decide) (by show 4 ≤ 20000; decide) fun H5 y p5 n5 sb5 hb5 B5 le5 my => ?_
      have qy : y.length ≤ zs[at'].length + 2 ∧ PyData.strOk y = true ∧ 10 ∉ y.cps.toList := by
        have t2 : Tz 2 ("  " : Str) := tz_of (by decide +kernel)
        have t1 : Tz 1 (" " : Str) := tz_of (by decide +kernel)
        have tl : Tz zs[at'].length zs[at'] := ⟨Nat.le_refl _, oat, fat⟩
        simp only [List.mem_cons, List.not_mem_nil, or_false] at my
        rcases my with rfl | rfl | rfl | rfl
        · have := t2.add tl
          exact ⟨by have := this.l; omega, this.o, this.f⟩
        · exact ⟨by have := cutS_le (z := zs[at']) (lo := some ((2 : Nat) : Int)) (hi := none); omega, cut_ok oat, cut_free fat⟩
        · have := t1.add tl
          exact ⟨by have := this.l; omega, this.o, this.f⟩
        · have := tl.add t1
          exact ⟨by have := this.l; omega, this.o, this.f⟩
      have hl5 : LsAt H5 lp zs := sb5 _ _ lb hl4
      try dsimp only [gSub]
      refine (val_var rfl) _ ((val_var rfl) _ ?_)
      refine ⟨lp, zs.map V.str, at', at', rfl, rfl, hl5, by rw [List.length_map]; exact ixN_nat al, ?_⟩
      have hl6 : LsAt (upd H5 lp (.lst ((zs.map V.str).set at' (.str y)))) lp (zs.set at' y) := by
        unfold LsAt
        rw [upd_same, List.map_set]
      refine bm_run (x := .str "\n") val_c rfl ?_
      dsimp only [tCons, tNil]
      refine (val_var rfl) _ ?_
      have W3 := Wt_set (y := y) al
      refine fin2 _ lp _ p5 n5 hl6 (sbU nlp (sb4.trans sb5)) (by rw [upd_ne lb.symm]; exact hb5) B5 (by omega) (by omega) (wO.set qy.2.1) (fun u hu => ?_) (by rw [List.length_set]; omega)
      rcases List.mem_or_eq_of_mem_set hu with h | h
      · exact wF u h
      · rw [h]
        exact qy.2.2
    · -- a word otherwise
      have vix : ∀ (σ : L2.St) (H' : Hp), LsAt H' lp zs → σ[2]? = some (some (.ref lp)) → σ[4]? = some (some (.int (at' : Nat))) → Val (tOp (rIxL K) (tVar 2) (tVar 4)) σ H' (.str zs[at']) := fun σ H' hl h2 h4 => val_ixL (K := K) (val_var h2) (val_var h4) (SqL.of hl) (atI_nat (j := at') (by rw [List.getElem?_map, hat]; rfl))
      refine asg_seq ?_
      refine bm_run (x := .str zs[at']) (vix _ _ hl4 rfl rfl) rfl ?_
      dsimp only [tCons, tNil]
      refine val_c _ ⟨zs[at'], " ", rfl, rfl, big_size (by omega), ?_⟩
      have rl : (Txt.lstripChars zs[at'] " ").length ≤ zs[at'].length := strip_len
      have ro : PyData.strOk (Txt.lstripChars zs[at'] " ") = true := strip_ok oat
      have rf : 10 ∉ (Txt.lstripChars zs[at'] " ").cps.toList := strip_free fat
      generalize Txt.lstripChars zs[at'] " " = rest at rl ro rf ⊢
      refine asg_seq ?_
      dsimp only [tOp]
      dsimp only [tM0]
      refine (val_var rfl) _ ⟨⟨_, rfl⟩, z, rfl, rfl, big_size (by omega), fun p5 np5 => ?_⟩
      have s5 := same_upd (o := .lst ((Txt.words z).map V.str)) np5
      have h5 : LsAt (upd H4 p5 (.lst ((Txt.words z).map V.str))) p5 (Txt.words z) := upd_same
      generalize (upd H4 p5 (.lst ((Txt.words z).map V.str))) = H5 at s5 h5 ⊢
      refine (LV.lst (ws := words13) ?_ (by decide)) H5 _ (Same.refl _) fun H6 c6 s6 h6 => ?_
      · repeat (first | exact AL.nil | refine AL.c ?_)
      have Ww := words_wt z
      have Wl := Wt_len (Txt.words z)
      refine ⟨p5, c6, _, _, rfl, rfl, s6 _ _ h5, h6, by rw [List.length_map, List.length_map]; exact big_size (by show _ + 13 ≤ _; omega), fun p7 np7 => ?_⟩
      have s7 := same_upd (o := .lst ((Txt.words z).map V.str ++ words13.map V.str)) np7
      have h7 : LsAt (upd H6 p7 (.lst ((Txt.words z).map V.str ++ words13.map V.str))) p7 (Txt.words z ++ words13) := by
        unfold LsAt
        rw [upd_same, List.map_append]
      have s47 := s5.trans (s6.trans s7)
      have np7' : H4 p7 = none := (s5.trans s6).free np7
      generalize (upd H6 p7 (.lst ((Txt.words z).map V.str ++ words13.map V.str))) = H7 at s7 h7 s47 ⊢
      have hl7 : LsAt H7 lp zs := s47 _ _ hl4
      have hb7 := s47 _ _ hb4
      have sb7 := sb4.trans (SameBut.of_same s47)
      have lp7 : lp ≠ p7 := ne_of_none hl4 np7'
      have b7 : b ≠ p7 := ne_of_none hb4 np7'
      have n07 : H p7 = none := by
        cases e : H p7 with
        | none => rfl
        | some o =>
          have := sb4 _ _ b7.symm e
          rw [np7'] at this
          cases this
      try dsimp only [gName, tSeq, tDrop]
      refine bm_run (x := .ref p7) (val_var rfl) (.inl ⟨rfl, _, SqL.of h7⟩) ?_
      dsimp only [tCons, tNil]
      refine val_c _ ⟨p7, _, _, rfl, rfl, h7, by rw [List.length_map, List.length_append]; exact Nat.lt_of_le_of_lt (show (Txt.words z).length + 13 ≤ 20000 by omega) (by decide), ?_⟩
      have h8 : LsAt (upd H7 p7 (.lst ((Txt.words z ++ words13).map V.str ++ [.str "abcdefghi"]))) p7 (Txt.words z ++ (words13 ++ (["abcdefghi"] : List Str))) := by
        unfold LsAt
        rw [upd_same, ← List.append_assoc, List.map_append (l₁ := Txt.words z ++ words13)]
        rfl
      have hl8 : LsAt (upd H7 p7 (.lst ((Txt.words z ++ words13).map V.str ++ [.str "abcdefghi"]))) lp zs := by
        unfold LsAt
        rw [upd_ne lp7]
        exact hl7
      have hb8 : (upd H7 p7 (.lst ((Txt.words z ++ words13).map V.str ++ [.str "abcdefghi"]))) b = some (.lst (bx p4 q n4)) := by rw [upd_ne b7]; exact hb7
      have sb8 : SameBut b H (upd H7 p7 (.lst ((Txt.words z ++ words13).map V.str ++ [.str "abcdefghi"]))) := sbU n07 sb7
      generalize (upd H7 p7 (.lst ((Txt.words z ++ words13).map V.str ++ [.str "abcdefghi"]))) = H8 at h8 hl8 hb8 sb8 ⊢
      clear h7 hl7 hb7 sb7 s47 s7 s6 s5 h6
      generalize hss : Txt.words z ++ (words13 ++ (["abcdefghi"] : List Str)) = ss at h8
      have ssl : ss.length ≤ 20000 ∧ 0 < ss.length := by
        rw [← hss, List.length_append]
        show (Txt.words z).length + 14 ≤ 20000 ∧ 0 < (Txt.words z).length + 14
        omega
      have ssq : ∀ y ∈ ss, y.length + 1 ≤ L + 10 ∧ PyData.strOk y = true ∧ 10 ∉ y.cps.toList := fun y hy => by
        rw [← hss] at hy
        rcases List.mem_append.mp hy with h | h
        · have := Wt_mem h
          exact ⟨by omega, words_strOk oz y h, words_free y h⟩
        · obtain ⟨a, c⟩ := words14_ok y h
          exact ⟨by omega, c⟩
      have vb : Val (tOp rMulB (tC (.str " ")) (tOp (rI0 fun i j => V.int (i - j)) (tCB rLenS (tCons (tOp (rIxL K) (tVar 2) (tVar 4)) tNil)) (tCB rLenS (tCons (tVar 7) tNil)))) [some (.ref b), some (.str z), some (.ref lp), some (.int way), some (.int (at' : Nat)), none, none, some (.str rest), some (.ref p7)] H8 (.str (blanks ((zs[at'].length : Int) - (rest.length : Int)))) :=
        val_op val_c (val_i0 (val_lenS (vix _ _ hl8 rfl rfl) (big_size (by omega))) (val_lenS (val_var rfl) (big_size (by omega)))) fun Q q => ⟨_, rfl, rfl, by omega, by omega, q⟩
      try dsimp only [tAsg]
      refine vb _ ?_
      have bl := blanks_len ((zs[at'].length : Int) - (rest.length : Int))
      have bo := blanks_ok ((zs[at'].length : Int) - (rest.length : Int))
      have bf := blanks_free ((zs[at'].length : Int) - (rest.length : Int))
      generalize blanks ((zs[at'].length : Int) - (rest.length : Int)) = bk at bl bo bf ⊢
      refine bm_run (x := .str " ") val_c rfl ?_
      dsimp only [tCons, tNil]
      dsimp only [tCall, tCons, tNil]
      refine (val_var rfl) _ ?_
      refine bm_run (x := .str rest) (val_var rfl) rfl ?_
      dsimp only [tCons, tNil]
      refine val_c _ ⟨rest, " ", rfl, rfl, by decide +kernel, big_size (by omega), fun up nup => ?_⟩
      have s9 := same_upd (o := .lst ((Txt.split rest " ").map V.str)) nup
      have hu9 : LsAt (upd H8 up (.lst ((Txt.split rest " ").map V.str))) up (Txt.split rest " ") := upd_same
      generalize (upd H8 up (.lst ((Txt.split rest " ").map V.str))) = H9 at s9 hu9 ⊢
      have uW := Wt_blank rest
      have uO := OkA.split (y := " ") ro
      have uF := split_free1 rf
      generalize Txt.split rest " " = us at hu9 uW uO uF
      refine (val_var rfl) _ ⟨b, up, p7, us, ss, L + 10, p4, q, n4, rfl, s9 _ _ hb8, B4, by omega, hu9, s9 _ _ h8, by omega, ssl.2, ssl.1, fun y hy => (ssq y hy).1, fun H10 r ys p10 n10 sb10 hb10 B10 le10 hr10 hm wy ly => ?_⟩
      have W2 := Wt_join_le sp1 ys
      have yO : OkA ys := fun y hy => by
        rcases hm y hy with h | h
        · exact uO y h
        · exact (ssq y h).2.1
      have yF : ∀ y ∈ ys, 10 ∉ y.cps.toList := fun y hy => by
        rcases hm y hy with h | h
        · exact uF y h
        · exact (ssq y h).2.2
      refine ⟨" ", r, ys, rfl, rfl, .inl (SqL.of hr10), ?_, ?_⟩
      · have := sum_Wt ys
        rw [sp1, Nat.mul_one]
        omega
      rw [jn_txt]
      have jo := ok_join (c := " ") (by decide +kernel) yO
      have jf : 10 ∉ (Str.join " " ys).cps.toList := free_join yF
      generalize Str.join " " ys = jy at W2 jo jf ⊢
      refine ⟨bk, jy, rfl, rfl, big_size (by omega), ?_⟩
      have hl10 : LsAt H10 lp zs := sb10 _ _ lb (s9 _ _ hl8)
      have sb10' : SameBut b H H10 := sb8.trans ((SameBut.of_same s9).trans sb10)
      try dsimp only [gSub]
      refine (val_var rfl) _ ((val_var rfl) _ ?_)
      refine ⟨lp, zs.map V.str, at', at', rfl, rfl, hl10, by rw [List.length_map]; exact ixN_nat al, ?_⟩
      have hl11 : LsAt (upd H10 lp (.lst ((zs.map V.str).set at' (.str (bk ++ jy))))) lp (zs.set at' (bk ++ jy)) := by
        unfold LsAt
        rw [upd_same, List.map_set]
      refine bm_run (x := .str "\n") val_c rfl ?_
      dsimp only [tCons, tNil]
      refine (val_var rfl) _ ?_
      have W3 := Wt_set (y := bk ++ jy) al
      rw [app_len'] at W3
      refine fin2 _ lp _ p10 n10 hl11 (sbU nlp sb10') (by rw [upd_ne lb.symm]; exact hb10) B10 (by omega) (by omega) (wO.set (ok_add bo jo)) (fun u hu => ?_) (by rw [List.length_set]; omega)
      rcases List.mem_or_eq_of_mem_set hu with h | h
      · exact wF u h
      · rw [h, cps_append]
        intro hc
        rcases List.mem_append.mp hc with hc | hc
        · exact bf hc
        · exact jf hc
end
end K5
namespace K5
open PySem PySem.Spec PyProof.Rows L2
/-! ### four hundred states -/
theorem great_digits : ∀ k : Fin 401, (32 ∉ (toString ((k.val : Nat) : Int) : Str).cps.toList ∧ 10 ∉ (toString ((k.val : Nat) : Int) : Str).cps.toList) ∧ (toString ((k.val : Nat) : Int) : Str).length ≤ 3 ∧ PyData.strOk (toString ((k.val : Nat) : Int) : Str) = true ∧ (toString ((k.val : Nat) : Int) : Str) ≠ "" := by decide +kernel
theorem state_join (d : Str) : ("state " : Str) ++ d = Str.join " " ["state", d] := by
  have e : ("state " : Str) = "state" ++ " " := by decide +kernel
  rw [e]
  exact str_list (by simp [Str.join, cps_append, List.append_assoc])
theorem great_words (k : Fin 401) : rowWords (stateRow k.val) 0 = (["state", toString ((k.val : Nat) : Int)] : List Str) ∧ rowWords (stateRow k.val) 1 = [] ∧ (stateRow k.val).length ≤ 9 ∧ PyData.strOk (stateRow k.val) = true ∧ 10 ∉ (stateRow k.val).cps.toList := by
  obtain ⟨⟨n32, n10⟩, l3, ok, ne⟩ := great_digits k
  unfold stateRow
  generalize (toString ((k.val : Nat) : Int) : Str) = d at n32 n10 l3 ok ne
  have cs : (("state " : Str) ++ d).cps.toList = 115 :: 116 :: 97 :: 116 :: 101 :: 32 :: d.cps.toList := by
    rw [cps_append]
    rfl
  have l0 : lead ("state " ++ d) = 0 := by
    unfold lead
    rw [cs]
    rfl
  have er : lRest ("state " ++ d) = "state " ++ d := str_list (by rw [rest_list, l0]; rfl)
  have es : Txt.split (("state " : Str) ++ d) " " = (["state", d] : List Str) := by
    rw [state_join]
    have e : (" " : Str) = ⟨#[32]⟩ := by decide +kernel
    rw [e]
    refine split_join (by intro h; cases h) fun p hp => ?_
    rcases List.mem_cons.mp hp with h | h
    · rw [h]
      decide +kernel
    · rw [List.mem_singleton.mp h]
      exact n32
  have len : (("state " : Str) ++ d).length = 6 + d.length := by
    rw [len_toList', cs, len_toList']
    simp
    omega
  refine ⟨?_, ?_, by omega, ok_add (by decide +kernel) ok, ?_⟩
  · rw [words_law _ (by decide)]
    unfold lWords
    rw [er, es, if_neg]
    · rfl
    · rintro (h | h)
      · omega
      · rcases List.mem_cons.mp h with h | h
        · exact absurd h (by decide +kernel)
        · exact ne (List.mem_singleton.mp h).symm
  · rw [words_law _ (by decide)]
    unfold lWords
    rw [er, if_pos (.inl (by omega))]
    rfl
  · rw [cs]
    intro h
    simp at h
    exact n10 (Array.mem_toList_iff.mpr h)
def greatR (N : Nat) : List Str := (List.range N).map stateRow
theorem great_at {N k : Nat} (h : k < N) : (greatR N)[k]? = some (stateRow k) := by
  unfold greatR
  rw [List.getElem?_map, List.getElem?_range h]
  rfl
theorem great_len (N : Nat) : (greatR N).length = N := by
  unfold greatR
  rw [List.length_map, List.length_range]
theorem great_go {m n N : Nat} (h1 : 400 ≤ N) (h2 : N ≤ 401) : ∀ f k, f + k = 400 → pactGo m n (greatR N) f k (List.replicate k []) = .ok (400, List.replicate 400 [])
  | 0, k, h => by
    have : k = 400 := by omega
    rw [this]
    rfl
  | f + 1, k, h => by
    have w0 : wordsAt (greatR N) k 0 = (["state", toString ((k : Nat) : Int)] : List Str) := by
      unfold wordsAt
      rw [great_at (show k < N by omega)]
      exact (great_words ⟨k, by omega⟩).1
    have w1 : wordsAt (greatR N) (k + 1) 1 = [] := by
      unfold wordsAt
      by_cases c : k + 1 < N
      · rw [great_at c]
        exact (great_words ⟨k + 1, by omega⟩).2.1
      · rw [List.getElem?_eq_none (by rw [great_len]; omega)]
    have e : pactGo m n (greatR N) (f + 1) k (List.replicate k []) = if wordsAt (greatR N) k 0 = ([("state" : Str), toString (((List.replicate k ([] : StA)).length : Nat) : Int)] : List Str) then match stR m n ((greatR N).drop (k + 1)) (k + 1) [] with
        | .error e => .error e
        | .ok q => pactGo m n (greatR N) f q.1 (List.replicate k [] ++ [q.2])
      else .ok (k, List.replicate k []) := rfl
    rw [e, List.length_replicate, if_pos w0, stR_stop w1]
    show pactGo m n (greatR N) f (k + 1) (List.replicate k [] ++ [[]]) = _
    rw [← List.replicate_succ']
    exact great_go h1 h2 f (k + 1) (by omega)
theorem great_400 (m : Nat) : pactR m (greatR 400) = .ok (List.replicate 400 []) := by
  unfold pactR
  have := great_go (m := m) (n := toldR (greatR 400) 0) (N := 400) (by decide) (by decide) 400 0 rfl
  rw [show (List.replicate 0 ([] : StA)) = [] from rfl] at this
  rw [this]
  exact if_pos (great_len 400).symm
theorem great_401 (m : Nat) : pactR m (greatR 401) = .error 400 := by
  unfold pactR
  have := great_go (m := m) (n := toldR (greatR 401) 0) (N := 401) (by decide) (by decide) 400 0 rfl
  rw [show (List.replicate 0 ([] : StA)) = [] from rfl] at this
  rw [this]
  exact if_neg (by rw [great_len]; decide)
theorem great_in {N : Nat} (h : N ≤ 401) : ∀ z ∈ greatR N, z.length ≤ 9 ∧ PyData.strOk z = true ∧ 10 ∉ z.cps.toList := fun z hz => by
  unfold greatR at hz
  obtain ⟨k, hk, rfl⟩ := List.mem_map.mp hz
  have hk := List.mem_range.mp hk
  exact (great_words ⟨k, by omega⟩).2.2
theorem great_wt {N : Nat} (h : N ≤ 401) : Wt (greatR N) ≤ 10 * N := by
  have h1 := sum_le (zs := greatR N) (c := 9) fun z hz => (great_in h z hz).1
  have h2 := sum_Wt (greatR N)
  rw [great_len] at h1 h2
  omega
theorem great_rows {N : Nat} (h : N ≤ 401) (h0 : 0 < N) : rowsOf (Str.join "\n" (greatR N)) = greatR N := rows_join (fun e => by
  have := great_len N
  rw [e] at this
  simp at this
  omega) fun p hp => (great_in h p hp).2.2
theorem told_int {m : Nat} {z : Str} (m2 : 2 ≤ m) (m4 : m ≤ 4) : told9 (.int m) (.str z) = match pactR m (rowsOf z) with
    | .error e => .line (e : Nat)
    | .ok sts => .pact sts := by
  have hw : worthsOk (.int (m : Nat)) = true := by
    show (decide ((2 : Int) ≤ (m : Int)) && decide ((m : Int) ≤ 4)) = true
    rw [decide_eq_true (by omega), decide_eq_true (by omega)]
    rfl
  have e : told9 (.int m) (.str z) = match pactR ((m : Int)).toNat (rowsOf z) with
    | .error e => .line (e : Nat)
    | .ok sts => .pact sts := if_neg (by rw [hw]; decide)
  rw [e, Int.toNat_natCast]
theorem told_400 {m : Nat} (m2 : 2 ≤ m) (m4 : m ≤ 4) : told9 (.int m) (.str (Str.join "\n" (greatR 400))) = .pact (List.replicate 400 []) := by
  rw [told_int m2 m4, great_rows (by decide) (by decide), great_400]
theorem told_401 {m : Nat} (m2 : 2 ≤ m) (m4 : m ≤ 4) : told9 (.int m) (.str (Str.join "\n" (greatR 401))) = .line 400 := by
  rw [told_int m2 m4, great_rows (by decide) (by decide), great_401]
  rfl
theorem told_odd {x y : V} (h : worthsOk x = false) : told9 x y = .val := if_pos h
theorem told_no {m : Nat} {y : V} (m2 : 2 ≤ m) (m4 : m ≤ 4) (h : isS y = false) : told9 (.int m) y = .line (-1) := by
  have hw : worthsOk (.int (m : Nat)) = true := by
    show (decide ((2 : Int) ≤ (m : Int)) && decide ((m : Int) ≤ 4)) = true
    rw [decide_eq_true (by omega), decide_eq_true (by omega)]
    rfl
  unfold told9
  rw [if_neg (by rw [hw]; decide)]
  cases y with
  | str z => cases h
  | _ => rfl
/-! ### sizes -/
theorem sma_rep {w p : Nat} {d : PyData} (h : Sm w p d) : ∀ n, SmA ((w + 1) * n) p (List.replicate n d)
  | 0 => SmA.nil
  | n + 1 => by
    rw [List.replicate_succ]
    refine (SmA.cons h (sma_rep h n)).mono ?_ (Nat.le_refl _)
    rw [Nat.mul_succ]
    omega
def d400 : PyData := .tuple [.str "pact", .tuple (List.replicate 400 (.tuple []))]
theorem pact_400 : pactD (List.replicate 400 []) = .tuple (List.replicate 400 (.tuple [])) := by
  unfold pactD
  rw [List.map_replicate]
  have : stD [] = .tuple [] := by
    unfold stD sortK
    simp
  rw [this]
theorem sh_400 : ShOk d400 :=
  ((SmA.cons ((sm_str (n := 4) (z := "pact") (by decide +kernel) (by decide +kernel)).mono (Nat.le_refl _) (Nat.zero_le 2)) (SmA.cons ((sma_rep (SmA.nil (p := 0)).tup 400).tup) SmA.nil)).tup).sh (by decide) (by decide)
theorem sh_line : ShOk (.tuple [.str "line", .int (-1)]) :=
  ((SmA.cons (sm_str (n := 4) (z := "line") (by decide +kernel) (by decide +kernel)) (SmA.cons (sm_int (i := -1) (by decide) (by decide)) SmA.nil)).tup).sh (by decide) (by decide)
def oddD : List PyData := [.none, .int 0, .int 1, .int 5, .bool true, .str "2", .tuple [.int 2], .int (-2), .int 100000000000000000000]
theorem odd_sh : ∀ d ∈ oddD, ShOk (.list [.tuple [.str "worths", d], .tuple [.str "worths", d]]) := fun d hd => by
  simp only [oddD, List.mem_cons, List.not_mem_nil, or_false] at hd
  rcases hd with rfl | rfl | rfl | rfl | rfl | rfl | rfl | rfl | rfl <;> exact ⟨by decide +kernel, by decide +kernel, by decide +kernel, by decide +kernel⟩
/-! ### what stands apart from some addresses -/
theorem hide_but {L : List Addr} {H H' : Hp} (b : But L H H') : Same (hide H L) (hide H' L) := fun a o e => by
  by_cases h : a ∈ L
  · rw [hide_in h] at e
    cases e
  · rw [hide_out h] at e ⊢
    exact b a o h e
theorem Kd.mono9 {H H' : Hp} (s : Same H H') {x : V} {T : String} (h : Kd H x T) : Kd H' x T := h.mono s
/-- one that is no text -/
def G9 (L : List Addr) (H : Hp) (x : V) : Prop := isS x = false ∧ ∃ T, Kd (hide H L) x T
/-- one that is no number of worths -/
def O9 (L : List Addr) (H : Hp) (x : V) : Prop := worthsOk x = false ∧ ∃ d, d ∈ oddD ∧ Dq (hide H L) x d
theorem G9.but {L : List Addr} {H H' : Hp} (b : But L H H') {x : V} (h : G9 L H x) : G9 L H' x := by
  obtain ⟨h1, T, h2⟩ := h
  exact ⟨h1, T, h2.mono (hide_but b)⟩
theorem O9.but {L : List Addr} {H H' : Hp} (b : But L H H') {x : V} (h : O9 L H x) : O9 L H' x := by
  obtain ⟨h1, d, h2, h3⟩ := h
  exact ⟨h1, d, h2, Dq.mono (hide_but b) _ h3⟩
def PV (P : Hp → V → Prop) (te : TE) (σ : L2.St) (H : Hp) : Prop := ∀ H1, Same H H1 → ∀ Q : VK, (∀ x H', Same H1 H' → P H' x → Q x H') → te σ H1 Q
def PL (P : Hp → V → Prop) (k : Nat) (t : TA) (σ : L2.St) (H : Hp) : Prop := ∀ H1, Same H H1 → ∀ Q : List V → Hp → Prop, (∀ xs H', Same H1 H' → (∀ x ∈ xs, P H' x) → xs.length = k → Q xs H') → t σ H1 Q
section
variable {σ : L2.St} {H : Hp} {b : Addr} {k i : Nat} {te : TE} {t : TA} {x : V} {P : Hp → V → Prop} {p q n : Int} {Q : VK} {L : List Addr}
theorem pl_nil : PL P 0 tNil σ H := fun H1 _ Q q => q [] H1 (Same.refl _) (fun _ h => nomatch h) rfl
theorem pl_cons (mono : ∀ H H' x, Same H H' → P H x → P H' x) (h : PV P te σ H) (g : PL P k t σ H) : PL P (k + 1) (tCons te t) σ H := fun H1 s Q q =>
  h H1 s _ fun x H2 s2 gx => g H2 (s.trans s2) _ fun xs H3 s3 gs l => q (x :: xs) H3 (s2.trans s3) (fun y hy => by
    rcases List.mem_cons.mp hy with rfl | hy
    · exact mono _ _ _ s3 gx
    · exact gs y hy) (by rw [List.length_cons, l])
theorem of_runP (mono : ∀ H H' x, Same H H' → P H x → P H' x) (hv : σ[i]? = some (some (.ref b))) (g : PL P k t σ H) (hb : H b = some (.lst (bx p q n))) (Bx : Box p q n) (hn : n < 1000000) (k0 : 0 < k) (k1 : k ≤ 100)
    (q : ∀ (H1 : Hp) (y : V) (p' n' : Int), Same H H1 → P H1 y → Box p' q n' → n' ≤ n + 1 → Q y (upd H1 b (.lst (bx p' q n')))) : tCall spOfB [] E0 (tCons (tVar i) (tCons (tLst t) tNil)) σ H Q := by
  dsimp only [tCall, tLst, tCons, tNil]
  refine (val_var hv) _ (g H (Same.refl _) _ fun xs H1 s1 gs len => ⟨big_size (by omega), fun l nl => ?_⟩)
  have s2 := same_upd (o := .lst xs) nl
  have hb2 := s2 _ _ (s1 _ _ hb)
  refine ⟨b, l, xs, p, _, n, rfl, hb2, Bx, hn, upd_same, (ne_of_none (s1 _ _ hb) nl).symm, by omega, by omega, fun y p' n' hy B2 le => ?_⟩
  exact q _ y p' n' (s1.trans s2) (mono _ _ _ s2 (gs y hy)) B2 le
theorem pv_val (h : ∀ H1, Same H H1 → Val te σ H1 x ∧ P H1 x) : PV P te σ H := fun H1 s Q q => (h H1 s).1 _ (q x H1 (Same.refl _) (h H1 s).2)
theorem hid_new {p : Addr} {o : HO} {H1 : Hp} (there : ∀ a ∈ L, ∃ u, H1 a = some u) (np : H1 p = none) : (hide (upd H1 p o) L) p = some o := by
  rw [hide_out fun h => by
    obtain ⟨u, hu⟩ := there p h
    rw [np] at hu
    cases hu]
  exact upd_same
end
end K5
namespace K5
open PySem PySem.Spec PyProof.Rows L2
/-- where the turn stands -/
structure RI (H0 H : Hp) (b P1 P2 : Addr) (p q n : Int) : Prop where
  bt : But [b, P1, P2] H0 H
  tb : Tabs P1 P2 H
  hb : H b = some (.lst (bx p q n))
  bo : Box p q n
section
variable {H0 H1 H2 : Hp} {b P1 P2 : Addr} {p q n p2 n2 : Int}
theorem RI.ne (r : RI H0 H1 b P1 P2 p q n) : P1 ≠ b ∧ P2 ≠ b := by
  obtain ⟨ps, h1, _⟩ := r.tb.a
  obtain ⟨ps2, h2, _⟩ := r.tb.b
  exact ⟨fun e => (by rw [e, r.hb] at h1; cases h1), fun e => (by rw [e, r.hb] at h2; cases h2)⟩
theorem RI.there (r : RI H0 H1 b P1 P2 p q n) : ∀ a ∈ [b, P1, P2], ∃ u, H1 a = some u := fun a h => by
  obtain ⟨ps, h1, _⟩ := r.tb.a
  obtain ⟨ps2, h2, _⟩ := r.tb.b
  rcases List.mem_cons.mp h with e | h
  · exact ⟨_, e ▸ r.hb⟩
  · rcases List.mem_cons.mp h with e | h
    · exact ⟨_, e ▸ h1⟩
    · exact ⟨_, List.mem_singleton.mp h ▸ h2⟩
theorem RI.same (r : RI H0 H1 b P1 P2 p q n) (s : Same H1 H2) : RI H0 H2 b P1 P2 p q n := ⟨r.bt.trans (But.of_same s), r.tb.same s, s _ _ r.hb, r.bo⟩
theorem RI.sb (r : RI H0 H1 b P1 P2 p q n) (s : SameBut b H1 H2) (hb : H2 b = some (.lst (bx p2 q n2))) (bo : Box p2 q n2) : RI H0 H2 b P1 P2 p2 q n2 := by
  obtain ⟨n1, n2⟩ := r.ne
  obtain ⟨ps, h1, g1⟩ := r.tb.a
  obtain ⟨ps2, h2, g2⟩ := r.tb.b
  exact ⟨r.bt.trans fun a o n e => s _ _ (fun c => n (by rw [c]; simp)) e, ⟨⟨ps, s _ _ n1 h1, g1⟩, ⟨ps2, s _ _ n2 h2, g2⟩⟩, hb, bo⟩
theorem RI.told (r : RI H0 H1 b P1 P2 p q n) (s : But [P1, P2] H1 H2) (t : Tabs P1 P2 H2) : RI H0 H2 b P1 P2 p q n := by
  obtain ⟨n1, n2⟩ := r.ne
  exact ⟨r.bt.trans fun a o n e => s a o (fun c => n (List.mem_cons_of_mem _ c)) e, t, s _ _ (fun c => by
    rcases List.mem_cons.mp c with e | c
    · exact n1 e.symm
    · exact n2 (List.mem_singleton.mp c).symm) r.hb, r.bo⟩
/-- an object of ours is kept by a telling -/
theorem told_keep (r : RI H0 H1 b P1 P2 p q n) (s : But [P1, P2] H1 H2) {a : Addr} {o : HO} (h : H1 a = some o) (no : ∀ ps, o ≠ .tbl ps) : H2 a = some o := by
  obtain ⟨ps, h1, _⟩ := r.tb.a
  obtain ⟨ps2, h2, _⟩ := r.tb.b
  refine s _ _ (fun c => ?_) h
  rcases List.mem_cons.mp c with e | c
  · rw [e, h1] at h
    exact no ps (Option.some.inj h).symm
  · rw [List.mem_singleton.mp c, h2] at h
    exact no ps2 (Option.some.inj h).symm
end
def Lf : Nat → Nat
  | 0 => 3160
  | c + 1 => 2 * Lf c + 200
def Rf : Nat → Nat
  | 0 => 52
  | c + 1 => 2 * Rf c + 2
theorem lf_ok {c : Nat} (h : c < 2) : Lf c ≤ 6600 ∧ Rf c ≤ 150 ∧ 20 ≤ Lf c := by
  have : c = 0 ∨ c = 1 := by omega
  rcases this with rfl | rfl <;> decide
theorem lf_end {c : Nat} (h : c ≤ 2) : Lf c ≤ 13240 ∧ Rf c ≤ 214 := by
  have : c = 0 ∨ c = 1 ∨ c = 2 := by omega
  rcases this with rfl | rfl | rfl <;> decide
section
variable {K : PySem.W.Frag} {b P1 P2 : Addr} {H0 H : Hp} {p q n : Int} {m : Nat}
/-- is the page read as it is told? -/
theorem ir_run {te : TE} {z : Str} {σ : L2.St} {R : Bool → Hp → Prop} (hm : σ[1]? = some (some (.int (m : Nat)))) (hz : Val te σ H (.str z)) (m2 : 2 ≤ m) (m4 : m ≤ 4) (pg : Pg 14000 399 z) (r : RI H0 H b P1 P2 p q n) (pne : P1 ≠ P2)
    (k : ∀ H' : Hp, But [P1, P2] H H' → RI H0 H' b P1 P2 p q n → R false H') : tNot (tB (tCall (spIsRight P1 P2) [] E0 (tCons (tVar 1) (tCons te tNil)))) σ H R := by
  dsimp only [tNot, tB, tCall, tCons, tNil]
  refine (val_var hm) _ (hz _ ⟨m, z, rfl, m2, m4, pg.l, pg.o, Nat.lt_of_le_of_lt pg.r (by decide), r.tb, pne, fun H' b' t' => ⟨true, rfl, ?_⟩⟩)
  exact k H' b' (r.told b' t')
/-- one or two bends -/
theorem bent_loop {D0 : Ends} {z : Str} {u2 u3 u5 u6 u7 u8 u9 : Option V} (pg : Pg 3160 52 z) (r : RI H0 H b P1 P2 p q n) (hn : n + 100 < 1000000)
    (hd : ∀ (H' : Hp) (y : Str) (p' n' : Int) (u5 : Option V), RI H0 H' b P1 P2 p' q n' → n' ≤ n + 40 → Pg 13240 214 y → D0.nx [some (.ref b), some (.int (m : Nat)), u2, u3, some (.str y), u5, u6, u7, u8, u9] H') :
    tFor (iRng1 (tCons (tCall spOfB [] E0 (tCons (tVar 0) (tCons (tLst (tCons (tC (.int 1)) (tCons (tC (.int 1)) (tCons (tC (.int 2)) tNil)))) tNil))) tNil)) (gName 5) (tAsg (tCall spBent [] E0 (tCons (tVar 0) (tCons (tVar 4) tNil))) (gName 4)) D0 [some (.ref b), some (.int (m : Nat)), u2, u3, some (.str z), u5, u6, u7, u8, u9] H := by
  dsimp only [tFor, iRng1, tCons, tNil]
  refine of_runP (P := fun _ x => ∃ j : Int, x = .int j ∧ 1 ≤ j ∧ j ≤ 2) (fun _ _ _ _ h => h) rfl (pl_cons (fun _ _ _ _ h => h) (pv_val fun _ _ => ⟨val_c, 1, rfl, by decide, by decide⟩) (pl_cons (fun _ _ _ _ h => h) (pv_val fun _ _ => ⟨val_c, 1, rfl, by decide, by decide⟩) (pl_cons (fun _ _ _ _ h => h) (pv_val fun _ _ => ⟨val_c, 2, rfl, by decide, by decide⟩) pl_nil))) r.hb r.bo (by omega) (by decide) (by decide) fun H1 y p1 n1 s1 hy B1 le1 => ?_
  obtain ⟨j, rfl, j1, j2⟩ := hy
  have r1 := (r.same s1).sb (SameBut.upd b H1 (.lst (bx p1 q n1))) upd_same B1
  generalize (upd H1 b (.lst (bx p1 q n1))) = H2 at r1 ⊢
  refine ⟨j, rfl, by omega, by omega, ?_⟩
  show ∃ W : Nat → Nat → L2.St → Hp → Prop, _
  refine for_range (lo := 0) (n := j.toNat) (fun c σ H' => ∃ (y : Str) (p' n' : Int) (u5 : Option V), σ = [some (.ref b), some (.int (m : Nat)), u2, u3, some (.str y), u5, u6, u7, u8, u9] ∧ RI H0 H' b P1 P2 p' q n' ∧ n' ≤ n1 + 12 * c ∧ Pg (Lf c) (Rf c) y) ?_ ?_ ?_
  · exact ⟨z, p1, n1, _, rfl, r1, by omega, pg⟩
  · rintro c σ H3 hc ⟨y, p3, n3, u5', rfl, r3, le3, pg3⟩
    obtain ⟨l1, l2, l3⟩ := lf_ok (c := c) (by omega)
    dsimp only [gName]
    refine asg_end ?_
    dsimp only [tCall, tCons, tNil]
    refine (val_var rfl) _ ((val_var rfl) _ ⟨b, y, Lf c, Rf c, p3, q, n3, rfl, r3.hb, r3.bo, by omega, pg3, l1, l2, l3, fun H4 x p4 n4 s4 hb4 B4 le4 pg4 => ?_⟩)
    exact ⟨x, p4, n4, _, rfl, r3.sb s4 hb4 B4, by omega, pg4⟩
  · rintro σ H3 ⟨y, p3, n3, u5', rfl, r3, le3, pg3⟩
    obtain ⟨l1, l2⟩ := lf_end (c := j.toNat) (by omega)
    exact hd H3 y p3 n3 _ r3 (by omega) (pg3.mono l1 l2)
/-- the rows of 401 states -/
theorem great_lc {u0 u1 u2 u3 u4 u5 u6 u7 u8 u9 : Option V} {Q : VK} (k : ∀ (H' : Hp) (D : Addr), Same H H' → LsAt H' D (greatR 401) → Q (.ref D) H') :
    tLc (iRng1 (tCons (tC (.int 401)) tNil)) (gName 9) tYes (tOp rAddS (tC (.str "state ")) (tCB rStrI (tCons (tVar 9) tNil))) [9] [u0, u1, u2, u3, u4, u5, u6, u7, u8, u9] H Q := by
  dsimp only [tLc, iRng1, tCons, tNil]
  refine val_c _ ⟨401, rfl, by decide, by decide, fun D nD => ?_⟩
  refine lc_range (lo := 0) (n := (401 : Int).toNat) (fun i H' => Same H H' ∧ LsAt H' D (greatR i)) ⟨same_upd nD, upd_same⟩ (fun i H2 hi hI => ?_) fun H2 hI => ?_
  · obtain ⟨s2, hD⟩ := hI
    have hi : i < 401 := hi
    refine ⟨rfl, ?_⟩
    dsimp only [tYes]
    rw [if_pos rfl]
    have ei : (0 : Int) + (i : Nat) = ((i : Nat) : Int) := by omega
    rw [ei]
    have hl := (great_words ⟨i, hi⟩).2.2.1
    have hl2 : (("state " : Str) ++ (toString ((i : Nat) : Int) : Str)).length ≤ 9 := hl
    rw [app_len'] at hl2
    refine val_addS (val_c (v := .str "state ")) (val_strI (val_var (i := 9) (v := .int (i : Nat)) rfl) (small_log (by omega) (by omega))) (by omega) _ ?_
    refine ⟨_, hD, by rw [List.length_map, great_len]; exact Nat.lt_trans (show i < 402 by omega) (by decide), fun a o e => ?_, ?_⟩
    · rw [upd_ne (ne_of_none e nD)]
      exact s2 a o e
    · unfold LsAt
      have : greatR (i + 1) = greatR i ++ [stateRow i] := by
        unfold greatR
        rw [List.range_succ, List.map_append]
        rfl
      rw [upd_same, this, List.map_append]
      rfl
  · exact k H2 D hI.1 hI.2
end
end K5
namespace K5
open PySem PySem.Spec PyProof.Rows L2
/-! ### the law's one turn -/
abbrev s__law_right : Stmt := topS 44
abbrev nmRight : List Str := ["_law_box_here", "_law_worths", "_law_page", "_law_turn", "_law_bent_here", "_law_more", "_law_great", "_law_thing", "_law_odd", "_law_number_here"]
theorem sc__law_right : FnScope nmRight ["_law_box_here"] (defScope s__law_right) := ⟨rfl, rfl, rfl, by decide +kernel, rfl, by decide +kernel, by decide +kernel⟩
def spRight (P1 P2 : Addr) : Sp := fun vs H Q _ => ∃ (b : Addr) (p q n : Int), vs = [.ref b] ∧ H b = some (.lst (bx p q n)) ∧ Box p q n ∧ n + 10000 < 1000000 ∧ Tabs P1 P2 H ∧ P1 ≠ P2 ∧
  ∀ (H' : Hp) (p' n' : Int), But [b, P1, P2] H H' → Tabs P1 P2 H' → H' b = some (.lst (bx p' q n')) → Box p' q n' → n' ≤ n + 8000 → Q (.bl true) H'
theorem flat_one {α : Type} (x : α) : ∀ n : Nat, (List.replicate n [x]).flatten = List.replicate n x
  | 0 => rfl
  | n + 1 => by
    rw [List.replicate_succ, List.flatten_cons, flat_one x n, List.replicate_succ]
    rfl
theorem dqA_rep {H : Hp} {v : V} {d : PyData} (h : Dq H v d) : ∀ n : Nat, DqA H (List.replicate n v) (List.replicate n d)
  | 0 => .nil
  | n + 1 => .cons h (dqA_rep h n)
theorem great_facts {m : Nat} (m2 : 2 ≤ m) (m4 : m ≤ 4) : ∃ (g g4 : List Str) (z400 z401 : Str), greatR 401 = g ∧ g.take 400 = g4 ∧ Str.join "\n" g4 = z400 ∧ Str.join "\n" g = z401 ∧ Wt g4 ≤ 4010 ∧ Wt g ≤ 4010 ∧ (z400.length ≤ 14000 ∧ PyData.strOk z400 = true) ∧ (z401.length ≤ 14000 ∧ PyData.strOk z401 = true) ∧ told9 (.int m) (.str z400) = .pact (List.replicate 400 []) ∧ told9 (.int m) (.str z401) = .line 400 := by
  have t400 : (greatR 401).take 400 = greatR 400 := by
    unfold greatR
    rw [← List.map_take, List.take_range]
    rfl
  have wt400 := great_wt (N := 400) (by decide)
  have wt401 := great_wt (N := 401) (by decide)
  have l400 := Wt_join_le nl1 (greatR 400)
  have l401 := Wt_join_le nl1 (greatR 401)
  exact ⟨greatR 401, greatR 400, Str.join "\n" (greatR 400), Str.join "\n" (greatR 401), rfl, t400, rfl, rfl, by omega, by omega, ⟨by omega, ok_join (by decide +kernel) fun z hz => (great_in (by decide) z hz).2.1⟩, ⟨by omega, ok_join (by decide +kernel) fun z hz => (great_in (by decide) z hz).2.1⟩, told_400 m2 m4, told_401 m2 m4⟩
section
variable {σ : L2.St} {H : Hp} {L : List Addr}
theorem g9_tup0 (th : ∀ a ∈ L, ∃ u, H a = some u) : PV (G9 L) (tTup tNil) σ H := fun H1 s Q q => ⟨Nat.zero_le _, fun p np => q _ _ (same_upd np) ⟨rfl, _, .tup (hid_new (fun a h => let ⟨u, hu⟩ := th a h; ⟨u, s _ _ hu⟩) np)⟩⟩
theorem g9_tup1 {z : Str} (th : ∀ a ∈ L, ∃ u, H a = some u) : PV (G9 L) (tTup (tCons (tC (.str z)) tNil)) σ H := fun H1 s Q q => by
  dsimp only [tTup, tCons, tNil]
  refine val_c _ ?_
  exact ⟨by show 1 ≤ sizeLine; decide, fun p np => q _ _ (same_upd np) ⟨rfl, _, .tup (hid_new (fun a h => let ⟨u, hu⟩ := th a h; ⟨u, s _ _ hu⟩) np)⟩⟩
theorem g9_lst1 {z : Str} (th : ∀ a ∈ L, ∃ u, H a = some u) : PV (G9 L) (tLst (tCons (tC (.str z)) tNil)) σ H := fun H1 s Q q => by
  dsimp only [tLst, tCons, tNil]
  refine val_c _ ?_
  exact ⟨by show 1 ≤ sizeLine; decide, fun p np => q _ _ (same_upd np) ⟨rfl, _, .lst (hid_new (fun a h => let ⟨u, hu⟩ := th a h; ⟨u, s _ _ hu⟩) np)⟩⟩
theorem g9_dic (th : ∀ a ∈ L, ∃ u, H a = some u) : PV (G9 L) tDNewK σ H := fun H1 s Q q p np => q _ _ (same_upd np) ⟨rfl, _, .dK (hid_new (fun a h => let ⟨u, hu⟩ := th a h; ⟨u, s _ _ hu⟩) np)⟩
theorem o9_tup2 (th : ∀ a ∈ L, ∃ u, H a = some u) : PV (O9 L) (tTup (tCons (tC (.int 2)) tNil)) σ H := fun H1 s Q q => by
  dsimp only [tTup, tCons, tNil]
  refine val_c _ ?_
  exact ⟨by show 1 ≤ sizeLine; decide, fun p np => q _ _ (same_upd np) ⟨rfl, .tuple [.int 2], by simp [oddD], .tup (hid_new (fun a h => let ⟨u, hu⟩ := th a h; ⟨u, s _ _ hu⟩) np) (.cons (.int _) .nil)⟩⟩
theorem pv_and {te : TE} {y : V} (h : PV (O9 L) te σ H) (g : G9 L H y) : PV (fun H x => O9 L H x ∧ G9 L H y) te σ H := fun H1 s Q q => h H1 s _ fun x H' s' ox => q x H' s' ⟨ox, g.but (But.of_same (s.trans s'))⟩
theorem pow20 {H : Hp} : Val (tOp (rI CPow fun i j => .int (i ^ j.toNat)) (tC (.int 10)) (tC (.int 20))) σ H (.int 100000000000000000000) := by
  have := val_iC (C := CPow) (g := fun i j => i ^ j.toNat) (val_c (σ := σ) (H := H) (v := .int 10)) (val_c (v := .int 20)) ⟨by decide, by decide, by decide⟩
  have e : V.int ((10 : Int) ^ (20 : Int).toNat) = .int 100000000000000000000 := by
    have : (10 : Int) ^ (20 : Int).toNat = 100000000000000000000 := by decide +kernel
    rw [this]
  rw [← e]
  exact this
end
section
variable {P : Program} {w : World} {K : PySem.W.Frag} {mg : Str → Option Value} {base : Heap} {P1 P2 : Addr}
theorem ok_right {f fO fX fPa fI fB fT fTk fA fS fOu fBr : Addr} {fd fdO fdX fdPa fdI fdB fdT fdTk fdA fdS fdOu fdBr : FuncData} (B : Bt mg) (me : mg "enumerate" = none) (ms : mg "sorted" = none) (D : Df K mg "_law_right" s__law_right f fd ["_law_box_here"])
    (DTk : Df K mg "_law_take" sTake fTk fdTk ["_law_box_here", "_law_many"]) (DO : Df K mg "_law_of" s__law_of fO fdO ["_law_box_here", "_law_some_here"]) (DX : Df K mg "_law_pact_text" s__law_pact_text fX fdX ["_law_pact_here"]) (DA : Df K mg "_law_answer_word" s__law_answer_word fA fdA ["_law_answer"])
    (DPa : Df K mg "_law_pact" s__law_pact fPa fdPa ["_law_box_here", "_law_worths"]) (DS : Df K mg "_law_some" s__law_some fS fdS ["_law_box_here", "_law_items", "_law_many"]) (DOu : Df K mg "_law_outcomes_of" s__law_outcomes_of fOu fdOu ["_law_box_here", "_law_worths", "_law_many"])
    (DB : Df K mg "_law_bent" s__law_bent fB fdB ["_law_box_here", "_law_page"]) (DBr : Df K mg "_law_bent_row" s__law_bent_row fBr fdBr ["_law_box_here", "_law_words", "_law_some_here"])
    (DI : Df K mg "_law_is_right" s__law_is_right fI fdI ["_law_worths", "_law_page"]) (GI : FnG P w K mg base (L2.CX P w) 12 fI fdI ["_law_worths", "_law_page"] (spIsRight P1 P2))
    (DT : Df K mg "_law_told" s__law_told fT fdT ["_law_worths", "_law_page"]) (GT : FnOk P w K mg base (L2.CX P w) 11 fT fdT ["_law_worths", "_law_page"] (spToldP P1 P2)) :
    FnG P w K mg base (L2.CX P w) 13 f fd ["_law_box_here"] (spRight P1 P2) := by
  have GO : FnOk P w K mg base CX0 2 fO fdO ["_law_box_here", "_law_some_here"] spOfB := ok_ofB B DO DTk
  have GX : FnOk P w K mg base CX0 2 fX fdX ["_law_pact_here"] spPText := ok_pact_text B me DX DA
  have GPa : FnOk P w K mg base CX0 4 fPa fdPa ["_law_box_here", "_law_worths"] spPactD := ok_pactD B ms DPa DTk DS DOu
  have GB : FnOk P w K mg base CX0 4 fB fdB ["_law_box_here", "_law_page"] spBent := ok_bent B DB DTk DO DBr
  refine okG D.F sc__law_right (fun vs H Q E h => ?_) (fun cdv A outer s H vs Q E gu hr h => ?_)
  · obtain ⟨b, p, q, n, rfl, _⟩ := h
    rfl
  · obtain ⟨b, p, q, n, rfl, hb, Bx, hn, tab, pne, k⟩ := h
    have S := sc__law_right
    have hu := hr.units
    refine ⟨_, (pss_cons (ps_set (i := 1) S.nd rfl (.inl rfl) (pe_call GO (hr.mono (by decide)) (by rfl) DO.g DO.F.kp DO.b .nil pass0 (pa_cons (pv 0) (pa_cons (pe_lst (pa_cons pe_int (pa_cons pe_int (pa_cons pe_int (pa_cons pe_int pa_nil))))) pa_nil))))
      (pss_cons (ps_set (i := 2) S.nd rfl (.inl rfl) (pe_call GX (hr.mono (by decide)) (by rfl) DX.g DX.F.kp DX.b .nil pass0 (pa_cons (pe_call GPa (hr.mono (by decide)) (by rfl) DPa.g DPa.F.kp DPa.b .nil pass0 (pa_cons (pv 0) (pa_cons (pv 1) pa_nil))) pa_nil)))
      (pss_cons (ps_if (PW.pt (pw_or (pt_not (pt_val (pe_callG GI gu (hr.mono (by decide)) (by rfl) DI.g DI.F.kp DI.b passL (pa_cons (pv 1) (pa_cons (pv 2) pa_nil))))) (pw_or1 (pt_not (pt_val (pe_callG GI gu (hr.mono (by decide)) (by rfl) DI.g DI.F.kp DI.b passL (pa_cons (pv 1) (pa_cons pe_str pa_nil))))))))
        (pss_one (ps_ret pe_bl))
        pss_nil)
      (pss_cons (ps_for (passes_of rfl) rfl (pi_range1 (by rfl) B.m_range (pa_cons pe_int pa_nil)) (pg_name (i := 3) S.nd rfl (.inl rfl))
        (pss_cons (ps_set (i := 4) S.nd rfl (.inl rfl) (pv 2))
      (pss_cons (ps_for (passes_of rfl) rfl (pi_range1 (by rfl) B.m_range (pa_cons (pe_call GO (hr.mono (by decide)) (by rfl) DO.g DO.F.kp DO.b .nil pass0 (pa_cons (pv 0) (pa_cons (pe_lst (pa_cons pe_int (pa_cons pe_int (pa_cons pe_int pa_nil)))) pa_nil))) pa_nil)) (pg_name (i := 5) S.nd rfl (.inl rfl))
        (pss_one (ps_set (i := 4) S.nd rfl (.inl rfl) (pe_call GB (hr.mono (by decide)) (by rfl) DB.g DB.F.kp DB.b .nil pass0 (pa_cons (pv 0) (pa_cons (pv 4) pa_nil))))))
      (pss_one (ps_if (pt_not (pt_val (pe_callG GI gu (hr.mono (by decide)) (by rfl) DI.g DI.F.kp DI.b passL (pa_cons (pv 1) (pa_cons (pv 4) pa_nil)))))
        (pss_one (ps_ret pe_bl))
        pss_nil)))))
      (pss_cons (ps_setLc (i := 6) (own := [("_law_number_here", 9)]) (g := gName 9) (tt := tYes) (by rfl) S.nd rfl rfl (sw_true rfl rfl rfl (by decide +kernel)) (pi_range1 (by rfl) B.m_range (pa_cons pe_int pa_nil)) (blkOk_by (own := [("_law_number_here", 9)]) (N := nmRight) (sc := defScope s__law_right) (by decide +kernel)) (fun _ _ _ _ _ => pg_name (i := 9) S.nd rfl (Or.inl rfl)) (fun _ _ _ _ _ => pts_nil) (fun _ _ _ _ _ => (pe_op op_add_str pe_str (pe_callTy call_str_int (by rfl) B.m_str (by decide +kernel) (pa_cons (pv 9) pa_nil)))))
      (pss_cons (ps_if (pt_cmpR op_ne (pe_callB (call_reprQ (by exact gu) (by exact hu)) (by rfl) B.m_repr PyProof.Rows.boot_repr (pa_cons (pe_call GT (hr.mono (by decide)) (by rfl) DT.g DT.F.kp DT.b .nil passL (pa_cons (pv 1) (pa_cons (pe_bm PySem.F.plainAttrs_str PySem.F.slot_str_join PySem.F.type_str_join mt_join pe_str (pa_cons (pe_slice sl_list (pv 6) po_none (po_some pe_int)) pa_nil)) pa_nil))) pa_nil)) (pe_callB (call_reprQ (by exact gu) (by exact hu)) (by rfl) B.m_repr PyProof.Rows.boot_repr (pa_cons (pe_tup (pa_cons pe_str (pa_cons (pe_op op_repT (pe_tup (pa_cons (pe_tup pa_nil) pa_nil)) pe_int) pa_nil))) pa_nil)) (nomark _))
        (pss_one (ps_ret pe_bl))
        pss_nil)
      (pss_cons (ps_if (pt_cmpR (op_neD (by exact hu)) (pe_call GT (hr.mono (by decide)) (by rfl) DT.g DT.F.kp DT.b .nil passL (pa_cons (pv 1) (pa_cons (pe_bm PySem.F.plainAttrs_str PySem.F.slot_str_join PySem.F.type_str_join mt_join pe_str (pa_cons (pv 6) pa_nil)) pa_nil))) (pe_tup (pa_cons pe_str (pa_cons pe_int pa_nil))) (nomark _))
        (pss_one (ps_ret pe_bl))
        pss_nil)
      (pss_cons (ps_set (i := 7) S.nd rfl (.inl rfl) (pe_call GO (hr.mono (by decide)) (by rfl) DO.g DO.F.kp DO.b .nil pass0 (pa_cons (pv 0) (pa_cons (pe_lst (pa_cons pe_non (pa_cons pe_int (pa_cons pe_bl (pa_cons (pe_tup pa_nil) (pa_cons (pe_lst (pa_cons pe_str pa_nil)) (pa_cons pe_dnewK (pa_cons (pe_tup (pa_cons pe_str pa_nil)) (pa_cons (pe_op op_pow pe_int pe_int) pa_nil))))))))) pa_nil))))
      (pss_cons (ps_if (pt_cmpR op_ne (pe_callB (call_reprQ (by exact gu) (by exact hu)) (by rfl) B.m_repr PyProof.Rows.boot_repr (pa_cons (pe_call GT (hr.mono (by decide)) (by rfl) DT.g DT.F.kp DT.b .nil passL (pa_cons (pv 1) (pa_cons (pv 7) pa_nil))) pa_nil)) (pe_callB (call_reprQ (by exact gu) (by exact hu)) (by rfl) B.m_repr PyProof.Rows.boot_repr (pa_cons (pe_tup (pa_cons pe_str (pa_cons (pe_un un_neg pe_int) pa_nil))) pa_nil)) (nomark _))
        (pss_one (ps_ret pe_bl))
        pss_nil)
      (pss_cons (ps_set (i := 8) S.nd rfl (.inl rfl) (pe_call GO (hr.mono (by decide)) (by rfl) DO.g DO.F.kp DO.b .nil pass0 (pa_cons (pv 0) (pa_cons (pe_lst (pa_cons pe_non (pa_cons pe_int (pa_cons pe_int (pa_cons pe_int (pa_cons pe_bl (pa_cons pe_str (pa_cons (pe_tup (pa_cons pe_int pa_nil)) (pa_cons (pe_un un_neg pe_int) (pa_cons (pe_op op_pow pe_int pe_int) pa_nil)))))))))) pa_nil))))
      (pss_one (ps_ret (pe_cmpR op_eq (pe_callB (call_reprQ (by exact gu) (by exact hu)) (by rfl) B.m_repr PyProof.Rows.boot_repr (pa_cons (pe_lst (pa_cons (pe_call GT (hr.mono (by decide)) (by rfl) DT.g DT.F.kp DT.b .nil passL (pa_cons (pv 8) (pa_cons (pv 2) pa_nil))) (pa_cons (pe_call GT (hr.mono (by decide)) (by rfl) DT.g DT.F.kp DT.b .nil passL (pa_cons (pv 8) (pa_cons (pv 7) pa_nil))) pa_nil))) pa_nil)) (pe_callB (call_reprQ (by exact gu) (by exact hu)) (by rfl) B.m_repr PyProof.Rows.boot_repr (pa_cons (pe_op op_rep (pe_lst (pa_cons (pe_tup (pa_cons pe_str (pa_cons (pv 8) pa_nil))) pa_nil)) pe_int) pa_nil)) (nomark _)))))))))))))), ?_⟩
    have r0 : RI H H b P1 P2 p q n := ⟨But.of_same (Same.refl _), tab, hb, Bx⟩
    -- worths
    refine asg_seq ?_
    refine of_runP (P := fun _ x => ∃ m : Nat, x = .int (m : Nat) ∧ 2 ≤ m ∧ m ≤ 4) (fun _ _ _ _ h => h) rfl (pl_cons (fun _ _ _ _ h => h) (pv_val fun _ _ => ⟨val_c, 2, rfl, by decide, by decide⟩) (pl_cons (fun _ _ _ _ h => h) (pv_val fun _ _ => ⟨val_c, 2, rfl, by decide, by decide⟩) (pl_cons (fun _ _ _ _ h => h) (pv_val fun _ _ => ⟨val_c, 3, rfl, by decide, by decide⟩) (pl_cons (fun _ _ _ _ h => h) (pv_val fun _ _ => ⟨val_c, 4, rfl, by decide, by decide⟩) pl_nil)))) hb Bx (by omega) (by decide) (by decide) fun H1 y p1 n1 s1 hy B1 le1 => ?_
    obtain ⟨m, rfl, m2, m4⟩ := hy
    have r1 := (r0.same s1).sb (SameBut.upd b H1 (.lst (bx p1 q n1))) upd_same B1
    clear r0
    generalize (upd H1 b (.lst (bx p1 q n1))) = H2 at r1 ⊢
    -- the page
    refine asg_seq ?_
    dsimp only [tCall, tCons, tNil]
    refine (val_var rfl) _ ((val_var rfl) _ ⟨b, m, p1, q, n1, rfl, r1.hb, r1.bo, m4, by omega, fun H3 rr ps sts p3 n3 s3 nr hrr hps ok l4 l0 hb3 B3 le3 => ?_⟩)
    have r3 := r1.sb s3 hb3 B3
    refine ⟨rr, ps, sts, rfl, hrr, hps, ok, l4, l0, fun H4 z s4 pg => ?_⟩
    have r4 := r3.same s4
    clear r1 r3 hrr hps s3 s4
    -- two pages that are read
    dsimp only [tSeq, tIfS, tOr]
    refine ir_run (z := z) rfl (val_var rfl) m2 m4 (pg.mono (by decide) (by decide)) r4 pne fun H5 b5 r5 => ?_
    refine iteF ?_
    refine ir_run (z := "") rfl val_c m2 m4 ⟨by decide +kernel, by decide +kernel, by decide +kernel⟩ r5 pne fun H6 b6 r6 => ?_
    refine iteF ?_
    clear r4 r5 b5 b6
    -- sixteen pages that are bent
    refine ⟨16, rfl, by decide, by decide, ?_⟩
    show ∃ W : Nat → Nat → L2.St → Hp → Prop, _
    refine for_range (lo := 0) (n := (16 : Int).toNat) (fun c σ H' => ∃ (u3 u4 u5 : Option V) (p' n' : Int), σ = [some (.ref b), some (.int (m : Nat)), some (.str z), u3, u4, u5, none, none, none, none] ∧ RI H H' b P1 P2 p' q n' ∧ n' ≤ n3 + 40 * c) ?_ ?_ ?_
    · exact ⟨none, none, none, p3, n3, rfl, r6, by omega⟩
    · rintro c σ H7 hc ⟨u3, u4, u5, p7, n7, rfl, r7, le7⟩
      have hc : c < 16 := hc
      dsimp only [gName]
      refine asg_seq ?_
      refine (val_var rfl) _ ?_
      refine bent_loop (H0 := H) pg r7 (by omega) fun H8 y p8 n8 u5' r8 le8 pg8 => ?_
      dsimp only [tIfS]
      refine ir_run (z := y) rfl (val_var rfl) m2 m4 (pg8.mono (by decide) (by decide)) r8 pne fun H9 b9 r9 => ?_
      exact iteF ⟨_, _, _, p8, n8, rfl, r9, by omega⟩
    rintro σ H7 ⟨u3, u4, u5, p7, n7, rfl, r7, le7⟩
    clear r6
    have le7 : n7 ≤ n3 + 640 := by
      have : (16 : Int).toNat = 16 := rfl
      omega
    -- four hundred states
    obtain ⟨g, g4, z400, z401, eg, eg4, ez400, ez401, wt400, wt401, g400, g401, e400, e401⟩ := great_facts m2 m4
    refine asg_seq (great_lc fun H8 D s8 hD => ?_)
    rw [eg] at hD
    clear eg
    have r8 := r7.same s8
    clear r7 s8
    dsimp only [tSeq, tIfS, tTest]
    -- repr(told(400 states)) is the due text
    dsimp only [tOp, tCB, tCons, tNil]
    dsimp only [tCall, tCons, tNil]
    refine (val_var rfl) _ ?_
    refine join_run (ws := g4) (eg4 ▸ LV.to (k := 400) (LV.v rfl hD) fun _ => val_c) nl1 (by omega) fun H9 s9 => ?_
    rw [ez400]
    have r9 := r8.same s9
    have hD9 := s9 _ _ hD
    clear r8 s9 hD
    refine ⟨.int m, .str z400, "int", "str", rfl, .int _, .str _, r9.tb, pne, fun y e => (by
      injection e with e
      rw [← e]
      exact g400), fun H10 t10 b10 tb10 oa => ?_⟩
    have r10 := r9.told b10 tb10
    have hD10 := told_keep r9 b10 hD9 (fun _ c => nomatch c)
    clear r9 hD9
    rw [e400] at oa
    have d10 : Dq H10 (.ref t10) d400 := by
      have := oa.dq (dx := .int m) (.int _) fun sts e st hst => by
        injection e with e
        rw [← e] at hst
        rw [List.eq_of_mem_replicate hst]
        exact ⟨List.nodup_nil, fun _ h => nomatch h⟩
      have e : o9D (.int m) (.pact (List.replicate 400 [])) = d400 := by
        show PyData.tuple [.str "pact", pactD (List.replicate 400 [])] = d400
        rw [pact_400]
        rfl
      rw [e] at this
      exact this
    refine ⟨.ref t10, d400, rfl, d10, sh_400, ?_⟩
    clear d10 oa b10
    dsimp only [tTup, tCons, tNil]
    refine val_c _ ⟨Nat.zero_le _, fun t1 nt1 => ?_⟩
    have s1' := same_upd (o := .tup []) nt1
    have ht1 : (upd H10 t1 (.tup [])) t1 = some (.tup []) := upd_same
    have r11 := r10.same s1'
    have hD11 := s1' _ _ hD10
    clear r10 hD10
    generalize (upd H10 t1 (.tup [])) = H11 at s1' ht1 r11 hD11 ⊢
    refine ⟨by show 1 ≤ sizeLine; decide, fun t2 nt2 => ?_⟩
    have s2' := same_upd (o := .tup [.ref t1]) nt2
    have ht2 : (upd H11 t2 (.tup [.ref t1])) t2 = some (.tup [.ref t1]) := upd_same
    have ht12 := s2' _ _ ht1
    have r12 := r11.same s2'
    have hD12 := s2' _ _ hD11
    clear r11 hD11 ht1
    generalize (upd H11 t2 (.tup [.ref t1])) = H12 at s2' ht2 ht12 r12 hD12 ⊢
    refine val_c _ ⟨t2, 400, [.ref t1], rfl, rfl, SqT.of ht2, (fun e => nomatch e), by decide, by decide, by show 1 ≤ 1000; decide, fun t3 nt3 => ?_⟩
    have s3' := same_upd (o := .tup (List.replicate (400 : Int).toNat [V.ref t1]).flatten) nt3
    have ht3 : (upd H12 t3 (.tup (List.replicate (400 : Int).toNat [V.ref t1]).flatten)) t3 = some (.tup (List.replicate 400 (V.ref t1))) := by
      have : (List.replicate (400 : Int).toNat [V.ref t1]).flatten = List.replicate 400 (V.ref t1) := flat_one _ _
      rw [this]
      exact upd_same
    have ht13 := s3' _ _ ht12
    have r13 := r12.same s3'
    have hD13 := s3' _ _ hD12
    clear r12 hD12 ht12 ht2
    generalize (upd H12 t3 (.tup (List.replicate (400 : Int).toNat [V.ref t1]).flatten)) = H13 at s3' ht3 ht13 r13 hD13 ⊢
    refine ⟨by show 2 ≤ sizeLine; decide, fun t4 nt4 => ?_⟩
    have s4' := same_upd (o := .tup [.str "pact", .ref t3]) nt4
    have ht4 : (upd H13 t4 (.tup [.str "pact", .ref t3])) t4 = some (.tup [.str "pact", .ref t3]) := upd_same
    have r14 := r13.same s4'
    have hD14 := s4' _ _ hD13
    have d14 : Dq (upd H13 t4 (.tup [.str "pact", .ref t3])) (.ref t4) d400 := .tup ht4 (.cons (.str _) (.cons (.tup (s4' _ _ ht3) (dqA_rep (.tup (s4' _ _ ht13) .nil) 400)) .nil))
    generalize (upd H13 t4 (.tup [.str "pact", .ref t3])) = H14 at r14 hD14 d14 ⊢
    clear r13 hD13 ht13 ht3 ht4 s1' s2' s3' s4'
    refine ⟨.ref t4, d400, rfl, d14, sh_400, rfl, _, rfl, ?_⟩
    rw [decide_eq_true rfl]
    refine iteF ?_
    -- told(401 states)
    try dsimp only [tNext, tSeq, tIfS]
    refine tst_open ?_
    dsimp only [tCall, tCons, tNil]
    refine (val_var rfl) _ ?_
    refine join_run (ws := g) (LV.v rfl hD14) nl1 (by omega) fun H15 s15 => ?_
    rw [ez401]
    have r15 := r14.same s15
    clear r14 d14
    refine ⟨.int m, .str z401, "int", "str", rfl, .int _, .str _, r15.tb, pne, fun y e => (by
      injection e with e
      rw [← e]
      exact g401), fun H16 t16 b16 tb16 oa => ?_⟩
    have r16 := r15.told b16 tb16
    clear r15
    rw [e401] at oa
    have oa : H16 t16 = some (.tup [.str "line", .int 400]) := oa
    dsimp only [tTup, tCons, tNil]
    refine val_c _ ?_
    refine val_c _ ?_
    refine ⟨by show 2 ≤ sizeLine; decide, fun t17 nt17 => ?_⟩
    have s17 := same_upd (o := .tup [.str "line", .int 400]) nt17
    have ht17 : (upd H16 t17 (.tup [.str "line", .int 400])) t17 = some (.tup [.str "line", .int 400]) := upd_same
    have r17 := r16.same s17
    have oa17 := s17 _ _ oa
    clear r16 oa
    generalize (upd H16 t17 (.tup [.str "line", .int 400])) = H17 at s17 ht17 r17 oa17 ⊢
    refine ⟨.tuple [.str "line", .int 400], .tuple [.str "line", .int 400], .tup (SqT.of oa17) (.cons (.str _) (.cons (.int _) .nil)), .tup (SqT.of ht17) (.cons (.str _) (.cons (.int _) .nil)), by decide +kernel, by decide +kernel, _, rfl, ?_⟩
    rw [show PyData.eqv (.tuple [.str "line", .int 400]) (.tuple [.str "line", .int 400]) = true by decide +kernel]
    refine iteF ?_
    clear oa17 ht17 s17
    -- a thing that is no text
    try dsimp only [tNext]
    have gmono : ∀ H H' x, Same H H' → G9 [b, P1, P2] H x → G9 [b, P1, P2] H' x := fun _ _ _ s h => h.but (But.of_same s)
    have omono : ∀ H H' x, Same H H' → O9 [b, P1, P2] H x → O9 [b, P1, P2] H' x := fun _ _ _ s h => h.but (But.of_same s)
    have th17 := r17.there
    refine asg_seq ?_
    refine of_runP (P := G9 [b, P1, P2]) gmono rfl (pl_cons gmono (pv_val fun _ _ => ⟨val_c, rfl, _, .non⟩) (pl_cons gmono (pv_val fun _ _ => ⟨val_c, rfl, _, .int _⟩) (pl_cons gmono (pv_val fun _ _ => ⟨val_c, rfl, _, .bl _⟩) (pl_cons gmono (g9_tup0 th17) (pl_cons gmono (g9_lst1 th17) (pl_cons gmono (g9_dic th17) (pl_cons gmono (g9_tup1 th17) (pl_cons gmono (pv_val fun _ _ => ⟨pow20, rfl, _, .int _⟩) pl_nil)))))))) r17.hb r17.bo (by omega) (by decide) (by decide) fun H18 y p18 n18 s18 gy B18 le18 => ?_
    have r19 := (r17.same s18).sb (SameBut.upd b H18 (.lst (bx p18 q n18))) upd_same B18
    have gy := gy.but (H' := upd H18 b (.lst (bx p18 q n18))) fun a o n e => by
      rw [upd_ne fun c => n (by rw [c]; exact List.mem_cons_self ..)]
      exact e
    clear r17 th17 s18
    generalize (upd H18 b (.lst (bx p18 q n18))) = H19 at r19 gy ⊢
    try dsimp only [gName, tSeq, tIfS]
    refine tst_open ?_
    dsimp only [tCB, tCons, tNil]
    dsimp only [tCall, tCons, tNil]
    have ylt : isS y = false := gy.1
    refine (val_var rfl) _ ((val_var rfl) _ ?_)
    obtain ⟨Ty, kdy⟩ := gy.2
    refine ⟨.int m, y, "int", Ty, rfl, .int _, kdy.mono hide_same, r19.tb, pne, fun z e => (by
      rw [e] at ylt
      cases ylt), fun H20 t20 b20 tb20 oa => ?_⟩
    have r20 := r19.told b20 tb20
    have gy20 := gy.but (H' := H20) fun a o n e => b20 a o (fun c => n (List.mem_cons_of_mem _ c)) e
    clear r19 gy kdy
    rw [told_no m2 m4 ylt] at oa
    have oa : H20 t20 = some (.tup [.str "line", .int (-1)]) := oa
    refine ⟨.ref t20, .tuple [.str "line", .int (-1)], rfl, .tup oa (.cons (.str _) (.cons (.int _) .nil)), sh_line, ?_⟩
    clear oa b20
    dsimp only [tTup, tCons, tNil]
    refine val_c _ ?_
    refine (val_neg val_c) _ ?_
    refine ⟨by show 2 ≤ sizeLine; decide, fun t21 nt21 => ?_⟩
    have s21 := same_upd (o := .tup [.str "line", .int (-1)]) nt21
    have ht21 : (upd H20 t21 (.tup [.str "line", .int (-1)])) t21 = some (.tup [.str "line", .int (-1)]) := upd_same
    have r21 := r20.same s21
    have gy21 := gmono _ _ _ s21 gy20
    clear r20 gy20
    generalize (upd H20 t21 (.tup [.str "line", .int (-1)])) = H21 at s21 ht21 r21 gy21 ⊢
    refine ⟨.ref t21, .tuple [.str "line", .int (-1)], rfl, .tup ht21 (.cons (.str _) (.cons (.int _) .nil)), sh_line, rfl, _, rfl, ?_⟩
    rw [decide_eq_true rfl]
    refine iteF ?_
    clear ht21 s21
    -- one that is no number of worths
    try dsimp only [tNext]
    have th21 := r21.there
    refine asg_seq ?_
    refine of_runP (P := fun H x => O9 [b, P1, P2] H x ∧ G9 [b, P1, P2] H y) (fun _ _ _ s h => ⟨omono _ _ _ s h.1, gmono _ _ _ s h.2⟩) rfl (k := 9) ?_ r21.hb r21.bo (by omega) (by decide) (by decide) fun H22 x p22 n22 s22 ox B22 le22 => ?_
    · have mm : ∀ H H' x, Same H H' → (O9 [b, P1, P2] H x ∧ G9 [b, P1, P2] H y) → (O9 [b, P1, P2] H' x ∧ G9 [b, P1, P2] H' y) := fun _ _ _ s h => ⟨omono _ _ _ s h.1, gmono _ _ _ s h.2⟩
      refine pl_cons mm (pv_and (pv_val fun _ _ => ⟨val_c, rfl, .none, by simp [oddD], .non⟩) gy21) (pl_cons mm (pv_and (pv_val fun _ _ => ⟨val_c, rfl, .int 0, by simp [oddD], .int _⟩) gy21) (pl_cons mm (pv_and (pv_val fun _ _ => ⟨val_c, rfl, .int 1, by simp [oddD], .int _⟩) gy21)
        (pl_cons mm (pv_and (pv_val fun _ _ => ⟨val_c, rfl, .int 5, by simp [oddD], .int _⟩) gy21) (pl_cons mm (pv_and (pv_val fun _ _ => ⟨val_c, rfl, .bool true, by simp [oddD], .bl _⟩) gy21) (pl_cons mm (pv_and (pv_val fun _ _ => ⟨val_c, rfl, .str "2", by simp [oddD], .str _⟩) gy21)
        (pl_cons mm (pv_and (o9_tup2 th21) gy21) (pl_cons mm (pv_and (pv_val fun _ _ => ⟨val_neg val_c, rfl, .int (-2), by simp [oddD], .int _⟩) gy21) (pl_cons mm (pv_and (pv_val fun _ _ => ⟨pow20, rfl, .int 100000000000000000000, by simp [oddD], .int _⟩) gy21) pl_nil))))))))
    obtain ⟨ox, gy22⟩ := ox
    have r23 := (r21.same s22).sb (SameBut.upd b H22 (.lst (bx p22 q n22))) upd_same B22
    have bt22 : But [b, P1, P2] H22 (upd H22 b (.lst (bx p22 q n22))) := fun a o n e => by
      rw [upd_ne fun c => n (by rw [c]; exact List.mem_cons_self ..)]
      exact e
    have ox := ox.but bt22
    have gy23 := gy22.but bt22
    clear r21 th21 s22 gy21 gy22 bt22
    generalize (upd H22 b (.lst (bx p22 q n22))) = H23 at r23 ox gy23 ⊢
    dsimp only [gName, tRet, tOp, tCB, tLst, tCons, tNil]
    dsimp only [tCall, tCons, tNil]
    obtain ⟨nw, d, hd, dx⟩ := ox
    obtain ⟨Tx, kdx⟩ := (Dq.mono hide_same _ dx).kd
    refine (val_var rfl) _ ((val_var rfl) _ ⟨x, .str z, Tx, "str", rfl, kdx, .str _, r23.tb, pne, fun u e => (by
      injection e with e
      rw [← e]
      exact ⟨Nat.le_trans pg.l (by decide), pg.o⟩), fun H24 t24 b24 tb24 oa => ?_⟩)
    have r24 := r23.told b24 tb24
    have bt24 : But [b, P1, P2] H23 H24 := fun a o n e => b24 a o (fun c => n (List.mem_cons_of_mem _ c)) e
    have dx24 := Dq.mono (hide_but bt24) _ dx
    have gy24 := gy23.but bt24
    clear r23 b24 bt24 gy23 kdx dx
    rw [told_odd nw] at oa
    have oa : H24 t24 = some (.tup [.str "worths", x]) := oa
    have hoa : hide H24 [b, P1, P2] t24 = some (.tup [.str "worths", x]) := by
      rw [hide_out fun c => ?_]
      · exact oa
      · obtain ⟨ps, h1, _⟩ := r24.tb.a
        obtain ⟨ps2, h2, _⟩ := r24.tb.b
        rcases List.mem_cons.mp c with e | c
        · rw [e, r24.hb] at oa
          cases oa
        · rcases List.mem_cons.mp c with e | c
          · rw [e, h1] at oa
            cases oa
          · rw [List.mem_singleton.mp c, h2] at oa
            cases oa
    have d24 : Dq (hide H24 [b, P1, P2]) (.ref t24) (.tuple [.str "worths", d]) := .tup hoa (.cons (.str _) (.cons dx24 .nil))
    obtain ⟨Tx, kdx⟩ := (Dq.mono hide_same _ dx24).kd
    obtain ⟨Ty, kdy⟩ := gy24.2
    refine (val_var rfl) _ ((val_var rfl) _ ⟨x, y, Tx, Ty, rfl, kdx, kdy.mono hide_same, r24.tb, pne, fun u e => (by
      rw [e] at ylt
      cases ylt), fun H25 t25 b25 tb25 oa2 => ?_⟩)
    have r25 := r24.told b25 tb25
    have bt25 : But [b, P1, P2] H24 H25 := fun a o n e => b25 a o (fun c => n (List.mem_cons_of_mem _ c)) e
    have d25 := Dq.mono ((hide_but bt25).trans hide_same) _ d24
    have dx25 := Dq.mono ((hide_but bt25).trans hide_same) _ dx24
    clear r24 b25 bt25 d24 kdx kdy dx24 oa hoa gy24
    rw [told_odd nw] at oa2
    have oa2 : H25 t25 = some (.tup [.str "worths", x]) := oa2
    have e25 : Dq H25 (.ref t25) (.tuple [.str "worths", d]) := .tup oa2 (.cons (.str _) (.cons dx25 .nil))
    refine ⟨by show 2 ≤ sizeLine; decide, fun l26 nl26 => ?_⟩
    have s26 := same_upd (o := .lst [.ref t24, .ref t25]) nl26
    have d26 : Dq (upd H25 l26 (.lst [.ref t24, .ref t25])) (.ref l26) (.list [.tuple [.str "worths", d], .tuple [.str "worths", d]]) := .lst upd_same (.cons (Dq.mono s26 _ d25) (.cons (Dq.mono s26 _ e25) .nil))
    have r26 := r25.same s26
    have dx26 := Dq.mono s26 _ dx25
    clear r25 d25 e25 oa2 dx25
    generalize (upd H25 l26 (.lst [.ref t24, .ref t25])) = H26 at d26 r26 dx26 ⊢
    have sh := odd_sh d hd
    refine ⟨.ref l26, _, rfl, d26, sh, ?_⟩
    dsimp only [tTup, tCons, tNil]
    refine val_c _ ?_
    refine (val_var rfl) _ ?_
    refine ⟨by show 2 ≤ sizeLine; decide, fun t27 nt27 => ?_⟩
    have s27 := same_upd (o := .tup [.str "worths", x]) nt27
    have d27 : Dq (upd H26 t27 (.tup [.str "worths", x])) (.ref t27) (.tuple [.str "worths", d]) := .tup upd_same (.cons (.str _) (.cons (Dq.mono s27 _ dx26) .nil))
    have r27 := r26.same s27
    clear r26 dx26 d26
    generalize (upd H26 t27 (.tup [.str "worths", x])) = H27 at d27 r27 ⊢
    refine ⟨by show 1 ≤ sizeLine; decide, fun l28 nl28 => ?_⟩
    have s28 := same_upd (o := .lst [.ref t27]) nl28
    have h28 : (upd H27 l28 (.lst [.ref t27])) l28 = some (.lst [.ref t27]) := upd_same
    have d28 := Dq.mono s28 _ d27
    have r28 := r27.same s28
    clear r27 d27
    generalize (upd H27 l28 (.lst [.ref t27])) = H28 at h28 d28 r28 ⊢
    refine val_c _ ⟨l28, 2, [.ref t27], rfl, rfl, h28, by decide, by decide, by show 1 * 2 ≤ sizeLine; decide, fun l29 nl29 => ?_⟩
    have s29 := same_upd (o := .lst (List.replicate (2 : Int).toNat [V.ref t27]).flatten) nl29
    have d29 : Dq (upd H28 l29 (.lst (List.replicate (2 : Int).toNat [V.ref t27]).flatten)) (.ref l29) (.list [.tuple [.str "worths", d], .tuple [.str "worths", d]]) := .lst upd_same (.cons (Dq.mono s29 _ d28) (.cons (Dq.mono s29 _ d28) .nil))
    have r29 := r28.same s29
    refine ⟨.ref l29, _, rfl, d29, sh, rfl, ?_⟩
    rw [decide_eq_true rfl]
    exact k _ p22 n22 r29.bt r29.tb r29.hb r29.bo (by omega)
end
end K5
namespace K5
open PySem PySem.Spec PyProof.Rows L2
theorem sq_keep {K : PySem.W.Frag} {H H' : Hp} {a : Addr} {xs : List V} (h : SqL K H a xs) (k : ∀ o, H a = some o → H' a = some o) : SqL K H' a xs := by
  rcases h with (h | ⟨o, h⟩) | h
  · exact .inl (.inl (k _ h))
  · exact .inl (.inr ⟨o, k _ h⟩)
  · exact .inr h
abbrev s_law : Stmt := topS 45
theorem sc_law : FnScope ["_law_script", "_law_k", "_law_box_here", "_law_turn"] ["_law_script"] (defScope s_law) := ⟨rfl, rfl, rfl, by decide +kernel, rfl, by decide +kernel, by decide +kernel⟩
def spLaw (K : PySem.W.Frag) (P1 P2 : Addr) : Sp := fun vs H Q _ => ∃ (a : Addr) (ns : List Int), vs = [.ref a] ∧ SqL K H a (ns.map V.int) ∧ Tabs P1 P2 H ∧ P1 ≠ P2 ∧ a ≠ P1 ∧ a ≠ P2 ∧ ∀ H', Q (.bl true) H'
section
variable {P : Program} {w : World} {K : PySem.W.Frag} {mg : Str → Option Value} {base : Heap} {P1 P2 : Addr}
theorem ok_law {f fB fR : Addr} {fd dB dR : FuncData} (B : Bt mg) (m_all : mg "all" = none) (DB : Df K mg "_law_box" s__law_box fB dB ["_law_script", "_law_k"]) (GB : FnOk P w K mg base CX0 1 fB dB ["_law_script", "_law_k"] (spBox K))
    (DR : Df K mg "_law_right" s__law_right fR dR ["_law_box_here"]) (GR : FnG P w K mg base (L2.CX P w) 13 fR dR ["_law_box_here"] (spRight P1 P2)) (F : Fun K "law" "law" s_law f fd) : FnG P w K mg base (L2.CX P w) 15 f fd ["_law_script"] (spLaw K P1 P2) := by
  refine okG F sc_law (fun vs H Q E h => ?_) (fun cdv A outer s H vs Q E gu hr h => ?_)
  · obtain ⟨a, ns, rfl, _⟩ := h
    rfl
  · obtain ⟨a, ns, rfl, hS, tab, pne, a1, a2, k⟩ := h
    have S := sc_law
    refine ⟨_, (pss_cons (ps_for (passes_of rfl) rfl (pi_range1 (by rfl) B.m_range (pa_cons (pe_callB (call_max2 rfl) (by rfl) B.m_max (by decide +kernel) (pa_cons pe_int (pa_cons (pe_callB (call_min2 rfl) (by rfl) B.m_min (by decide +kernel) (pa_cons pe_int (pa_cons (pe_callB call_len_seq (by rfl) B.m_len PySem.boot_len (pa_cons (pv 0) pa_nil)) pa_nil))) pa_nil))) pa_nil)) (pg_name (i := 1) S.nd rfl (.inl rfl))
        (pss_cons (ps_set (i := 2) S.nd rfl (.inr rfl) (pe_call GB (hr.mono (by decide)) (by rfl) DB.g DB.F.kp DB.b .nil pass0 (pa_cons (pv 0) (pa_cons (pv 1) pa_nil))))
        (pss_one (ps_if (pt_not (pt_val (pe_callB (cr_all rfl) (by rfl) m_all (by decide +kernel) (pa_cons (pe_lc (own := [("_law_turn", 3)]) (g := gName 3) (tt := tYes) rfl S.nd (pi_range1 (by rfl) B.m_range (pa_cons pe_int pa_nil)) (blkOk_by (own := [("_law_turn", 3)]) (N := ["_law_script", "_law_k", "_law_box_here", "_law_turn"]) (sc := defScope s_law) (by decide +kernel)) (fun _ _ _ _ _ => pg_name (i := 3) S.nd rfl (Or.inl rfl)) (fun _ _ _ _ _ => pts_nil) (fun _ _ _ _ _ => pe_callG GR gu (hr.mono (by decide)) (by rfl) DR.g DR.F.kp DR.b passL (pa_cons (pv 2) pa_nil))) pa_nil))))
          (pss_one (ps_ret pe_bl))
          pss_nil))))
      (pss_one (ps_ret pe_bl))), ?_⟩
    dsimp only [tSeq, tFor, iRng1, tCB, tCons, tNil]
    refine val_c _ ?_
    refine val_c _ ?_
    refine (val_var rfl) _ ?_
    refine ⟨a, _, rfl, .inl hS, ?_⟩
    refine ⟨3, _, rfl, ?_⟩
    refine ⟨1, _, rfl, ?_⟩
    generalize hj : (if (if (((ns.map V.int).length : Nat) : Int) < 3 then (((ns.map V.int).length : Nat) : Int) else 3) > 1 then (if (((ns.map V.int).length : Nat) : Int) < 3 then (((ns.map V.int).length : Nat) : Int) else 3) else 1) = j
    have j1 : 1 ≤ j ∧ j ≤ 3 := by
      rw [← hj]
      split <;> split <;> omega
    refine ⟨j, rfl, by omega, by omega, ?_⟩
    refine for_range (D := { nx := tRet (tC (.bl true)) { nx := fun _ G2 => Q .non G2, rt := Q }, rt := Q }) (g := gName 1) (tb := tSeq (tAsg (tCall (spBox K) [] E0 (tCons (tVar 0) (tCons (tVar 1) tNil))) (gName 2)) (tIfS (tNot (tB (tCB (rAll K) (tCons (tLc (iRng1 (tCons (tC (.int 2)) tNil)) (gName 3) tYes (tCall (spRight P1 P2) [] E0 (tCons (tVar 2) tNil)) [3]) tNil)))) (tRet (tC (.bl false))) tNext)) (lo := 0) (n := j.toNat) (fun i σ' H' => (∃ v1 v2 v3, σ' = [some (.ref a), v1, v2, v3]) ∧ (∀ o, H a = some o → H' a = some o) ∧ Tabs P1 P2 H') ⟨⟨none, none, none, rfl⟩, fun o e => e, tab⟩ (fun i σ' H' hi h => ?_) fun σ' H' h => ?_
    · obtain ⟨⟨v1, v2, v3, rfl⟩, kS, tb⟩ := h
      try dsimp only [gName]
      try dsimp only [tSeq, tAsg]
      try dsimp only [tCall, tCons, tNil]
      refine (val_var rfl) _ ?_
      refine (val_var rfl) _ ?_
      refine ⟨a, ns, 0 + (i : Int), rfl, sq_keep hS kS, by omega, by omega, fun b p q nb Bx => ?_⟩
      have s1 := same_upd (o := .lst (bx p q 0)) nb
      have hb : (upd H' b (.lst (bx p q 0))) b = some (.lst (bx p q 0)) := upd_same
      have ab : ∀ o, H a = some o → a ≠ b := fun o e => ne_of_none (kS o e) nb
      generalize (upd H' b (.lst (bx p q 0))) = H1 at s1 hb
      have tb1 := tb.same s1
      have kS1 : ∀ o, H a = some o → H1 a = some o := fun o e => s1 _ _ (kS o e)
      try dsimp only [gName]
      try dsimp only [tIfS, tNot, tB, tCB, tCons, tNil, tLc, iRng1]
      refine val_c _ ⟨2, rfl, by decide, by decide, fun M nM => ?_⟩
      have bM : b ≠ M := ne_of_none hb nM
      have M1 : M ≠ P1 := fun e => by
        obtain ⟨ps, q1, _⟩ := tb1.a
        rw [e, q1] at nM
        cases nM
      have M2 : M ≠ P2 := fun e => by
        obtain ⟨ps, q1, _⟩ := tb1.b
        rw [e, q1] at nM
        cases nM
      have out : ∀ x, x ≠ b → x ≠ P1 → x ≠ P2 → x ∉ [b, P1, P2] := fun x h1 h2 h3 c => by
        rcases List.mem_cons.mp c with c | c
        · exact h1 c
        · rcases List.mem_cons.mp c with c | c
          · exact h2 c
          · exact h3 (List.mem_singleton.mp c)
      refine lc_range (lo := 0) (n := (2 : Int).toNat) (fun t H2 => ∃ p' n' : Int, (∀ o, H a = some o → H2 a = some o) ∧ Tabs P1 P2 H2 ∧ H2 b = some (.lst (bx p' q n')) ∧ Box p' q n' ∧ n' ≤ 8000 * t ∧ H2 M = some (.lst ((List.replicate t true).map V.bl))) ⟨p, 0, fun o e => same_upd nM _ _ (kS1 o e), tb1.same (same_upd nM), same_upd nM _ _ hb, Bx, by omega, upd_same⟩ (fun t H2 ht hI => ?_) fun H2 hI => ?_
      · obtain ⟨p', n', kA, t2, hb2, B2, le2, hM⟩ := hI
        have ht4 : t < 2 := ht
        refine ⟨rfl, ?_⟩
        try dsimp only [tYes]
        rw [if_pos rfl]
        try dsimp only [tCall, tCons, tNil]
        refine (val_var rfl) _ ⟨b, p', q, n', rfl, hb2, B2, by omega, t2, pne, fun H3 p3 n3 kx t3 hb3 B3 le3 => ?_⟩
        have hM3 := kx _ _ (out _ bM.symm M1 M2) hM
        have up : ∀ x o, x ≠ M → H3 x = some o → (upd H3 M (.lst ((List.replicate t true).map V.bl ++ [.bl true]))) x = some o := fun x o n e => by
          rw [upd_ne n]
          exact e
        refine ⟨_, hM3, by rw [List.length_map, List.length_replicate]; exact Nat.lt_of_le_of_lt (show t ≤ 2 by omega) (by decide), p3, n3, fun o e => up _ _ (ne_of_none (kS1 o e) nM) (kx _ _ (out _ (ab o e) a1 a2) (kA o e)), ⟨?_, ?_⟩, up _ _ bM hb3, B3, by omega, ?_⟩
        · obtain ⟨ps, q1, q2⟩ := t3.a
          exact ⟨ps, up _ _ M1.symm q1, q2⟩
        · obtain ⟨ps, q1, q2⟩ := t3.b
          exact ⟨ps, up _ _ M2.symm q1, q2⟩
        · rw [upd_same, List.replicate_succ', List.map_append]
          rfl
      · obtain ⟨p', n', kA, t2, hb2, B2, le2, hM⟩ := hI
        refine ⟨M, List.replicate 2 true, rfl, SqL.of hM, true, rfl, iteF ?_⟩
        exact ⟨⟨_, _, _, rfl⟩, kA, t2⟩
    · exact k H'
end
end K5
namespace K5
open PySem PySem.Spec PyProof.Rows L2
/-! ### the law's call, where the caller shows nothing -/
/-- what is tracked at the call: empty tables, and the script unless the text has written it -/
def atCall (K : PySem.W.Frag) (ts : List Addr) (a : Addr) (ob : Obj) (ns : List Int) : Hp := fun b =>
  if b ∈ ts then some (.tbl #[]) else if b = a ∧ K.lookup a = none then some (.frz ob (.lst (ns.map V.int))) else none
section
variable {K : PySem.W.Frag} {ts : List Addr} {a b : Addr} {ob : Obj} {ns : List Int}
theorem atCall_tab (h : b ∈ ts) : atCall K ts a ob ns b = some (.tbl #[]) := if_pos h
theorem atCall_arg (h : a ∉ ts) (free : K.lookup a = none) : atCall K ts a ob ns a = some (.frz ob (.lst (ns.map V.int))) := (if_neg h).trans (if_pos ⟨rfl, free⟩)
theorem atCall_not (h : b ∉ ts) (n : ¬ (b = a ∧ K.lookup a = none)) : atCall K ts a ob ns b = none := (if_neg h).trans (if_neg n)
theorem atCall_cases (K : PySem.W.Frag) (ts : List Addr) (a b : Addr) (ob : Obj) (ns : List Int) : atCall K ts a ob ns b = none ∨ (b ∈ ts ∧ atCall K ts a ob ns b = some (.tbl #[])) ∨ (b ∉ ts ∧ b = a ∧ K.lookup a = none ∧ atCall K ts a ob ns b = some (.frz ob (.lst (ns.map V.int)))) := by
  by_cases h : b ∈ ts
  · exact .inr (.inl ⟨h, atCall_tab h⟩)
  · by_cases n : b = a ∧ K.lookup a = none
    · exact .inr (.inr ⟨h, n.1, n.2, (if_neg h).trans (if_pos n)⟩)
    · exact .inl (atCall_not h n)
end
theorem law_G {P : Program} {w : World} {K : PySem.W.Frag} {mg mb : Str → Option Value} {cx : CXT} {lv : Nat} {fa a : Addr} {cs : List (Addr × Addr)} {rec : FuncData} {x : Str} {pr : Sp} {st : Shared} {us : List Value} {ns : List Int}
    (inK : K.In st.heap) (gl : st.heap.Ns mainGlobals mg) (bl : st.heap.Ns builtinsNs mb) (std : ∀ y : Str, y ≠ "__name__" → mb y = bootBuiltins y) (nol : st.heap.NoLimit) (noGens : st.gens = #[])
    (tabs : ∀ p ∈ cs, st.heap.get? p.2 = some { cls := .none, data := .fields #[] }) (outK : ∀ p ∈ cs, K.lookup p.2 = none) (codes : ∀ p ∈ cs, PySem.W.CodeHd st.heap p.1 p.2)
    (bmod : ∃ (bm : Addr) (o : Obj), mg "__builtins__" = some (.ref bm) ∧ bm ≠ builtinsNs ∧ st.heap.get? bm = some o ∧ o.cls = .type "module" ∧ o.dict = some builtinsNs ∧ o.data = .plain)
    (arg : st.heap.get? a = some { cls := .type "list", data := .seq us.toArray }) (wholes : IntsAre us ns) (few : ns.length ≤ sizeLine) (room : Room lv callerA)
    (F : ∀ base : Heap, K.In base → base.Ns mainGlobals mg → (∀ p ∈ cs, GxR.TabB base mg p.1 p.2) → FnG P w K mg base cx lv fa rec [x] pr) (binds : ∀ (s : Shared) (u : Value), BindsTo s rec ⟨[u], []⟩ [(x, u)])
    (goes : ∀ H : Hp, (∀ p ∈ cs, H p.2 = some (.tbl #[])) → SqL K H a (ns.map V.int) → pr [.ref a] H (fun v _ => v = .bl true) fun _ _ _ => False)
    (quiet : ∀ H e s2, cx [] H st (fun _ _ _ => False) e s2 → False) :
    codeAny (model P w) callerA (.call (.ref fa) ⟨[.ref a], []⟩) (fun r s2 => r = .ok (.ret (.bool true)) ∧ OldK st.heap s2.heap ∧ s2.os = st.os ∧ AllBare s2.gens) st := by
  generalize hts : cs.map (·.2) = ts
  have inTs : ∀ p ∈ cs, p.2 ∈ ts := fun p hp => hts ▸ List.mem_map.mpr ⟨p, hp, rfl⟩
  have ofTs : ∀ b ∈ ts, ∃ p ∈ cs, p.2 = b := fun b hb => List.mem_map.mp (hts ▸ hb)
  have tabAt : ∀ b ∈ ts, st.heap.get? b = some { cls := .none, data := .fields #[] } := fun b hb => by
    obtain ⟨p, hp, rfl⟩ := ofTs b hb
    exact tabs p hp
  generalize hob : ({ cls := .type "list", data := .seq us.toArray } : Obj) = ob at arg
  have obD : ∃ m, ob.data = .seq us.toArray m := hob ▸ ⟨_, rfl⟩
  have argOut : a ∉ ts := fun z => by
    have q := tabAt a z
    rw [arg] at q
    obtain ⟨m, d⟩ := obD
    rw [Option.some.inj q] at d
    cases d
  have rel := vals_ints wholes
  have size : us.toArray.size ≤ sizeLine := by
    rw [List.size_toArray, wholes.length]
    exact few
  let H : Hp := atCall K ts a ob ns
  -- neither a table nor a list: it is not tracked
  have loose : ∀ {b : Addr} {o : Obj}, st.heap.get? b = some o → (∀ vs m, o.data ≠ .seq vs m) → o.data ≠ .fields #[] → H b = none := by
    intro b o e n1 n2
    rcases atCall_cases K ts a b ob ns with q | ⟨q, _⟩ | ⟨_, q, _, _⟩
    · exact q
    · rw [tabAt b q] at e
      cases e
      exact absurd rfl n2
    · rw [q, arg] at e
      cases e
      obtain ⟨m, d⟩ := obD
      exact absurd d (n1 _ _)
  have dictLoose : ∀ {b : Addr} {o : Obj} {es : Array DictEntry} {ep : Nat}, st.heap.get? b = some o → o.data = .dict es ep → H b = none := by
    intro b o es ep e d
    exact loose e (fun vs m z => by rw [d] at z; cases z) fun z => by rw [d] at z; cases z
  have names : ∀ {b : Addr} {m : Str → Option Value}, st.heap.Ns b m → (hidT st.heap H).Ns b m := by
    rintro b m ⟨o, es, ep, e, d, r⟩
    exact ⟨o, es, ep, hidT_get e (dictLoose e d), d, r⟩
  have inB : K.In (hidT st.heap H) := by
    intro b o e
    refine hidT_get (inK b o e) ?_
    rcases atCall_cases K ts a b ob ns with q | ⟨q, _⟩ | ⟨_, q, free, _⟩
    · exact q
    · obtain ⟨p, hp, rfl⟩ := ofTs b q
      rw [outK p hp] at e
      cases e
    · rw [q, free] at e
      cases e
  have notG : ∀ b ∈ ts, mainGlobals ≠ b := fun b hb z => by
    obtain ⟨o, es, ep, e, d, _⟩ := gl
    rw [z, tabAt b hb] at e
    cases e
    cases d
  have tb : ∀ p ∈ cs, GxR.TabB (hidT st.heap H) mg p.1 p.2 := by
    intro p hp
    constructor
    · obtain ⟨o, vs, r1, r2, r3, r4, r5, r6, r7, e, k1, k2, k3⟩ := codes p hp
      refine ⟨o, vs, r1, r2, r3, r4, r5, r6, r7, hidT_get e (loose e (fun us m z => ?_) fun z => ?_), k1, k2, k3⟩
      · rw [k2] at z
        cases z
      · rw [k2] at z
        cases z
        simp at k3
    · obtain ⟨bm, o, y1, y2, y3, y4, y5, y6⟩ := bmod
      refine ⟨bm, o, y1, y2, fun z => ?_, fun z => ?_, hidT_get y3 (loose y3 (fun us m z => ?_) fun z => ?_), y4, y5, y6⟩
      · obtain ⟨g, es, ep, e, d, _⟩ := gl
        rw [← z, y3] at e
        cases e
        rw [y6] at d
        cases d
      · rw [z, tabs p hp] at y3
        cases y3
        cases y6
      · rw [y6] at z
        cases z
      · rw [y6] at z
        cases z
    · exact notG _ (inTs p hp)
  have held : HOk P w H st.heap := by
    intro b u z
    rcases atCall_cases K ts a b ob ns with q | ⟨q, q2⟩ | ⟨_, q, _, q2⟩
    · rw [show H b = none from q] at z
      cases z
    · rw [show H b = _ from q2] at z
      cases z
      exact tabAt b q
    · rw [show H b = _ from q2] at z
      cases z
      rw [q]
      exact ⟨arg, by rw [List.length_map]; exact few, us, _, rel, arg.trans (congrArg some hob.symm)⟩
  have script : SqL K H a (ns.map V.int) := by
    cases lk : K.lookup a with
    | none => exact .inl (.inr ⟨ob, atCall_arg argOut lk⟩)
    | some o =>
      have e := inK a o lk
      rw [arg] at e
      cases e
      obtain ⟨m, d⟩ := obD
      refine .inr ⟨ob, us.toArray, m, lk, ?_, ?_, d, size, by simpa using rel⟩ <;> rw [← hob]
  have nolB : (hidT st.heap H).NoLimit := by
    obtain ⟨mc, z1, z2⟩ := nol
    exact ⟨mc, names z1, z2⟩
  have e0 : Env0 P w K mg (hidT st.heap H) callerA [] st H :=
    { frames := rfl, mod := ⟨inB, names gl, ⟨mb, names bl, std⟩, nolB⟩, bs := fun b o e => of_hidT e, bsz := Nat.le_of_eq (hidT_size _ _), funs := trivial, frf := fun b hb => (nomatch hb), hok := held, bare := .of_eq noGens }
  have runs := (F _ inB (names gl) tb).does callerA [] st H ⟨[.ref a], []⟩ [.ref a] [.ref a] (fun v _ => v = .bl true) (fun _ _ _ => False) rfl room e0 (binds st (.ref a)) (.cons rfl .nil) (goes H (fun p hp => atCall_tab (inTs p hp)) script)
  refine codeAny_mono runs ?_
  intro r s2 h
  match r, h with
  | .error e, h => exact (quiet H e s2 h).elim
  | .ok .next, h => exact h.elim
  | .ok .brk, h => exact h.elim
  | .ok .cont, h => exact h.elim
  | .ok (.ret u), ⟨v, H2, sameOs, bare, un, held2, ru, q⟩ =>
    have q : v = V.bl true := q
    subst q
    have ru : u = Value.bool true := ru
    subst ru
    have grown : ∀ p ∈ cs, ∃ more : Array Value, s2.heap.get? p.2 = some { cls := .none, data := .fields more } := fun p hp => by
      obtain ⟨more, z⟩ := un.tbls p.2 #[] (atCall_tab (inTs p hp))
      exact ⟨_, held2 p.2 _ z⟩
    have kept : ∀ b o, b ∉ ts → st.heap.get? b = some o → s2.heap.get? b = some o := by
      intro b o nb e
      rcases atCall_cases K ts a b ob ns with z | ⟨z, _⟩ | ⟨_, z, _, z2⟩
      · exact un.keep b o e z (fun c => (nomatch c)) fun c => (nomatch c)
      · exact absurd z nb
      · obtain ⟨g, _⟩ := held2 b _ (un.frzs b ob _ z2)
        rw [z, arg] at e
        cases e
        exact g
    refine ⟨rfl, ⟨fun b o e => ?_, fun b o e => ?_⟩, sameOs, bare⟩ <;> by_cases hb : b ∈ ts
    · obtain ⟨p, hp, rfl⟩ := ofTs b hb
      obtain ⟨more, hm⟩ := grown p hp
      rw [tabs p hp] at e
      cases e
      refine .inr (.inl ⟨((codes p hp).tab (tabs p hp)).isCodeTable, rfl, #[], more, rfl, ?_⟩)
      rw [hm, Array.empty_append]
    · exact .inl (kept b o hb e)
    · obtain ⟨p, hp, rfl⟩ := ofTs b hb
      obtain ⟨more, hm⟩ := grown p hp
      exact ⟨_, hm⟩
    · exact ⟨o, kept b o hb e⟩
end K5
namespace K5
open PySem PySem.Spec PyProof.Rows L2
/-! ### the head's facts, by names -/
/-- a class of errors, as it is written -/
def oexB (K : PySem.W.Frag) (C : Addr) : Bool := match K.lookup C with
  | some ⟨.type t, _, .cls ⟨_, _, mro, _, _, hd, _, _, _, _, del⟩, sl⟩ => decide (t = "type") && (hd && (!del && ((match mro with
      | .ref c :: bm => decide (c = C) && PySem.HandSPX.refsVE bm
      | _ => false) && (match sl.toList with
      | [_, _, _, _, some (.builtin n), _] => decide (n = "ValueError.__new__")
      | _ => false))))
  | _ => false
theorem oexB_ok {K : PySem.W.Frag} {C : Addr} (h : oexB K C = true) : ∃ nm q N bs bm sn sub ab col dd k0 k1 k2 k3 k5, K.lookup C = some (excClassObj nm q C N bs bm true sn sub ab col dd k0 k1 k2 k3 k5 "ValueError.__new__") ∧ PySem.HandSPX.refsVE bm = true := by
  unfold oexB at h
  split at h
  · rename_i t dd nm bs mro N qn hd sn sub ab col del sl lk
    rw [Bool.and_eq_true, Bool.and_eq_true, Bool.and_eq_true, Bool.and_eq_true] at h
    obtain ⟨h1, h2, h3, h4, h5⟩ := h
    split at h4
    · rename_i c bm
      rw [Bool.and_eq_true] at h4
      split at h5
      · rename_i k0 k1 k2 k3 n k5 e
        have e1 : t = "type" := of_decide_eq_true h1
        have e2 : c = C := of_decide_eq_true h4.1
        have e3 : n = "ValueError.__new__" := of_decide_eq_true h5
        have e4 : hd = true := h2
        have e5 : del = false := by
          cases del
          · rfl
          · cases h3
        have e6 : sl = #[k0, k1, k2, k3, some (.builtin n), k5] := by
          rw [← Array.toList_inj, e]
        subst e1 e2 e3 e4 e5 e6
        exact ⟨nm, qn, N, bs, bm, sn, sub, ab, col, dd, k0, k1, k2, k3, k5, lk, h4.2⟩
      · cases h5
    · cases h4
  · cases h
def kdB (K : PySem.W.Frag) (x : Str) : Bool := match K.lookup (He.ga K x) with
  | some o => decide (o.cls = .type "tuple") && o.dict.isNone
  | none => false
theorem kdB_ok {K : PySem.W.Frag} {x : Str} (h : kdB K x = true) : ∃ ob, K.lookup (He.ga K x) = some ob ∧ ob.cls = .type "tuple" ∧ ob.dict = none := by
  unfold kdB at h
  split at h
  · rename_i o e
    rw [Bool.and_eq_true] at h
    exact ⟨o, e, of_decide_eq_true h.1, Option.isNone_iff_eq_none.mp h.2⟩
  · cases h
/-- what else is asked of the classes of errors -/
def errL (K : PySem.W.Frag) (x : Str) : List Bool := [oexB K (He.ga K x), decide (PySem.W.findIn K (.ref (He.ga K x)) "__setattr__" = some (some (.builtin "object.__setattr__"))), decide (PySem.W.subIn K (.ref (He.ga K x)) (.type "BaseException") = some true), decide (PySem.W.typeIn K (.ref (He.ga K x)) = some (.type "type")), PySem.W.keepIn K (.ref (He.ga K x)),
  decide (PySem.W.findIn K (.ref (He.ga K x)) "__init__" = some (some (.ref (He.ma K (He.ga K "WireError") "__init__")))), decide (PySem.W.findIn K (.ref (He.ga K x)) "value" = some none), xfB K (He.ga K x),
  decide (PySem.W.findIn K (.ref (He.ga K x)) "__class__" = some (some (.builtin "object.__class__"))), decide (PySem.W.mroIn K (He.ga K x) (.type "object") = some true), decide (PySem.W.exmOne K (.ref (He.ga K x)) (.ref (He.ga K "WireError")) = some true),
  decide (PySem.W.kitOne K (.ref (He.ga K x)) (.type "ValueError") = some true)]
def exL (K : PySem.W.Frag) : List Bool := [(errL K "BadText").all id, (errL K "BadWorths").all id, decide (PySem.W.typeIn K (.ref (He.ma K (He.ga K "WireError") "__init__")) = some (.type "function")),
  decide (PySem.W.specialIn K (.builtin "object.__class__") "__get__" = some (some (.builtin "getset_descriptor.__get__"))), decide (PySem.W.takesIn K (.builtin "object.__class__") = some true),
  decide (PySem.W.kitOne K (.ref (He.ga K "BadText")) (.ref (He.ga K "BadText")) = some true), decide (PySem.W.kitOne K (.ref (He.ga K "BadText")) (.ref (He.ga K "BadWorths")) = some false), decide (PySem.W.kitOne K (.ref (He.ga K "BadWorths")) (.ref (He.ga K "BadText")) = some false), decide (PySem.W.kitOne K (.ref (He.ga K "BadWorths")) (.ref (He.ga K "BadWorths")) = some true),
  He.tupB K "ANSWER_WORDS" [.str "busy", .str "lost"], kdB K "ANSWER_WORDS", decide ((He.cT K ("read_state", none)).2 ≠ (He.cT K ("read_outcomes", none)).2)]
def exB (K : PySem.W.Frag) : Bool := (exL K).all id
theorem all_at {l : List Bool} (h : l.all id = true) (i : Nat) {b : Bool} (e : l[i]? = some b) : b = true := List.all_eq_true.mp h b (List.mem_of_getElem? e)
def faL : List He.Fa := [
  (.glo "is_integer"),
  (.glo "is_worths"),
  (.glo "is_name"),
  (.glo "is_door"),
  (.glo "number"),
  (.glo "read_pact"),
  (.glo "pact_of_doors"),
  (.glo "states_told"),
  (.glo "read_state"),
  (.glo "read_outcomes"),
  (.glo "worths_of"),
  (.glo "answers_of"),
  (.glo "answer_of"),
  (.glo "_law_box"),
  (.glo "_law_take"),
  (.glo "_law_of"),
  (.glo "_law_some"),
  (.glo "_law_outcomes_of"),
  (.glo "_law_pact"),
  (.glo "_law_answer_word"),
  (.glo "_law_pact_text"),
  (.glo "_law_number"),
  (.glo "_law_words_at"),
  (.glo "_law_worths_in"),
  (.glo "_law_answers_in"),
  (.glo "_law_row_in"),
  (.glo "_law_states_there"),
  (.glo "_law_parted"),
  (.glo "_law_reading"),
  (.glo "_law_told"),
  (.glo "_law_bent_row"),
  (.glo "_law_bent"),
  (.glo "_law_is_right"),
  (.glo "_law_right"),
  (.glo "law"),
  (.glo "WireError"),
  (.glo "BadText"),
  (.glo "BadWorths"),
  (.glo "Lines"),
  (.glo "ANSWER_WORDS"),
  (.free "int"),
  (.free "len"),
  (.free "abs"),
  (.free "max"),
  (.free "min"),
  (.free "list"),
  (.free "str"),
  (.free "bool"),
  (.free "range"),
  (.free "isinstance"),
  (.free "tuple"),
  (.free "repr"),
  (.free "all"),
  (.free "ValueError"),
  (.free "dict"),
  (.free "sorted"),
  (.free "enumerate"),
  (.int "MOST_STATES" 400),
  (.cls "Lines"),
  (.mkr "Lines"),
  (.noat "Lines" "rows"),
  (.noat "Lines" "at"),
  (.meth "Lines" "words"),
  (.meth "Lines" "step"),
  (.meth "Lines" "need"),
  (.meth "Lines" "need_end")]
def d0 : He.DefD := ⟨("is_integer", none), "is_integer", "is_integer", defArgs s_is_integer, defBody s_is_integer, defScope s_is_integer, [], []⟩
def d1 : He.DefD := ⟨("is_worths", none), "is_worths", "is_worths", defArgs s_is_worths, defBody s_is_worths, defScope s_is_worths, [], []⟩
def d2 : He.DefD := ⟨("is_name", none), "is_name", "is_name", defArgs s_is_name, defBody s_is_name, defScope s_is_name, [], []⟩
def d3 : He.DefD := ⟨("is_door", none), "is_door", "is_door", defArgs s_is_door, defBody s_is_door, defScope s_is_door, [], []⟩
def d4 : He.DefD := ⟨("number", none), "number", "number", defArgs s_number, defBody s_number, defScope s_number, [], []⟩
def d5 : He.DefD := ⟨("read_pact", none), "read_pact", "read_pact", defArgs s_read_pact, defBody s_read_pact, defScope s_read_pact, [], []⟩
def d6 : He.DefD := ⟨("pact_of_doors", none), "pact_of_doors", "pact_of_doors", defArgs s_pact_of_doors, defBody s_pact_of_doors, defScope s_pact_of_doors, [], []⟩
def d7 : He.DefD := ⟨("states_told", none), "states_told", "states_told", defArgs s_states_told, defBody s_states_told, defScope s_states_told, [], []⟩
def d8 : He.DefD := ⟨("read_state", none), "read_state", "read_state", defArgs s_read_state, defBody s_read_state, defScope s_read_state, [], []⟩
def d9 : He.DefD := ⟨("read_outcomes", none), "read_outcomes", "read_outcomes", defArgs s_read_outcomes, defBody s_read_outcomes, defScope s_read_outcomes, [], []⟩
def d10 : He.DefD := ⟨("worths_of", none), "worths_of", "worths_of", defArgs s_worths_of, defBody s_worths_of, defScope s_worths_of, [], []⟩
def d11 : He.DefD := ⟨("answers_of", none), "answers_of", "answers_of", defArgs s_answers_of, defBody s_answers_of, defScope s_answers_of, [], []⟩
def d12 : He.DefD := ⟨("answer_of", none), "answer_of", "answer_of", defArgs s_answer_of, defBody s_answer_of, defScope s_answer_of, [], []⟩
def d13 : He.DefD := ⟨("_law_box", none), "_law_box", "_law_box", defArgs s__law_box, defBody s__law_box, defScope s__law_box, [], []⟩
def d14 : He.DefD := ⟨("_law_take", none), "_law_take", "_law_take", defArgs sTake, defBody sTake, defScope sTake, [], []⟩
def d15 : He.DefD := ⟨("_law_of", none), "_law_of", "_law_of", defArgs s__law_of, defBody s__law_of, defScope s__law_of, [], []⟩
def d16 : He.DefD := ⟨("_law_some", none), "_law_some", "_law_some", defArgs s__law_some, defBody s__law_some, defScope s__law_some, [], []⟩
def d17 : He.DefD := ⟨("_law_outcomes_of", none), "_law_outcomes_of", "_law_outcomes_of", defArgs s__law_outcomes_of, defBody s__law_outcomes_of, defScope s__law_outcomes_of, [], []⟩
def d18 : He.DefD := ⟨("_law_pact", none), "_law_pact", "_law_pact", defArgs s__law_pact, defBody s__law_pact, defScope s__law_pact, [], []⟩
def d19 : He.DefD := ⟨("_law_answer_word", none), "_law_answer_word", "_law_answer_word", defArgs s__law_answer_word, defBody s__law_answer_word, defScope s__law_answer_word, [], []⟩
def d20 : He.DefD := ⟨("_law_pact_text", none), "_law_pact_text", "_law_pact_text", defArgs s__law_pact_text, defBody s__law_pact_text, defScope s__law_pact_text, [], []⟩
def d21 : He.DefD := ⟨("_law_number", none), "_law_number", "_law_number", defArgs s__law_number, defBody s__law_number, defScope s__law_number, [], []⟩
def d22 : He.DefD := ⟨("_law_words_at", none), "_law_words_at", "_law_words_at", defArgs s__law_words_at, defBody s__law_words_at, defScope s__law_words_at, [], []⟩
def d23 : He.DefD := ⟨("_law_worths_in", none), "_law_worths_in", "_law_worths_in", defArgs s__law_worths_in, defBody s__law_worths_in, defScope s__law_worths_in, [], []⟩
def d24 : He.DefD := ⟨("_law_answers_in", none), "_law_answers_in", "_law_answers_in", defArgs s__law_answers_in, defBody s__law_answers_in, defScope s__law_answers_in, [], []⟩
def d25 : He.DefD := ⟨("_law_row_in", none), "_law_row_in", "_law_row_in", defArgs s__law_row_in, defBody s__law_row_in, defScope s__law_row_in, [], []⟩
def d26 : He.DefD := ⟨("_law_states_there", none), "_law_states_there", "_law_states_there", defArgs s__law_states_there, defBody s__law_states_there, defScope s__law_states_there, [], []⟩
def d27 : He.DefD := ⟨("_law_parted", none), "_law_parted", "_law_parted", defArgs s__law_parted, defBody s__law_parted, defScope s__law_parted, [], []⟩
def d28 : He.DefD := ⟨("_law_reading", none), "_law_reading", "_law_reading", defArgs s__law_reading, defBody s__law_reading, defScope s__law_reading, [], []⟩
def d29 : He.DefD := ⟨("_law_told", none), "_law_told", "_law_told", defArgs s__law_told, defBody s__law_told, defScope s__law_told, [], []⟩
def d30 : He.DefD := ⟨("_law_bent_row", none), "_law_bent_row", "_law_bent_row", defArgs s__law_bent_row, defBody s__law_bent_row, defScope s__law_bent_row, [], []⟩
def d31 : He.DefD := ⟨("_law_bent", none), "_law_bent", "_law_bent", defArgs s__law_bent, defBody s__law_bent, defScope s__law_bent, [], []⟩
def d32 : He.DefD := ⟨("_law_is_right", none), "_law_is_right", "_law_is_right", defArgs s__law_is_right, defBody s__law_is_right, defScope s__law_is_right, [], []⟩
def d33 : He.DefD := ⟨("_law_right", none), "_law_right", "_law_right", defArgs s__law_right, defBody s__law_right, defScope s__law_right, [], []⟩
def d34 : He.DefD := ⟨("law", none), "law", "law", defArgs s_law, defBody s_law, defScope s_law, [], []⟩
def d35 : He.DefD := ⟨("WireError", some "__init__"), "__init__", "WireError.__init__", defArgs s_err, defBody s_err, defScope s_err, [], []⟩
def d36 : He.DefD := ⟨("Lines", some "__init__"), "__init__", "Lines.__init__", defArgs s_Lines___init__, defBody s_Lines___init__, defScope s_Lines___init__, [], []⟩
def d37 : He.DefD := ⟨("Lines", some "words"), "words", "Lines.words", defArgs s_Lines_words, defBody s_Lines_words, defScope s_Lines_words, [], []⟩
def d38 : He.DefD := ⟨("Lines", some "step"), "step", "Lines.step", defArgs s_Lines_step, defBody s_Lines_step, defScope s_Lines_step, [], []⟩
def d39 : He.DefD := ⟨("Lines", some "need"), "need", "Lines.need", defArgs s_Lines_need, defBody s_Lines_need, defScope s_Lines_need, [], []⟩
def d40 : He.DefD := ⟨("Lines", some "need_end"), "need_end", "Lines.need_end", defArgs s_Lines_need_end, defBody s_Lines_need_end, defScope s_Lines_need_end, [], []⟩
def fnL : List He.DefD := [d0, d1, d2, d3, d4, d5, d6, d7, d8, d9, d10, d11, d12, d13, d14, d15, d16, d17, d18, d19, d20, d21, d22, d23, d24, d25, d26, d27, d28, d29, d30, d31, d32, d33, d34, d35, d36, d37, d38, d39, d40]
abbrev tfL : List He.Defn := [("read_state", none), ("read_outcomes", none)]
theorem funOf {K : PySem.W.Frag} {x qual : Str} {st : Stmt} {f : Addr} {fd : FuncData} (F : FunD K x qual (defArgs st) (defBody st) (defScope st) [] [] f fd) : Fun K x qual st f fd := by
  obtain ⟨oc, od, dV, kV, doc, pm, an, cd, ct, sl, e, lk, hc, hD, _⟩ := F.ex
  rcases hD with ⟨_, rfl⟩ | ⟨z, _⟩
  · exact ⟨⟨oc, od, kV, doc, pm, an, cd, ct, sl, e, lk, hc⟩, F.kp⟩
  · exact absurd rfl z
theorem funTOf {K : PySem.W.Frag} {x qual : Str} {st : Stmt} {p : He.Defn} {fd : FuncData} (F : FunD K x qual (defArgs st) (defBody st) (defScope st) [] [] (He.fAd K p) fd) : FunT K x qual st (He.fAd K p) fd (He.codeOf K p) := by
  obtain ⟨oc, od, dV, kV, doc, pm, an, cd, ct, sl, e, lk, hc, hD, _⟩ := F.ex
  rcases hD with ⟨_, rfl⟩ | ⟨z, _⟩
  · obtain ⟨c, rfl⟩ := He.codeIn_ref hc
    have q := He.codeOf_eq (c := c) lk (by rw [e])
    rw [q]
    exact ⟨⟨oc, od, kV, doc, pm, an, ct, sl, e, lk, hc⟩, F.kp⟩
  · exact absurd rfl z
section
variable {K : PySem.W.Frag} {w : World} {h : Heap} {mg : Str → Option Value}
theorem er_of {x : Str} (X : K.In h) (G : h.Ns mainGlobals mg) (g : mg x = some (.ref (He.ga K x))) (e : (errL K x).all id = true) (e2 : (exL K).all id = true) : Er K mg x (He.ga K x) (He.ma K (He.ga K "WireError") "__init__") where
  O := ⟨oexB_ok (all_at e 0 rfl), of_decide_eq_true (all_at e 1 rfl), of_decide_eq_true (all_at e 2 rfl), of_decide_eq_true (all_at e 3 rfl), all_at e 4 rfl⟩
  g := g
  iC := of_decide_eq_true (all_at e 5 rfl)
  tI := of_decide_eq_true (all_at e2 2 rfl)
  nv := of_decide_eq_true (all_at e 6 rfl)
theorem exc_of {x : Str} (e : (errL K x).all id = true) (e2 : (exL K).all id = true) : ExcC K (He.ga K x) where
  hg := (xfB_ok (all_at e 7 rfl)).ga
  hk := (xfB_ok (all_at e 7 rfl)).gg
  hs := (xfB_ok (all_at e 7 rfl)).exC
  hd := (xfB_ok (all_at e 7 rfl)).hdC
  ha := of_decide_eq_true (all_at e 8 rfl)
  hn := of_decide_eq_true (all_at e2 3 rfl)
  ht := of_decide_eq_true (all_at e2 4 rfl)
  hm := of_decide_eq_true (all_at e 9 rfl)
theorem erC_of (e2 : (exL K).all id = true) : ErC K (He.ga K "WireError") (He.ga K "BadText") (He.ga K "BadWorths") := by
  have eT : (errL K "BadText").all id = true := all_at e2 0 rfl
  have eW : (errL K "BadWorths").all id = true := all_at e2 1 rfl
  exact ⟨of_decide_eq_true (all_at eT 10 rfl), of_decide_eq_true (all_at eW 10 rfl), exc_of eT e2, exc_of eW e2, xfB_ok (all_at eT 7 rfl), xfB_ok (all_at eW 7 rfl), of_decide_eq_true (all_at eT 6 rfl), of_decide_eq_true (all_at eW 6 rfl), of_decide_eq_true (all_at e2 5 rfl), of_decide_eq_true (all_at e2 6 rfl), of_decide_eq_true (all_at e2 7 rfl), of_decide_eq_true (all_at e2 8 rfl), of_decide_eq_true (all_at eT 11 rfl), of_decide_eq_true (all_at eW 11 rfl)⟩
theorem all_mk {P : Program} {f : Addr} (X : K.In h) (G : h.Ns mainGlobals mg) (hf : mg ("law" : Str) = some (.ref f)) (c : He.SaysD faL fnL K) (e2 : exB K = true) :
    ∃ fd : FuncData, (∀ (s : Shared) (v : Value), BindsTo s fd ⟨[v], []⟩ [("_law_script", v)]) ∧ ∀ base : Heap, K.In base → base.Ns mainGlobals mg → GxR.TabB base mg (He.codeOf K ("read_state", none)) (He.cT K ("read_state", none)).2 → GxR.TabB base mg (He.codeOf K ("read_outcomes", none)) (He.cT K ("read_outcomes", none)).2 →
      FnG P w K mg base (L2.CX P w) 15 f fd ["_law_script"] (spLaw K (He.cT K ("read_state", none)).2 (He.cT K ("read_outcomes", none)).2) := by
  have eT : (errL K "BadText").all id = true := all_at e2 0 rfl
  have eW : (errL K "BadWorths").all id = true := all_at e2 1 rfl
  have Bt0 : Bt mg := { m_int := He.free_ok X G (c.fact 40 (f := .free "int") rfl), m_len := He.free_ok X G (c.fact 41 (f := .free "len") rfl), m_abs := He.free_ok X G (c.fact 42 (f := .free "abs") rfl), m_max := He.free_ok X G (c.fact 43 (f := .free "max") rfl), m_min := He.free_ok X G (c.fact 44 (f := .free "min") rfl), m_list := He.free_ok X G (c.fact 45 (f := .free "list") rfl), m_str := He.free_ok X G (c.fact 46 (f := .free "str") rfl), m_bool := He.free_ok X G (c.fact 47 (f := .free "bool") rfl), m_range := He.free_ok X G (c.fact 48 (f := .free "range") rfl), m_isinstance := He.free_ok X G (c.fact 49 (f := .free "isinstance") rfl), m_tuple := He.free_ok X G (c.fact 50 (f := .free "tuple") rfl), m_repr := He.free_ok X G (c.fact 51 (f := .free "repr") rfl) }
  obtain ⟨k0, F0⟩ := c.def_ 0 (d := d0) rfl
  obtain ⟨k1, F1⟩ := c.def_ 1 (d := d1) rfl
  obtain ⟨k2, F2⟩ := c.def_ 2 (d := d2) rfl
  obtain ⟨k3, F3⟩ := c.def_ 3 (d := d3) rfl
  obtain ⟨k4, F4⟩ := c.def_ 4 (d := d4) rfl
  obtain ⟨k5, F5⟩ := c.def_ 5 (d := d5) rfl
  obtain ⟨k6, F6⟩ := c.def_ 6 (d := d6) rfl
  obtain ⟨k7, F7⟩ := c.def_ 7 (d := d7) rfl
  obtain ⟨k8, F8⟩ := c.def_ 8 (d := d8) rfl
  obtain ⟨k9, F9⟩ := c.def_ 9 (d := d9) rfl
  obtain ⟨k10, F10⟩ := c.def_ 10 (d := d10) rfl
  obtain ⟨k11, F11⟩ := c.def_ 11 (d := d11) rfl
  obtain ⟨k12, F12⟩ := c.def_ 12 (d := d12) rfl
  obtain ⟨k13, F13⟩ := c.def_ 13 (d := d13) rfl
  obtain ⟨k14, F14⟩ := c.def_ 14 (d := d14) rfl
  obtain ⟨k15, F15⟩ := c.def_ 15 (d := d15) rfl
  obtain ⟨k16, F16⟩ := c.def_ 16 (d := d16) rfl
  obtain ⟨k17, F17⟩ := c.def_ 17 (d := d17) rfl
  obtain ⟨k18, F18⟩ := c.def_ 18 (d := d18) rfl
  obtain ⟨k19, F19⟩ := c.def_ 19 (d := d19) rfl
  obtain ⟨k20, F20⟩ := c.def_ 20 (d := d20) rfl
  obtain ⟨k21, F21⟩ := c.def_ 21 (d := d21) rfl
  obtain ⟨k22, F22⟩ := c.def_ 22 (d := d22) rfl
  obtain ⟨k23, F23⟩ := c.def_ 23 (d := d23) rfl
  obtain ⟨k24, F24⟩ := c.def_ 24 (d := d24) rfl
  obtain ⟨k25, F25⟩ := c.def_ 25 (d := d25) rfl
  obtain ⟨k26, F26⟩ := c.def_ 26 (d := d26) rfl
  obtain ⟨k27, F27⟩ := c.def_ 27 (d := d27) rfl
  obtain ⟨k28, F28⟩ := c.def_ 28 (d := d28) rfl
  obtain ⟨k29, F29⟩ := c.def_ 29 (d := d29) rfl
  obtain ⟨k30, F30⟩ := c.def_ 30 (d := d30) rfl
  obtain ⟨k31, F31⟩ := c.def_ 31 (d := d31) rfl
  obtain ⟨k32, F32⟩ := c.def_ 32 (d := d32) rfl
  obtain ⟨k33, F33⟩ := c.def_ 33 (d := d33) rfl
  obtain ⟨k34, F34⟩ := c.def_ 34 (d := d34) rfl
  obtain ⟨k35, F35⟩ := c.def_ 35 (d := d35) rfl
  obtain ⟨k36, F36⟩ := c.def_ 36 (d := d36) rfl
  obtain ⟨k37, F37⟩ := c.def_ 37 (d := d37) rfl
  obtain ⟨k38, F38⟩ := c.def_ 38 (d := d38) rfl
  obtain ⟨k39, F39⟩ := c.def_ 39 (d := d39) rfl
  obtain ⟨k40, F40⟩ := c.def_ 40 (d := d40) rfl
  have e := hf.symm.trans (He.glo_ok X G (c.fact 34 (f := .glo "law") rfl))
  cases e
  have b0 : Binds K k0 ["value"] [] := FunD.bindsN F0 fun _ _ _ _ _ _ us hl => match us, hl with | [_], _ => rfl
  have D0 : Df K mg "is_integer" s_is_integer (He.fAd K ("is_integer", none)) k0 ["value"] := ⟨funOf (st := s_is_integer) F0, He.glo_ok X G (c.fact 0 (f := .glo "is_integer") rfl), b0⟩
  have b1 : Binds K k1 ["value"] [] := FunD.bindsN F1 fun _ _ _ _ _ _ us hl => match us, hl with | [_], _ => rfl
  have D1 : Df K mg "is_worths" s_is_worths (He.fAd K ("is_worths", none)) k1 ["value"] := ⟨funOf (st := s_is_worths) F1, He.glo_ok X G (c.fact 1 (f := .glo "is_worths") rfl), b1⟩
  have b2 : Binds K k2 ["value"] [] := FunD.bindsN F2 fun _ _ _ _ _ _ us hl => match us, hl with | [_], _ => rfl
  have D2 : Df K mg "is_name" s_is_name (He.fAd K ("is_name", none)) k2 ["value"] := ⟨funOf (st := s_is_name) F2, He.glo_ok X G (c.fact 2 (f := .glo "is_name") rfl), b2⟩
  have b3 : Binds K k3 ["value"] [] := FunD.bindsN F3 fun _ _ _ _ _ _ us hl => match us, hl with | [_], _ => rfl
  have D3 : Df K mg "is_door" s_is_door (He.fAd K ("is_door", none)) k3 ["value"] := ⟨funOf (st := s_is_door) F3, He.glo_ok X G (c.fact 3 (f := .glo "is_door") rfl), b3⟩
  have b4 : Binds K k4 ["word", "many"] [] := FunD.bindsN F4 fun _ _ _ _ _ _ us hl => match us, hl with | [_, _], _ => rfl
  have D4 : Df K mg "number" s_number (He.fAd K ("number", none)) k4 ["word", "many"] := ⟨funOf (st := s_number) F4, He.glo_ok X G (c.fact 4 (f := .glo "number") rfl), b4⟩
  have b5 : Binds K k5 ["worths", "text"] [] := FunD.bindsN F5 fun _ _ _ _ _ _ us hl => match us, hl with | [_, _], _ => rfl
  have D5 : Df K mg "read_pact" s_read_pact (He.fAd K ("read_pact", none)) k5 ["worths", "text"] := ⟨funOf (st := s_read_pact) F5, He.glo_ok X G (c.fact 5 (f := .glo "read_pact") rfl), b5⟩
  have b6 : Binds K k6 ["worths", "text", "doors"] [] := FunD.bindsN F6 fun _ _ _ _ _ _ us hl => match us, hl with | [_, _, _], _ => rfl
  have D6 : Df K mg "pact_of_doors" s_pact_of_doors (He.fAd K ("pact_of_doors", none)) k6 ["worths", "text", "doors"] := ⟨funOf (st := s_pact_of_doors) F6, He.glo_ok X G (c.fact 6 (f := .glo "pact_of_doors") rfl), b6⟩
  have b7 : Binds K k7 ["rows"] [] := FunD.bindsN F7 fun _ _ _ _ _ _ us hl => match us, hl with | [_], _ => rfl
  have D7 : Df K mg "states_told" s_states_told (He.fAd K ("states_told", none)) k7 ["rows"] := ⟨funOf (st := s_states_told) F7, He.glo_ok X G (c.fact 7 (f := .glo "states_told") rfl), b7⟩
  have b8 : Binds K k8 ["lines", "worths", "doors", "many"] [] := FunD.bindsN F8 fun _ _ _ _ _ _ us hl => match us, hl with | [_, _, _, _], _ => rfl
  have T8 : DfT K mg "read_state" s_read_state (He.fAd K ("read_state", none)) k8 (He.codeOf K ("read_state", none)) ["lines", "worths", "doors", "many"] := ⟨funTOf (st := s_read_state) (p := ("read_state", none)) F8, He.glo_ok X G (c.fact 8 (f := .glo "read_state") rfl), b8⟩
  have b9 : Binds K k9 ["lines", "text", "worths", "many"] [] := FunD.bindsN F9 fun _ _ _ _ _ _ us hl => match us, hl with | [_, _, _, _], _ => rfl
  have T9 : DfT K mg "read_outcomes" s_read_outcomes (He.fAd K ("read_outcomes", none)) k9 (He.codeOf K ("read_outcomes", none)) ["lines", "text", "worths", "many"] := ⟨funTOf (st := s_read_outcomes) (p := ("read_outcomes", none)) F9, He.glo_ok X G (c.fact 9 (f := .glo "read_outcomes") rfl), b9⟩
  have b10 : Binds K k10 ["word", "worths"] [] := FunD.bindsN F10 fun _ _ _ _ _ _ us hl => match us, hl with | [_, _], _ => rfl
  have D10 : Df K mg "worths_of" s_worths_of (He.fAd K ("worths_of", none)) k10 ["word", "worths"] := ⟨funOf (st := s_worths_of) F10, He.glo_ok X G (c.fact 10 (f := .glo "worths_of") rfl), b10⟩
  have b11 : Binds K k11 ["word", "worths"] [] := FunD.bindsN F11 fun _ _ _ _ _ _ us hl => match us, hl with | [_, _], _ => rfl
  have D11 : Df K mg "answers_of" s_answers_of (He.fAd K ("answers_of", none)) k11 ["word", "worths"] := ⟨funOf (st := s_answers_of) F11, He.glo_ok X G (c.fact 11 (f := .glo "answers_of") rfl), b11⟩
  have b12 : Binds K k12 ["word", "worths"] [] := FunD.bindsN F12 fun _ _ _ _ _ _ us hl => match us, hl with | [_, _], _ => rfl
  have D12 : Df K mg "answer_of" s_answer_of (He.fAd K ("answer_of", none)) k12 ["word", "worths"] := ⟨funOf (st := s_answer_of) F12, He.glo_ok X G (c.fact 12 (f := .glo "answer_of") rfl), b12⟩
  have b13 : Binds K k13 ["_law_script", "_law_k"] [] := FunD.bindsN F13 fun _ _ _ _ _ _ us hl => match us, hl with | [_, _], _ => rfl
  have D13 : Df K mg "_law_box" s__law_box (He.fAd K ("_law_box", none)) k13 ["_law_script", "_law_k"] := ⟨funOf (st := s__law_box) F13, He.glo_ok X G (c.fact 13 (f := .glo "_law_box") rfl), b13⟩
  have b14 : Binds K k14 ["_law_box_here", "_law_many"] [] := FunD.bindsN F14 fun _ _ _ _ _ _ us hl => match us, hl with | [_, _], _ => rfl
  have D14 : Df K mg "_law_take" sTake (He.fAd K ("_law_take", none)) k14 ["_law_box_here", "_law_many"] := ⟨funOf (st := sTake) F14, He.glo_ok X G (c.fact 14 (f := .glo "_law_take") rfl), b14⟩
  have b15 : Binds K k15 ["_law_box_here", "_law_some_here"] [] := FunD.bindsN F15 fun _ _ _ _ _ _ us hl => match us, hl with | [_, _], _ => rfl
  have D15 : Df K mg "_law_of" s__law_of (He.fAd K ("_law_of", none)) k15 ["_law_box_here", "_law_some_here"] := ⟨funOf (st := s__law_of) F15, He.glo_ok X G (c.fact 15 (f := .glo "_law_of") rfl), b15⟩
  have b16 : Binds K k16 ["_law_box_here", "_law_items", "_law_many"] [] := FunD.bindsN F16 fun _ _ _ _ _ _ us hl => match us, hl with | [_, _, _], _ => rfl
  have D16 : Df K mg "_law_some" s__law_some (He.fAd K ("_law_some", none)) k16 ["_law_box_here", "_law_items", "_law_many"] := ⟨funOf (st := s__law_some) F16, He.glo_ok X G (c.fact 16 (f := .glo "_law_some") rfl), b16⟩
  have b17 : Binds K k17 ["_law_box_here", "_law_worths", "_law_many"] [] := FunD.bindsN F17 fun _ _ _ _ _ _ us hl => match us, hl with | [_, _, _], _ => rfl
  have D17 : Df K mg "_law_outcomes_of" s__law_outcomes_of (He.fAd K ("_law_outcomes_of", none)) k17 ["_law_box_here", "_law_worths", "_law_many"] := ⟨funOf (st := s__law_outcomes_of) F17, He.glo_ok X G (c.fact 17 (f := .glo "_law_outcomes_of") rfl), b17⟩
  have b18 : Binds K k18 ["_law_box_here", "_law_worths"] [] := FunD.bindsN F18 fun _ _ _ _ _ _ us hl => match us, hl with | [_, _], _ => rfl
  have D18 : Df K mg "_law_pact" s__law_pact (He.fAd K ("_law_pact", none)) k18 ["_law_box_here", "_law_worths"] := ⟨funOf (st := s__law_pact) F18, He.glo_ok X G (c.fact 18 (f := .glo "_law_pact") rfl), b18⟩
  have b19 : Binds K k19 ["_law_answer"] [] := FunD.bindsN F19 fun _ _ _ _ _ _ us hl => match us, hl with | [_], _ => rfl
  have D19 : Df K mg "_law_answer_word" s__law_answer_word (He.fAd K ("_law_answer_word", none)) k19 ["_law_answer"] := ⟨funOf (st := s__law_answer_word) F19, He.glo_ok X G (c.fact 19 (f := .glo "_law_answer_word") rfl), b19⟩
  have b20 : Binds K k20 ["_law_pact_here"] [] := FunD.bindsN F20 fun _ _ _ _ _ _ us hl => match us, hl with | [_], _ => rfl
  have D20 : Df K mg "_law_pact_text" s__law_pact_text (He.fAd K ("_law_pact_text", none)) k20 ["_law_pact_here"] := ⟨funOf (st := s__law_pact_text) F20, He.glo_ok X G (c.fact 20 (f := .glo "_law_pact_text") rfl), b20⟩
  have b21 : Binds K k21 ["_law_word"] [] := FunD.bindsN F21 fun _ _ _ _ _ _ us hl => match us, hl with | [_], _ => rfl
  have D21 : Df K mg "_law_number" s__law_number (He.fAd K ("_law_number", none)) k21 ["_law_word"] := ⟨funOf (st := s__law_number) F21, He.glo_ok X G (c.fact 21 (f := .glo "_law_number") rfl), b21⟩
  have b22 : Binds K k22 ["_law_line", "_law_deep"] [] := FunD.bindsN F22 fun _ _ _ _ _ _ us hl => match us, hl with | [_, _], _ => rfl
  have D22 : Df K mg "_law_words_at" s__law_words_at (He.fAd K ("_law_words_at", none)) k22 ["_law_line", "_law_deep"] := ⟨funOf (st := s__law_words_at) F22, He.glo_ok X G (c.fact 22 (f := .glo "_law_words_at") rfl), b22⟩
  have b23 : Binds K k23 ["_law_worths", "_law_word"] [] := FunD.bindsN F23 fun _ _ _ _ _ _ us hl => match us, hl with | [_, _], _ => rfl
  have D23 : Df K mg "_law_worths_in" s__law_worths_in (He.fAd K ("_law_worths_in", none)) k23 ["_law_worths", "_law_word"] := ⟨funOf (st := s__law_worths_in) F23, He.glo_ok X G (c.fact 23 (f := .glo "_law_worths_in") rfl), b23⟩
  have b24 : Binds K k24 ["_law_worths", "_law_word"] [] := FunD.bindsN F24 fun _ _ _ _ _ _ us hl => match us, hl with | [_, _], _ => rfl
  have D24 : Df K mg "_law_answers_in" s__law_answers_in (He.fAd K ("_law_answers_in", none)) k24 ["_law_worths", "_law_word"] := ⟨funOf (st := s__law_answers_in) F24, He.glo_ok X G (c.fact 24 (f := .glo "_law_answers_in") rfl), b24⟩
  have b25 : Binds K k25 ["_law_worths", "_law_words"] [] := FunD.bindsN F25 fun _ _ _ _ _ _ us hl => match us, hl with | [_, _], _ => rfl
  have D25 : Df K mg "_law_row_in" s__law_row_in (He.fAd K ("_law_row_in", none)) k25 ["_law_worths", "_law_words"] := ⟨funOf (st := s__law_row_in) F25, He.glo_ok X G (c.fact 25 (f := .glo "_law_row_in") rfl), b25⟩
  have b26 : Binds K k26 ["_law_lines"] [] := FunD.bindsN F26 fun _ _ _ _ _ _ us hl => match us, hl with | [_], _ => rfl
  have D26 : Df K mg "_law_states_there" s__law_states_there (He.fAd K ("_law_states_there", none)) k26 ["_law_lines"] := ⟨funOf (st := s__law_states_there) F26, He.glo_ok X G (c.fact 26 (f := .glo "_law_states_there") rfl), b26⟩
  have b27 : Binds K k27 ["_law_worths", "_law_lines"] [] := FunD.bindsN F27 fun _ _ _ _ _ _ us hl => match us, hl with | [_, _], _ => rfl
  have D27 : Df K mg "_law_parted" s__law_parted (He.fAd K ("_law_parted", none)) k27 ["_law_worths", "_law_lines"] := ⟨funOf (st := s__law_parted) F27, He.glo_ok X G (c.fact 27 (f := .glo "_law_parted") rfl), b27⟩
  have b28 : Binds K k28 ["_law_worths", "_law_page"] [] := FunD.bindsN F28 fun _ _ _ _ _ _ us hl => match us, hl with | [_, _], _ => rfl
  have D28 : Df K mg "_law_reading" s__law_reading (He.fAd K ("_law_reading", none)) k28 ["_law_worths", "_law_page"] := ⟨funOf (st := s__law_reading) F28, He.glo_ok X G (c.fact 28 (f := .glo "_law_reading") rfl), b28⟩
  have b29 : Binds K k29 ["_law_worths", "_law_page"] [] := FunD.bindsN F29 fun _ _ _ _ _ _ us hl => match us, hl with | [_, _], _ => rfl
  have D29 : Df K mg "_law_told" s__law_told (He.fAd K ("_law_told", none)) k29 ["_law_worths", "_law_page"] := ⟨funOf (st := s__law_told) F29, He.glo_ok X G (c.fact 29 (f := .glo "_law_told") rfl), b29⟩
  have b30 : Binds K k30 ["_law_box_here", "_law_words", "_law_some_here"] [] := FunD.bindsN F30 fun _ _ _ _ _ _ us hl => match us, hl with | [_, _, _], _ => rfl
  have D30 : Df K mg "_law_bent_row" s__law_bent_row (He.fAd K ("_law_bent_row", none)) k30 ["_law_box_here", "_law_words", "_law_some_here"] := ⟨funOf (st := s__law_bent_row) F30, He.glo_ok X G (c.fact 30 (f := .glo "_law_bent_row") rfl), b30⟩
  have b31 : Binds K k31 ["_law_box_here", "_law_page"] [] := FunD.bindsN F31 fun _ _ _ _ _ _ us hl => match us, hl with | [_, _], _ => rfl
  have D31 : Df K mg "_law_bent" s__law_bent (He.fAd K ("_law_bent", none)) k31 ["_law_box_here", "_law_page"] := ⟨funOf (st := s__law_bent) F31, He.glo_ok X G (c.fact 31 (f := .glo "_law_bent") rfl), b31⟩
  have b32 : Binds K k32 ["_law_worths", "_law_page"] [] := FunD.bindsN F32 fun _ _ _ _ _ _ us hl => match us, hl with | [_, _], _ => rfl
  have D32 : Df K mg "_law_is_right" s__law_is_right (He.fAd K ("_law_is_right", none)) k32 ["_law_worths", "_law_page"] := ⟨funOf (st := s__law_is_right) F32, He.glo_ok X G (c.fact 32 (f := .glo "_law_is_right") rfl), b32⟩
  have b33 : Binds K k33 ["_law_box_here"] [] := FunD.bindsN F33 fun _ _ _ _ _ _ us hl => match us, hl with | [_], _ => rfl
  have D33 : Df K mg "_law_right" s__law_right (He.fAd K ("_law_right", none)) k33 ["_law_box_here"] := ⟨funOf (st := s__law_right) F33, He.glo_ok X G (c.fact 33 (f := .glo "_law_right") rfl), b33⟩
  have b34 : Binds K k34 ["_law_script"] [] := FunD.bindsN F34 fun _ _ _ _ _ _ us hl => match us, hl with | [_], _ => rfl
  have D34 : Df K mg "law" s_law (He.fAd K ("law", none)) k34 ["_law_script"] := ⟨funOf (st := s_law) F34, He.glo_ok X G (c.fact 34 (f := .glo "law") rfl), b34⟩
  have b35 : Binds K k35 ["self", "value"] [] := FunD.bindsN F35 fun _ _ _ _ _ _ us hl => match us, hl with | [_, _], _ => rfl
  have U35 : Fun K "__init__" "WireError.__init__" s_err (He.fAd K ("WireError", some "__init__")) k35 := funOf (st := s_err) F35
  have b36 : Binds K k36 ["self", "text"] [] := FunD.bindsN F36 fun _ _ _ _ _ _ us hl => match us, hl with | [_, _], _ => rfl
  have U36 : Fun K "__init__" "Lines.__init__" s_Lines___init__ (He.fAd K ("Lines", some "__init__")) k36 := funOf (st := s_Lines___init__) F36
  have b37 : Binds K k37 ["self", "depth"] [] := FunD.bindsN F37 fun _ _ _ _ _ _ us hl => match us, hl with | [_, _], _ => rfl
  have M37 : Mf K (He.ga K "Lines") "words" "Lines.words" s_Lines_words (He.fAd K ("Lines", some "words")) k37 ["self", "depth"] := ⟨funOf (st := s_Lines_words) F37, He.meth_ok (c.fact 62 (f := .meth "Lines" "words") rfl), b37⟩
  have b38 : Binds K k38 ["self"] [] := FunD.bindsN F38 fun _ _ _ _ _ _ us hl => match us, hl with | [_], _ => rfl
  have M38 : Mf K (He.ga K "Lines") "step" "Lines.step" s_Lines_step (He.fAd K ("Lines", some "step")) k38 ["self"] := ⟨funOf (st := s_Lines_step) F38, He.meth_ok (c.fact 63 (f := .meth "Lines" "step") rfl), b38⟩
  have b39 : Binds K k39 ["self", "right"] [] := FunD.bindsN F39 fun _ _ _ _ _ _ us hl => match us, hl with | [_, _], _ => rfl
  have M39 : Mf K (He.ga K "Lines") "need" "Lines.need" s_Lines_need (He.fAd K ("Lines", some "need")) k39 ["self", "right"] := ⟨funOf (st := s_Lines_need) F39, He.meth_ok (c.fact 64 (f := .meth "Lines" "need") rfl), b39⟩
  have b40 : Binds K k40 ["self"] [] := FunD.bindsN F40 fun _ _ _ _ _ _ us hl => match us, hl with | [_], _ => rfl
  have M40 : Mf K (He.ga K "Lines") "need_end" "Lines.need_end" s_Lines_need_end (He.fAd K ("Lines", some "need_end")) k40 ["self"] := ⟨funOf (st := s_Lines_need_end) F40, He.meth_ok (c.fact 65 (f := .meth "Lines" "need_end") rfl), b40⟩
  have CLs : ClL K (He.ga K "Lines") := ⟨He.cls_ok (c.fact 58 (f := .cls "Lines") rfl), He.noat_ok (c.fact 60 (f := .noat "Lines" "rows") rfl), He.noat_ok (c.fact 61 (f := .noat "Lines" "at") rfl)⟩
  have KLines : Mk K (He.ga K "Lines") (He.fAd K ("Lines", some "__init__")) := He.mkr_ok (c.fact 59 (f := .mkr "Lines") rfl)
  have gWireError : mg "WireError" = some (.ref (He.ga K "WireError")) := He.glo_ok X G (c.fact 35 (f := .glo "WireError") rfl)
  have gBadText : mg "BadText" = some (.ref (He.ga K "BadText")) := He.glo_ok X G (c.fact 36 (f := .glo "BadText") rfl)
  have gBadWorths : mg "BadWorths" = some (.ref (He.ga K "BadWorths")) := He.glo_ok X G (c.fact 37 (f := .glo "BadWorths") rfl)
  have gLines : mg "Lines" = some (.ref (He.ga K "Lines")) := He.glo_ok X G (c.fact 38 (f := .glo "Lines") rfl)
  have W : Gw K mg (He.ga K "ANSWER_WORDS") := ⟨He.glo_ok X G (c.fact 39 (f := .glo "ANSWER_WORDS") rfl), ⟨fun H => He.tupB_ok (all_at e2 9 rfl) H, kdB_ok (all_at e2 10 rfl)⟩⟩
  have G400 : Mg mg := ⟨He.int_ok X G (c.fact 57 (f := .int "MOST_STATES" 400) rfl)⟩
  have ET : Er K mg "BadText" (He.ga K "BadText") (He.fAd K ("WireError", some "__init__")) := er_of X G gBadText eT e2
  have EW : Er K mg "BadWorths" (He.ga K "BadWorths") (He.fAd K ("WireError", some "__init__")) := er_of X G gBadWorths eW e2
  refine ⟨_, fun s v => FunD.bindsA (ps := ["_law_script"]) F34 (fun _ _ _ _ _ _ us hl => match us, hl with | [_], _ => rfl) s [v] rfl, fun base XB GB TB1 TB2 => ?_⟩
  have Gneed := ok_need (P := P) (w := w) (mg := mg) (base := base) CLs M39.F ET U35 b35
  have Gend := ok_need_end (P := P) (w := w) (mg := mg) (base := base) Bt0 CLs M40.F M39 ET U35 b35
  have Gwords := ok_words (P := P) (w := w) (mg := mg) (base := base) Bt0 CLs M37.F
  have Gstep := ok_step (P := P) (w := w) (mg := mg) (base := base) CLs M38.F
  have GLi := ok_Lines_init (P := P) (w := w) (mg := mg) (base := base) Bt0 CLs U36 ET U35 b35
  have Gerr := ok_err (P := P) (w := w) (mg := mg) (base := base) U35
  have Gnum := ok_number (P := P) (w := w) (mg := mg) (base := base) Bt0 D4
  have Gdoor := ok_is_door (P := P) (w := w) (mg := mg) (base := base) Bt0 D3 D2
  have Gisw := ok_is_worths (P := P) (w := w) (mg := mg) (base := base) Bt0 D1 D0
  have Gwo := ok_worths_of (P := P) (w := w) (mg := mg) (base := base) Bt0 D10 D4
  have Gas := ok_answers_of (P := P) (w := w) (mg := mg) (base := base) Bt0 W D11 D10 D12 D4
  have NO : EnO P w K mg base (He.ga K "Lines") (He.ga K "BadText") (He.ga K "ANSWER_WORDS") _ _ _ _ _ _ := ⟨Bt0, (He.free_ok X G (c.fact 55 (f := .free "sorted") rfl)), CLs, M39, Gneed, D11, Gas, D4, Gnum⟩
  have Gou := ok_read_outcomes NO T9.F TB2
  have NS : EnS P w K mg base (He.ga K "Lines") (He.ga K "BadText") (He.cT K ("read_state", none)).2 (He.cT K ("read_outcomes", none)).2 _ _ _ _ _ _ _ _ _ _ _ _ _ := ⟨Bt0, (He.free_ok X G (c.fact 55 (f := .free "sorted") rfl)), CLs, M37, Gwords, M38, Gstep, M39, Gneed, D3, Gdoor, D10, Gwo, T9, Gou⟩
  have Gst := ok_read_state NS T8.F TB1
  have Gtd := ok_states_told (P := P) (w := w) (mg := mg) (base := base) Bt0 G400 D7
  have NP : EnP P w K mg base (He.ga K "Lines") (He.ga K "BadText") (He.cT K ("read_state", none)).2 (He.cT K ("read_outcomes", none)).2 _ _ _ _ _ _ _ _ _ _ _ _ _ := ⟨Bt0, G400, CLs, KLines, gLines, b36, GLi, M37, Gwords, M38, Gstep, M40, Gend, D7, Gtd, T8, Gst⟩
  have Gpd := ok_pact_of_doors NP D6
  have Grp := ok_read_pact EW Gerr b35 D1 Gisw D6 Gpd D5
  have Gtold := ok_told Bt0 (erC_of e2) gWireError gBadText gBadWorths (He.free_ok X G (c.fact 53 (f := .free "ValueError") rfl)) D5 Grp D29
  have Glw := ok__law_words_at (P := P) (w := w) (mg := mg) (base := base) Bt0 D22
  have Gln := ok__law_number (P := P) (w := w) (mg := mg) (base := base) Bt0 D21
  have Glwi := ok__law_worths_in (P := P) (w := w) (mg := mg) (base := base) Bt0 D23 D21
  have Glai := ok__law_answers_in (P := P) (w := w) (mg := mg) (base := base) D24 D23 Glwi
  have NR : EnR P w K mg base _ _ _ _ _ _ := ⟨Bt0, (He.free_ok X G (c.fact 56 (f := .free "enumerate") rfl)), (He.free_ok X G (c.fact 54 (f := .free "dict") rfl)), D21, Gln, D24, Glai, D23, Glwi⟩
  have Glrow := ok__law_row_in NR D25
  have Glth := ok__law_states_there (P := P) (w := w) (mg := mg) (base := base) Bt0 D26
  have Glpa := ok_parted (P := P) (w := w) (mg := mg) (base := base) Bt0 ⟨Bt0.m_max, (He.free_ok X G (c.fact 54 (f := .free "dict") rfl))⟩ D27 D22 Glw D25 Glrow
  have Glre := ok_reading (P := P) (w := w) (mg := mg) (base := base) Bt0 (He.free_ok X G (c.fact 55 (f := .free "sorted") rfl)) D28 D27 Glpa D26 Glth
  have Glis := ok_is_right Bt0 D32 D29 Gtold D28 Glre
  have Gright := ok_right Bt0 (He.free_ok X G (c.fact 56 (f := .free "enumerate") rfl)) (He.free_ok X G (c.fact 55 (f := .free "sorted") rfl)) D33 D14 D15 D20 D19 D18 D16 D17 D31 D30 D32 Glis D29 Gtold
  have Gbox := ok_box (P := P) (w := w) (mg := mg) (base := base) Bt0 D13
  exact ok_law Bt0 (He.free_ok X G (c.fact 52 (f := .free "all") rfl)) D13 Gbox D33 Gright D34.F
end
end K5
namespace K5
open PySem PySem.Spec PyProof.Rows L2
abbrev R5 : PySem.W.OpenRow := PySem.W.OpenLaw.row PySem.Challenge.rw_truestandins_k09_texts_that_are_no_pacts
def namesL : List Str := (["_wall", "__name__", "WireError", "BadWorths", "BadText", "is_integer", "is_worths", "is_name", "is_door", "Lines", "number", "MOST_STATES", "ANSWER_WORDS", "read_pact", "pact_of_doors", "states_told", "read_state", "read_outcomes", "worths_of", "answers_of", "answer_of"] : List Str) ++ (["_law_box", "_law_take", "_law_of", "_law_some", "_law_outcomes_of", "_law_pact", "_law_answer_word", "_law_pact_text", "_law_number", "_law_words_at", "_law_worths_in", "_law_answers_in", "_law_row_in", "_law_states_there", "_law_parted", "_law_reading", "_law_told", "_law_bent_row", "_law_bent", "_law_is_right", "_law_right"] : List Str)
abbrev hk5 : PySem.W.Hook := He.hookX 5 faL fnL [] tfL exB
def ob5 (s : PySem.W.SharedT) : He.AlX := He.obsX 5 faL fnL [] tfL exB (HandSHeadRun.getT s)
theorem ob5_eq (s : PySem.W.SharedT) : ob5 s = hk5.obs s.abs := He.obsX_eq (HandSHeadRun.getT_eq s)
theorem run5 (w : World) : HandSHeadRun.RunEq R5 (PySem.W.view R5.prog [46]) hk5 ob5 6000 namesL w := by
  intro os
  kernel_rfl
end K5
namespace K5
open PySem PySem.Spec PyProof.Rows L2
theorem walk5 {q : Program} {loose : List Str} {XP : (Str → Option Value) → Heap → Prop} {d : DefRec} (hn : (PySem.Challenge.rw_truestandins_k09_texts_that_are_no_pacts).most = some 63) (hdf : d.params.defaults = []) (hname : d.name = ("law" : Str)) :
    PySem.W.WalkO q loose XP hk5.says (PySem.W.OpenLaw.row PySem.Challenge.rw_truestandins_k09_texts_that_are_no_pacts).toRowW d [] (fun f vs => PySem.call f vs) := by
  refine Att.attach_callB hn hdf fun w s₀ st mg mb fa o pm cd doc a us ns G Y ho hd hcd hmg arg whole len bits gens => ?_
  obtain ⟨K, KX, c⟩ := Y
  rw [hname] at hmg
  have mem1 : (("read_state", none) : He.Defn) ∈ tfL := List.mem_cons_self
  have mem2 : (("read_outcomes", none) : He.Defn) ∈ tfL := List.mem_cons_of_mem _ (List.mem_singleton.mpr rfl)
  have all2 : ∀ p ∈ [He.cT K ("read_state", none), He.cT K ("read_outcomes", none)], ∃ d ∈ tfL, p = He.cT K d := fun p hp => by
    rcases List.mem_cons.mp hp with e | hp
    · exact ⟨_, mem1, e⟩
    · exact ⟨_, mem2, List.mem_singleton.mp hp⟩
  have pne : (He.cT K ("read_state", none)).2 ≠ (He.cT K ("read_outcomes", none)).2 := of_decide_eq_true (all_at c.more 11 rfl)
  obtain ⟨fd, hb, hF⟩ := all_mk (P := (PySem.Challenge.rw_truestandins_k09_texts_that_are_no_pacts).prog) (w := w) KX G.T.g hmg c.t.d c.more
  refine law_G (cs := [He.cT K ("read_state", none), He.cT K ("read_outcomes", none)]) (x := "_law_script") (lv := 15) KX G.T.g G.T.b G.T.builtins G.T.nolimit gens (fun p hp => ?_) (fun p hp => ?_) (fun p hp => ?_) G.T.bmain arg whole (Nat.le_trans len (by decide)) ⟨rfl, by decide, by decide⟩ (fun base XB GB TB => hF base XB GB (TB _ List.mem_cons_self) (TB _ (List.mem_cons_of_mem _ (List.mem_singleton.mpr rfl)))) hb (fun H hH hS => ?_) fun H e s2 z => ?_
  · obtain ⟨d, m, rfl⟩ := all2 p hp
    exact c.empty _ m
  · obtain ⟨d, m, rfl⟩ := all2 p hp
    exact c.out _ m
  · obtain ⟨d, m, rfl⟩ := all2 p hp
    exact PySem.W.codeHd_of_K KX (c.hd _ m)
  · have hT1 := hH _ List.mem_cons_self
    have hT2 := hH _ (List.mem_cons_of_mem _ (List.mem_singleton.mpr rfl))
    have ne : ∀ T : Addr, H T = some (.tbl #[]) → K.lookup T = none → a ≠ T := fun T hT out e => by
      rw [e] at hS
      rcases hS with (h | ⟨u, h⟩) | ⟨u, its, m, lk, _⟩
      · rw [hT] at h
        cases h
      · rw [hT] at h
        cases h
      · rw [out] at lk
        cases lk
    exact ⟨a, ns, rfl, hS, ⟨⟨#[], hT1, trivial⟩, ⟨#[], hT2, trivial⟩⟩, pne, ne _ hT1 (c.out _ mem1), ne _ hT2 (c.out _ mem2), fun _ => rfl⟩
  · obtain ⟨_, _, _, _, _, _, _, _, _, _, _, _, z⟩ := z
    exact z.elim
end K5
open PySem PySem.W PySem.Calls PyProof.Rows
theorem PySem.Challenge.cw_truestandins_k09_texts_that_are_no_pacts_holds : PySem.Challenge.rw_truestandins_k09_texts_that_are_no_pacts.Holds := by
  w_on; o_law
  refine HandSHeadRun.head_any (r := K5.R5) (q := view K5.R5.prog [46]) (H := K5.hk5) (ob := K5.ob5) (M := 6000) (loose := K5.namesL) (d := HandSHeadRun.topDef K5.R5.prog 46) (kwd := []) K5.ob5_eq
    (by kernel_rfl) (fun s => by kernel_rfl) K5.run5 (by kernel_rfl) (by kernel_rfl) (by kernel_rfl) (by rfl) (by first | assumption | decide +kernel) (by decide +kernel) ⟨rfl, rfl, rfl, rfl, rfl, by decide +kernel⟩ ?hw ?hc
  case hw => w_witness2
  case hc => exact K5.walk5 rfl (by kernel_rfl) (by kernel_rfl)
