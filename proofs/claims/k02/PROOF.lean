import PyProof.Rows.All
import Wide.All
import OpenK.AllK
import Wide.FinOn
import KE.KStateDown
import HandS.ForMost
import HandS.TupAny
import HandS.TupMul
import HandS.IsInst
import HandS.Wide
import HandS.Flow
import HandS.Conv
import HandS.Lambda
import HandS.HeadHook4
import HandS.Defaults
import KE.GoesMore
import KE.GoesEnum
import HandS.Deep
import HandS.Style
import HandS.RaiseMore
import KE.KDictZip
import HandS.SetFor
import HandS.Zip
import HandS.TupLe
import HandS.SetBool
import HandS.Strs
import HandS.Sort
import PyProof.AutoSeq1
import HandS.Dict
import HandS.DictComp
import HandS.ExcCtx
import HandS.ExcField
import KE.KExcInit
import PyProof.ExcBaseAll.OverflowError
import PyProof.ExcBaseAll.IndexError
import HandS.ExcOwn
import HandS.TryMany
import Lean
import HandS.Words
import HandS.WordsExc
import HandS.Head0
import HandS.Head1
import HandS.Head2
import HandS.HeadEnd
import HandS.HeadHook1
import HandS.HeadHook2
import HandS.HeadWalk
import PySem.Challenge.RW_oncework_k02_whole_terms_made_of_terms
set_option Elab.async false
set_option linter.all false
set_option maxRecDepth 100000
set_option maxHeartbeats 8000000
set_option hygiene false in
local macro_rules | `(tactic| sleep 90000) => `(tactic| simp only [wSeq, rIsB, wExt2, seqOf, wYes, rInA, rNotInA, wRevT, cRepr, wPar3, wAppPop, wAppPopAt, wLstR1, wLstR2, wcZip, wcSeq, wcR1, wcR2, wcEnum, wfEnum, wfZip, wfEzip, itemsD, wSet, wOp, wVar, wC, wUn, wChain, wAnd, wOr, wNot, wB, wAndT, wOrT, wNotT, wIf, wIfS, wRet, wDrop, wTup, wLst, wEmp, wSl, woNone, woSome, wCB, waNil, waCons, wgName, wgNil, wgCons, wgTup, wAug, wPar, wAsgG, wApp, wExt, wPop, wSetI, wNever, rd, rds, cl, cls, sv, ret, toS, items, rII, rIIC, rPlus, rMinus, rAddI, rTimes, rFdivW, rMod, rPowW, rNeg, rLt, rLe, rGt, rGe, rEqq, rNeq, rIsN, rNotN, rIxD, rSlD, cLen, cTuple, cList, cII, cMin, cMax, cAbs, cInt, List.getElem?_cons_zero, List.getElem?_cons_succ, List.set_cons_zero, List.set_cons_succ, List.replicate, List.cons_append, List.nil_append, Option.some.injEq, Option.map_some, exists_eq_left', exists_eq_left, exists_and_left, exists_const, ite_true, ite_false, if_true, if_false, reduceCtorEq, decide_eq_true_eq, Bool.not_eq_true', Bool.not_eq_true, Bool.false_eq_true, Bool.true_eq_false, false_and, and_false, exists_false, not_true_eq_false, not_false_eq_true, Bool.not_true, Bool.not_false, DV.c.injEq, D.int.injEq, D.bl.injEq, D.tup.injEq, D.lst.injEq, DV.f.injEq, S.val.injEq, S.own.injEq, List.cons.injEq, and_true, true_and, okD_int, okD_bl, eqD_int, eqD_bl, Prod.mk.injEq, and_assoc])
set_option hygiene false in
local macro_rules | `(tactic| sleep 90001) => `(tactic| simp only [wSeq, wParN, svs, setAll, wFrz, wCallL, toL, wRetT, frzs, wSetCallZ, wDict1, wNotD, wPutD, wRetD, wIxDct, wAugL, noD, wcEzip, cMaxL, wTr, trD, rIsB, wExt2, seqOf, wYes, rInA, rNotInA, wRevT, cRepr, wPar3, wAppPop, wAppPopAt, wLstR1, wLstR2, wcZip, wcSeq, wcR1, wcR2, wcEnum, wfEnum, wfZip, wfEzip, itemsD, wSet, wOp, wVar, wC, wUn, wChain, wAnd, wOr, wNot, wB, wAndT, wOrT, wNotT, wIf, wIfS, wRet, wDrop, wTup, wLst, wEmp, wSl, woNone, woSome, wCB, waNil, waCons, wgName, wgNil, wgCons, wgTup, wAug, wPar, wAsgG, wApp, wExt, wPop, wSetI, wNever, rd, rds, cl, cls, sv, ret, toS, items, rII, rIIC, rPlus, rMinus, rAddI, rTimes, rFdivW, rMod, rPowW, rNeg, rLt, rLe, rGt, rGe, rEqq, rNeq, rIsN, rNotN, rIxD, rSlD, cLen, cTuple, cList, cII, cMin, cMax, cAbs, cInt, List.getElem?_cons_zero, List.getElem?_cons_succ, List.set_cons_zero, List.set_cons_succ, List.replicate, List.cons_append, List.nil_append, Option.some.injEq, Option.map_some, exists_eq_left', exists_eq_left, exists_and_left, exists_const, ite_true, ite_false, if_true, if_false, reduceCtorEq, decide_eq_true_eq, Bool.not_eq_true', Bool.not_eq_true, Bool.false_eq_true, Bool.true_eq_false, false_and, and_false, exists_false, not_true_eq_false, not_false_eq_true, Bool.not_true, Bool.not_false, DV.c.injEq, D.int.injEq, D.bl.injEq, D.tup.injEq, D.lst.injEq, DV.f.injEq, S.val.injEq, S.own.injEq, List.cons.injEq, and_true, true_and, okD_int, okD_bl, eqD_int, eqD_bl, Prod.mk.injEq, and_assoc])
set_option hygiene false in
local macro_rules | `(tactic| sleep 90002) => `(tactic| simp only [wCall, wCallX, wTold, wRaise, wCallF, wSeq, wParN, svs, setAll, wFrz, wCallL, toL, wRetT, frzs, wSetCallZ, wDict1, wNotD, wPutD, wRetD, wIxDct, wAugL, noD, wcEzip, cMaxL, wTr, trD, rIsB, wExt2, seqOf, wYes, rInA, rNotInA, wRevT, cRepr, wPar3, wAppPop, wAppPopAt, wLstR1, wLstR2, wcZip, wcSeq, wcR1, wcR2, wcEnum, wfEnum, wfZip, wfEzip, itemsD, wSet, wOp, wVar, wC, wUn, wChain, wAnd, wOr, wNot, wB, wAndT, wOrT, wNotT, wIf, wIfS, wRet, wDrop, wTup, wLst, wEmp, wSl, woNone, woSome, wCB, waNil, waCons, wgName, wgNil, wgCons, wgTup, wAug, wPar, wAsgG, wApp, wExt, wPop, wSetI, wNever, rd, rds, cl, cls, sv, ret, toS, items, rII, rIIC, rPlus, rMinus, rAddI, rTimes, rFdivW, rMod, rPowW, rNeg, rLt, rLe, rGt, rGe, rEqq, rNeq, rIsN, rNotN, rIxD, rSlD, cLen, cTuple, cList, cII, cMin, cMax, cAbs, cInt, List.getElem?_cons_zero, List.getElem?_cons_succ, List.set_cons_zero, List.set_cons_succ, List.replicate, List.cons_append, List.nil_append, Option.some.injEq, Option.map_some, exists_eq_left', exists_eq_left, exists_and_left, exists_const, ite_true, ite_false, if_true, if_false, reduceCtorEq, decide_eq_true_eq, Bool.not_eq_true', Bool.not_eq_true, Bool.false_eq_true, Bool.true_eq_false, false_and, and_false, exists_false, not_true_eq_false, not_false_eq_true, Bool.not_true, Bool.not_false, DV.c.injEq, D.int.injEq, D.bl.injEq, D.tup.injEq, D.lst.injEq, DV.f.injEq, S.val.injEq, S.own.injEq, List.cons.injEq, and_true, true_and, okD_int, okD_bl, eqD_int, eqD_bl, Prod.mk.injEq, and_assoc])
set_option hygiene false in
local macro_rules | `(tactic| sleep 90003) => `(tactic| simp only [wSeq, wSet, wOp, wVar, wC, wUn, wChain, wAnd, wOr, wNot, wB, wAndT, wOrT, wNotT, wIf, wIfS, wRet, wDrop, wTup, wLst, wEmp, wSl, woNone, woSome, wCB, waNil, waCons, wgName, wgNil, wgCons, wgTup, wAug, wPar, wAsgG, wApp, wExt, wPop, wSetI, wNever, rd, rds, cl, cls, sv, ret, toS, items, rII, rIIC, rPlus, rMinus, rAddI, rTimes, rFdivW, rMod, rPowW, rNeg, rLt, rLe, rGt, rGe, rEqq, rNeq, rIsN, rNotN, rIxD, rSlD, cLen, cTuple, cList, cII, cMin, cMax, cAbs, cInt, List.getElem?_cons_zero, List.getElem?_cons_succ, List.set_cons_zero, List.set_cons_succ, List.replicate, List.cons_append, List.nil_append, Option.some.injEq, Option.map_some, exists_eq_left', exists_eq_left, exists_and_left, exists_const, ite_true, ite_false, if_true, if_false, reduceCtorEq, decide_eq_true_eq, Bool.not_eq_true', Bool.not_eq_true, Bool.false_eq_true, Bool.true_eq_false, false_and, and_false, exists_false, not_true_eq_false, not_false_eq_true, Bool.not_true, Bool.not_false, DV.c.injEq, D.int.injEq, D.bl.injEq, D.tup.injEq, D.lst.injEq, DV.f.injEq, S.val.injEq, S.own.injEq, List.cons.injEq, and_true, true_and, okD_int, okD_bl, eqD_int, eqD_bl, Prod.mk.injEq, and_assoc])
/-! Dl: programs over plain data: a second layer over the readings, in which the heap is no more seen. -/
namespace Dl
open PySem PySem.Spec PyProof.Rows L2

inductive D where
  | non | bl (b : Bool) | int (i : Int) | str (x : Str) | lst (ds : List D) | tup (ds : List D) | frl (ds : List D) | emp | ty (n : String) | rng (lo hi : Int) | dct (ks : List Int) (ds : List D)
/-- the pairs of a dict -/
def mkD (ks : List Int) (xs : List V) : List (L2.Key × V) := List.zipWith (fun k x => (Sum.inl k, x)) ks xs

mutual
def Rep (K : PySem.W.Frag) (B : Hp) : D → V → Prop
  | .non, v => v = .non
  | .bl b, v => v = .bl b
  | .int i, v => v = .int i
  | .str x, v => v = .str x
  | .lst ds, v => ∃ a xs, v = .ref a ∧ B a = some (.lst xs) ∧ Reps K B ds xs
  | .tup ds, v => ∃ a xs, v = .ref a ∧ SqT K B a xs ∧ Reps K B ds xs
  | .frl ds, v => ∃ a xs, v = .ref a ∧ SqL K B a xs ∧ Reps K B ds xs
  | .emp, v => ∃ a, v = .ref a ∧ B a = some (.dK [])
  | .ty n, v => v = .ty n
  | .rng lo hi, v => ∃ a, v = .ref a ∧ B a = some (.rng lo hi)
  | .dct ks ds, v => ∃ a xs, v = .ref a ∧ B a = some (.dK (mkD ks xs)) ∧ ks.length = ds.length ∧ Reps K B ds xs
def Reps (K : PySem.W.Frag) (B : Hp) : List D → List V → Prop
  | [], vs => vs = []
  | d :: ds, vs => ∃ x r, vs = x :: r ∧ Rep K B d x ∧ Reps K B ds r
end

theorem same_sqT {K : PySem.W.Frag} {H H' : Hp} {a : Addr} {xs : List V} (e : Same H H') (h : SqT K H a xs) : SqT K H' a xs := by
  rcases h with (h | ⟨o, h⟩) | h
  · exact .inl (.inl (e _ _ h))
  · exact .inl (.inr ⟨o, e _ _ h⟩)
  · exact .inr h

section
variable {K : PySem.W.Frag} {B B' H H' : Hp}
mutual
theorem Rep.mono (e : Same B B') : ∀ {d : D} {v : V}, Rep K B d v → Rep K B' d v
  | .non, _, h => by rw [Rep] at h ⊢; exact h
  | .bl _, _, h => by rw [Rep] at h ⊢; exact h
  | .int _, _, h => by rw [Rep] at h ⊢; exact h
  | .str _, _, h => by rw [Rep] at h ⊢; exact h
  | .ty _, _, h => by rw [Rep] at h ⊢; exact h
  | .rng _ _, _, h => by rw [Rep] at h ⊢; obtain ⟨a, r, h1⟩ := h; exact ⟨a, r, e _ _ h1⟩
  | .dct ks ds, _, h => by rw [Rep] at h ⊢; obtain ⟨a, xs, r, h1, hl, h2⟩ := h; exact ⟨a, xs, r, e _ _ h1, hl, Reps.mono e h2⟩
  | .lst ds, _, h => by rw [Rep] at h ⊢; obtain ⟨a, xs, r, h1, h2⟩ := h; exact ⟨a, xs, r, e _ _ h1, Reps.mono e h2⟩
  | .tup ds, _, h => by rw [Rep] at h ⊢; obtain ⟨a, xs, r, h1, h2⟩ := h; exact ⟨a, xs, r, same_sqT e h1, Reps.mono e h2⟩
  | .frl ds, _, h => by rw [Rep] at h ⊢; obtain ⟨a, xs, r, h1, h2⟩ := h; exact ⟨a, xs, r, e.seq h1, Reps.mono e h2⟩
  | .emp, _, h => by rw [Rep] at h ⊢; obtain ⟨a, r, h1⟩ := h; exact ⟨a, r, e _ _ h1⟩
theorem Reps.mono (e : Same B B') : ∀ {ds : List D} {vs : List V}, Reps K B ds vs → Reps K B' ds vs
  | [], _, h => by rw [Reps] at h ⊢; exact h
  | d :: ds, _, h => by rw [Reps] at h ⊢; obtain ⟨x, r, q, h1, h2⟩ := h; exact ⟨x, r, q, Rep.mono e h1, Reps.mono e h2⟩
end
theorem Reps.nil : Reps K B [] [] := by rw [Reps]
theorem Reps.cons {d ds x xs} (h : Rep K B d x) (r : Reps K B ds xs) : Reps K B (d :: ds) (x :: xs) := by rw [Reps]; exact ⟨x, xs, rfl, h, r⟩
theorem Reps.len : ∀ {ds : List D} {vs : List V}, Reps K B ds vs → vs.length = ds.length
  | [], _, h => by rw [Reps] at h; rw [h]; rfl
  | d :: ds, _, h => by rw [Reps] at h; obtain ⟨x, r, rfl, _, h2⟩ := h; simp [h2.len]
theorem Reps.get : ∀ {ds : List D} {vs : List V} {i : Nat} {d : D}, Reps K B ds vs → ds[i]? = some d → ∃ v, vs[i]? = some v ∧ Rep K B d v
  | [], _, _, _, _, e => by simp at e
  | d :: ds, _, 0, _, h, e => by
    rw [Reps] at h; obtain ⟨x, r, rfl, h1, _⟩ := h; simp at e; subst e; exact ⟨x, rfl, h1⟩
  | d :: ds, _, i + 1, d', h, e => by
    rw [Reps] at h; obtain ⟨x, r, rfl, _, h2⟩ := h
    obtain ⟨v, e1, e2⟩ := h2.get (i := i) (d := d') (by simpa using e)
    exact ⟨v, by simpa using e1, e2⟩
theorem Reps.get' : ∀ {ds : List D} {vs : List V} {i : Nat} {v : V}, Reps K B ds vs → vs[i]? = some v → ∃ d, ds[i]? = some d ∧ Rep K B d v := fun {ds vs i v} h e => by
  have hl := h.len
  have hi : i < ds.length := by rw [← hl]; exact (List.getElem?_eq_some_iff.mp e).1
  obtain ⟨w, e1, e2⟩ := h.get (i := i) (d := ds[i]) (by simp [hi])
  rw [e] at e1; cases e1
  exact ⟨_, by simp [hi], e2⟩
theorem Reps.append : ∀ {ds es : List D} {vs ws : List V}, Reps K B ds vs → Reps K B es ws → Reps K B (ds ++ es) (vs ++ ws)
  | [], _, _, _, h, k => by rw [Reps] at h; subst h; exact k
  | d :: ds, es, _, ws, h, k => by
    rw [Reps] at h; obtain ⟨x, r, rfl, h1, h2⟩ := h
    exact .cons h1 (h2.append k)
theorem Reps.take : ∀ {ds : List D} {vs : List V} (n : Nat), Reps K B ds vs → Reps K B (ds.take n) (vs.take n)
  | _, _, 0, _ => by simp [Reps.nil]
  | [], _, n + 1, h => by rw [Reps] at h; subst h; exact .nil
  | d :: ds, _, n + 1, h => by
    rw [Reps] at h; obtain ⟨x, r, rfl, h1, h2⟩ := h
    exact .cons h1 (h2.take n)
theorem Reps.drop : ∀ {ds : List D} {vs : List V} (n : Nat), Reps K B ds vs → Reps K B (ds.drop n) (vs.drop n)
  | _, _, 0, h => h
  | [], _, n + 1, h => by rw [Reps] at h; subst h; exact .nil
  | d :: ds, _, n + 1, h => by
    rw [Reps] at h; obtain ⟨x, r, rfl, h1, h2⟩ := h
    exact h2.drop n
theorem Reps.set : ∀ {ds : List D} {vs : List V} {d : D} {v : V} (i : Nat), Reps K B ds vs → Rep K B d v → Reps K B (ds.set i d) (vs.set i v)
  | [], _, _, _, _, h, _ => by rw [Reps] at h; subst h; exact .nil
  | _ :: ds, _, _, _, 0, h, k => by rw [Reps] at h; obtain ⟨x, r, rfl, h1, h2⟩ := h; exact .cons k h2
  | _ :: ds, _, _, _, i + 1, h, k => by rw [Reps] at h; obtain ⟨x, r, rfl, h1, h2⟩ := h; exact .cons h1 (h2.set i k)
theorem Reps.dropLast {ds : List D} {vs : List V} (h : Reps K B ds vs) : Reps K B ds.dropLast vs.dropLast := by
  rw [List.dropLast_eq_take, List.dropLast_eq_take, h.len]
  exact h.take _
theorem Reps.rep {ds : List D} {vs : List V} (h : Reps K B ds vs) : ∀ n, Reps K B (List.replicate n ds).flatten (List.replicate n vs).flatten
  | 0 => .nil
  | n + 1 => by
    rw [List.replicate_succ, List.replicate_succ, List.flatten_cons, List.flatten_cons]
    exact h.append (h.rep n)
theorem Reps.reverse : ∀ {ds : List D} {vs : List V}, Reps K B ds vs → Reps K B ds.reverse vs.reverse
  | [], _, h => by rw [Reps] at h; subst h; exact .nil
  | d :: ds, _, h => by
    rw [Reps] at h; obtain ⟨x, r, rfl, h1, h2⟩ := h
    rw [List.reverse_cons, List.reverse_cons]
    exact h2.reverse.append (.cons h1 .nil)
theorem reps_ints (ns : List Int) : Reps K B (ns.map .int) (ns.map V.int) := by
  induction ns with
  | nil => exact .nil
  | cons n ns ih => exact .cons (by rw [Rep]) ih
theorem reps_ints_eq : ∀ {ns : List Int} {vs : List V}, Reps K B (ns.map .int) vs → vs = ns.map V.int
  | [], _, h => by simpa [Reps] using h
  | n :: ns, _, h => by
    rw [List.map_cons, Reps] at h; obtain ⟨x, r, rfl, h1, h2⟩ := h
    rw [Rep] at h1; subst h1; rw [reps_ints_eq h2]; rfl
end

/-! ### heaps -/
/-- the dice's address; the tables of code objects, each with its name -/
structure JT where
  a : Option Addr
  T : List (Addr × Str)
def JT.to (J : JT) (a : Addr) : JT := ⟨some a, J.T⟩
/-- the dice at J, if there are some: a list of three ints, the first one not below 0 -/
structure Own (J : JT) (B H : Hp) : Prop where
  dc : ∀ a, J.a = some a → B a = none ∧ ∃ l m c : Int, 0 ≤ l ∧ H a = some (.lst [.int l, .int m, .int c])
  tb : LamX.Tabs J.T H
  nt : ∀ b ps, B b ≠ some (.tbl ps)
/-- no table of code objects -/
def NT (o : HO) : Prop := ∀ ps, o ≠ .tbl ps
/-- the names of the law's defs; the tables of their code objects, each with the name of its lambdas -/
def lawNm (x : Str) : Bool := decide (x.cps.toList.take 4 = [95, 108, 97, 119]) || decide (x.cps.toList = [108, 97, 119])
def lamNm (K : PySem.W.Frag) : List Str := match K.lookup mainGlobals with
  | some ⟨_, _, .dict es _, _⟩ => es.toList.filterMap fun e => match e.key with
    | .str x _ => if lawNm x && PySem.W.codeHdIn K (He.cT K (x, none)).1 (He.cT K (x, none)).2 then some x else none
    | _ => none
  | _ => []
def tabsK (K : PySem.W.Frag) : List (Addr × Str) := (lamNm K).map fun x => ((He.cT K (x, none)).2, x ++ ".<locals>." ++ "<lambda>")
def SameJ (K : PySem.W.Frag) (J : JT) (B H : Hp) : Prop := Same B H ∧ J.T = tabsK K
/-- all but the dice and the tables stands; the tables are tables still -/
structure KeptT (J : JT) (H H' : Hp) : Prop where
  hk : ∀ b o, J.a ≠ some b → NT o → H b = some o → H' b = some o
  tb : LamX.Tabs J.T H → LamX.Tabs J.T H'
/-- neither a table nor a code object -/
def Pl0 (o : HO) : Prop := NT o ∧ ∀ c q, o ≠ LamX.CodeO c q
theorem pl0_lst {xs : List V} : Pl0 (.lst xs) := ⟨fun _ z => (by cases z), fun _ _ z => (by unfold LamX.CodeO at z; cases z)⟩
theorem pl0_dK {xs : List (Key × V)} : Pl0 (.dK xs) := ⟨fun _ z => (by cases z), fun _ _ z => (by unfold LamX.CodeO at z; cases z)⟩
theorem tabs_put {H : Hp} {a : Addr} {o o' : HO} (hH : H a = some o) (h : Pl0 o) {T : List (Addr × Str)} (t : LamX.Tabs T H) : LamX.Tabs T (upd H a o') := fun p hp => by
  obtain ⟨ps, h1, h2, h3⟩ := t p hp
  refine ⟨ps, ?_, h2, fun pos cv hc => ?_⟩
  · rw [upd_ne (fun z => by rw [z, hH] at h1; exact h.1 ps (Option.some.inj h1))]; exact h1
  · obtain ⟨c, e1, e2⟩ := h3 pos cv hc
    exact ⟨c, e1, by rw [upd_ne (fun z => by rw [z, hH] at e2; exact h.2 _ _ (Option.some.inj e2))]; exact e2⟩
def Pl0' (o : HO) : Prop := ¬ Pl0 o
/-- tables and code objects that stand in both -/
theorem tabs_low {T : List (Addr × Str)} {H H' : Hp} (t : LamX.Tabs T H) (h : ∀ b o, H b = some o → Pl0' o → H' b = some o) : LamX.Tabs T H' := fun p hp => by
  obtain ⟨ps, h1, h2, h3⟩ := t p hp
  refine ⟨ps, h _ _ h1 fun z => z.1 ps rfl, h2, fun pos cv hc => ?_⟩
  obtain ⟨c, e1, e2⟩ := h3 pos cv hc
  exact ⟨c, e1, h _ _ e2 fun z => z.2 _ _ rfl⟩
theorem KeptT.refl {J : JT} {H : Hp} : KeptT J H H := ⟨fun _ _ _ _ e => e, fun t => t⟩
theorem KeptT.all {J : JT} {H H' : Hp} (h : ∀ b o, H b = some o → H' b = some o) : KeptT J H H' := ⟨fun b o _ _ e => h b o e, fun t => t.ext h⟩
theorem KeptT.trans {J : JT} {H H1 H2 : Hp} (a : KeptT J H H1) (b : KeptT J H1 H2) : KeptT J H H2 := ⟨fun c o n k e => b.hk c o n k (a.hk c o n k e), fun t => b.tb (a.tb t)⟩
/-- a thing that was not there at first is changed -/
theorem KeptT.put {J : JT} {H0 H : Hp} {a : Addr} {o o' : HO} (k : KeptT J H0 H) (n0 : H0 a = none) (hH : H a = some o) (h : Pl0 o) : KeptT J H0 (upd H a o') :=
  ⟨fun b x n nt e => by rw [upd_ne (fun z => by rw [z, n0] at e; cases e)]; exact k.hk b x n nt e, fun t => tabs_put hH h (k.tb t)⟩
structure Grow (J : JT) (B H B' H' : Hp) : Prop where
  bb : Same B B'
  bh : Same B' H'
  kp : KeptT J H H'
  ne : ∀ b, H b ≠ none → H' b ≠ none
  fr : ∀ b, H b ≠ none → B' b = B b
section
variable {J : JT} {B H B1 H1 B2 H2 : Hp} {p : Addr} {o : HO}
theorem Grow.hh (g : Grow J B H B1 H1) (b : Addr) (o : HO) (n : J.a ≠ some b) (e : H b = some o) (nt : NT o := by intro _ z; cases z) : H1 b = some o := g.kp.hk b o n nt e
theorem Grow.refl (h : Same B H) : Grow J B H B H := ⟨.refl _, h, .refl, fun _ e => e, fun _ _ => rfl⟩
theorem Grow.trans (a : Grow J B H B1 H1) (b : Grow J B1 H1 B2 H2) : Grow J B H B2 H2 :=
  ⟨a.bb.trans b.bb, b.bh, a.kp.trans b.kp, fun c e => b.ne c (a.ne c e), fun c e => (b.fr c (a.ne c e)).trans (a.fr c e)⟩
theorem upd_same_of (h : H p = none) : Same H (upd H p o) := fun b x e => by rw [upd_ne (ne_of_none e h)]; exact e
theorem same_upd2 (h : Same B H) (n : H p = none) : Same (upd B p o) (upd H p o) := fun b x e => by
  by_cases hb : b = p
  · subst hb; rw [upd_same] at e ⊢; exact e
  · rw [upd_ne hb] at e ⊢; exact h b x e
/-- a new object, known -/
theorem Grow.new (h : Same B H) (n : H p = none) : Grow J B H (upd B p o) (upd H p o) :=
  ⟨upd_same_of (h.free n), same_upd2 h n, .all (fun b x e => upd_same_of n b x e), fun b e => by
    by_cases hb : b = p
    · subst hb; rw [upd_same]; simp
    · rw [upd_ne hb]; exact e, fun b e => upd_ne (fun z => e (by rw [z]; exact n))⟩
/-- a new object of one's own -/
theorem Grow.fresh (h : Same B H) (n : H p = none) : Grow J B H B (upd H p o) :=
  ⟨.refl _, fun b x e => by rw [upd_ne (ne_of_none (h b x e) n)]; exact h b x e, .all (fun b x e => upd_same_of n b x e), fun b e => by
    by_cases hb : b = p
    · subst hb; rw [upd_same]; simp
    · rw [upd_ne hb]; exact e, fun _ _ => rfl⟩
theorem Own.new (w : Own J B H) (n : H p = none) (nt : NT o := by intro _ z; cases z) : Own J (upd B p o) (upd H p o) := ⟨fun a e => by
  obtain ⟨h1, l, m, c, h0, h2⟩ := w.dc a e
  have ne : a ≠ p := ne_of_none h2 n
  exact ⟨by rw [upd_ne ne]; exact h1, l, m, c, h0, by rw [upd_ne ne]; exact h2⟩, w.tb.ext fun b x e => by rw [upd_ne (ne_of_none e n)]; exact e, fun b ps => by
  by_cases hb : b = p
  · rw [hb, upd_same]; exact fun z => nt ps (Option.some.inj z)
  · rw [upd_ne hb]; exact w.nt b ps⟩
theorem Own.fresh (w : Own J B H) (n : H p = none) : Own J B (upd H p o) := ⟨fun a e => by
  obtain ⟨h1, l, m, c, h0, h2⟩ := w.dc a e
  have ne : a ≠ p := ne_of_none h2 n
  exact ⟨h1, l, m, c, h0, by rw [upd_ne ne]; exact h2⟩, w.tb.ext fun b x e => by rw [upd_ne (ne_of_none e n)]; exact e, w.nt⟩
theorem Own.no (w : Own J B H) (n : H p = none) : J.a ≠ some p := fun e => by
  obtain ⟨_, l, m, c, _, h2⟩ := w.dc p e
  rw [n] at h2; cases h2
/-- an object that stands and is no table, nor a code object, is changed: B may know it from now on -/
theorem Own.put (w : Own J B H) {o' : HO} {B' : Hp} (hH : H p = some o) (h : Pl0 o) (hB : ∀ b ps, B' b ≠ some (.tbl ps)) (dc : ∀ a, J.a = some a → B' a = none ∧ ∃ l m c : Int, 0 ≤ l ∧ upd H p o' a = some (.lst [.int l, .int m, .int c])) : Own J B' (upd H p o') := ⟨dc, tabs_put hH h w.tb, hB⟩
theorem Own.nt_upd (w : Own J B H) {o' : HO} (h : NT o' := by intro _ z; cases z) : ∀ b ps, upd B p o' b ≠ some (.tbl ps) := fun b ps => by
  by_cases hb : b = p
  · rw [hb, upd_same]; exact fun z => h ps (Option.some.inj z)
  · rw [upd_ne hb]; exact w.nt b ps
end

/-! ### slots and values -/
inductive S where
  | no | val (d : D) | own (ds : List D) | dice | ownd (ks : List Int) (ds : List D) | lent (ds : List D)
def RS (K : PySem.W.Frag) (J : JT) (H0 B H : Hp) : S → Option V → Prop
  | .no, _ => True
  | .val d, o => ∃ v, o = some v ∧ Rep K B d v
  | .own ds, o => ∃ a xs, o = some (.ref a) ∧ H0 a = none ∧ B a = none ∧ H a = some (.lst xs) ∧ Reps K B ds xs
  | .dice, o => ∃ a, o = some (.ref a) ∧ J.a = some a
  | .ownd ks ds, o => ∃ a xs, o = some (.ref a) ∧ H0 a = none ∧ B a = none ∧ H a = some (.dK (mkD ks xs)) ∧ ks.length = ds.length ∧ Reps K B ds xs
  | .lent ds, o => ∃ a xs, o = some (.ref a) ∧ J.a ≠ some a ∧ H0 a = some (.lst xs) ∧ B a = none ∧ Reps K B ds xs
structure Env (K : PySem.W.Frag) (J : JT) (B0 H0 B H : Hp) (σ : L2.St) (δ : List S) : Prop where
  gr : Grow J B0 H0 B H
  ow : Own J B H
  jl : (∀ a, J.a = some a → ∃ xs, H0 a = some (.lst xs)) ∧ J.T = tabsK K
  ln : δ.length = σ.length
  sl : ∀ (i : Nat) (s : S), δ[i]? = some s → RS K J H0 B H s ((σ[i]?).getD none)
  ap : ∀ (i j : Nat) (ds es : List D) (a : Addr), i ≠ j → δ[i]? = some (.own ds) → δ[j]? = some (.own es) → σ[i]? = some (some (.ref a)) → σ[j]? = some (some (.ref a)) → False

inductive DV where
  | c (d : D) | f (ds : List D) | o (i : Nat) | j
def RepV (K : PySem.W.Frag) (J : JT) (Hs B H : Hp) (σ : L2.St) (δ : List S) : DV → V → Prop
  | .c d, v => Rep K B d v
  | .f ds, v => ∃ a xs, v = .ref a ∧ Hs a = none ∧ B a = none ∧ H a = some (.lst xs) ∧ Reps K B ds xs
  | .o i, v => (∃ ds, δ[i]? = some (.own ds) ∨ δ[i]? = some (.lent ds)) ∧ σ[i]? = some (some v)
  | .j, v => ∃ a, J.a = some a ∧ v = .ref a
/-- the data that is read -/
def rd (δ : List S) : DV → Option D
  | .c d => some d
  | .f ds => some (.lst ds)
  | .o i => match δ[i]? with
    | some (.own ds) => some (.lst ds)
    | some (.lent ds) => some (.lst ds)
    | _ => none
  | .j => none
/-- .. that may be kept -/
def cl : DV → Option D
  | .c d => some d
  | .f ds => some (.lst ds)
  | _ => none
/-- d is read at v: known, or a list at H with known items -/
def RepT (K : PySem.W.Frag) (J : JT) (B H : Hp) (d : D) (v : V) : Prop :=
  Rep K B d v ∨ ∃ ds a xs, d = .lst ds ∧ v = .ref a ∧ J.a ≠ some a ∧ H a = some (.lst xs) ∧ Reps K B ds xs
section
variable {K : PySem.W.Frag} {J : JT} {B0 H0 B H B' H' Hs : Hp} {σ : L2.St} {δ : List S} {d : D} {v : V}
theorem RepT.step (g : Grow J B H B' H') (h : RepT K J B H d v) : RepT K J B' H' d v := by
  rcases h with h | ⟨ds, a, xs, rfl, rfl, n, h1, h2⟩
  · exact .inl (h.mono g.bb)
  · exact .inr ⟨ds, a, xs, rfl, rfl, n, g.hh a _ n h1, h2.mono g.bb⟩
theorem RepT.lst {ds : List D} (s : Same B H) (h : RepT K J B H (.lst ds) v) : ∃ a xs, v = .ref a ∧ H a = some (.lst xs) ∧ Reps K B ds xs := by
  rcases h with h | ⟨ds', a, xs, e, rfl, n, h1, h2⟩
  · rw [Rep] at h; obtain ⟨a, xs, rfl, h1, h2⟩ := h; exact ⟨a, xs, rfl, s _ _ h1, h2⟩
  · cases e; exact ⟨a, xs, rfl, h1, h2⟩
theorem RepT.rep (nl : ∀ ds, d ≠ .lst ds) (h : RepT K J B H d v) : Rep K B d v := by
  rcases h with h | ⟨ds', a, xs, e, _⟩
  · exact h
  · exact absurd e (nl _)
theorem RepT.tup {ds : List D} (s : Same B H) (h : RepT K J B H (.tup ds) v) : ∃ a xs, v = .ref a ∧ SqT K B a xs ∧ SqT K H a xs ∧ Reps K B ds xs := by
  have h := h.rep (fun _ => by simp)
  rw [Rep] at h; obtain ⟨a, xs, rfl, h1, h2⟩ := h; exact ⟨a, xs, rfl, h1, same_sqT s h1, h2⟩
theorem RepT.int {i : Int} (h : RepT K J B H (.int i) v) : v = .int i := by
  have h := h.rep (fun _ => by simp); rw [Rep] at h; exact h
theorem RepT.bl {b : Bool} (h : RepT K J B H (.bl b) v) : v = .bl b := by
  have h := h.rep (fun _ => by simp); rw [Rep] at h; exact h
theorem RepT.str {b : Str} (h : RepT K J B H (.str b) v) : v = .str b := by
  have h := h.rep (fun _ => by simp); rw [Rep] at h; exact h
theorem RepT.non (h : RepT K J B H .non v) : v = .non := by
  have h := h.rep (fun _ => by simp); rw [Rep] at h; exact h

theorem Env.jn (e : Env K J B0 H0 B H σ δ) (a : Addr) (z : J.a = some a) : H0 a ≠ none := by
  obtain ⟨xs, h⟩ := e.jl.1 a z
  rw [h]; simp
theorem Env.bh (e : Env K J B0 H0 B H σ δ) : Same B H := e.gr.bh
theorem Env.slot {i : Nat} {s : S} (e : Env K J B0 H0 B H σ δ) (h : δ[i]? = some s) : ∃ o, σ[i]? = some o ∧ RS K J H0 B H s o := by
  have hi : i < σ.length := by rw [← e.ln]; exact (List.getElem?_eq_some_iff.mp h).1
  have := e.sl i s h
  rw [List.getElem?_eq_getElem hi] at this
  exact ⟨σ[i], List.getElem?_eq_getElem hi, this⟩
theorem Env.ownJ {i : Nat} {ds : List D} (e : Env K J B0 H0 B H σ δ) (h : δ[i]? = some (.own ds)) : ∃ a xs, σ[i]? = some (some (.ref a)) ∧ H0 a = none ∧ B a = none ∧ H a = some (.lst xs) ∧ Reps K B ds xs ∧ J.a ≠ some a := by
  obtain ⟨o, e1, a, xs, rfl, n0, nB, hH, r⟩ := e.slot h
  exact ⟨a, xs, e1, n0, nB, hH, r, fun z => e.jn a z n0⟩
/-- a list that is lent: it does not change -/
theorem Env.lentJ {i : Nat} {ds : List D} (e : Env K J B0 H0 B H σ δ) (h : δ[i]? = some (.lent ds)) : ∃ a xs, σ[i]? = some (some (.ref a)) ∧ J.a ≠ some a ∧ B a = none ∧ H a = some (.lst xs) ∧ Reps K B ds xs ∧ H0 a = some (.lst xs) := by
  obtain ⟨o, e1, a, xs, rfl, nj, h0, nB, r⟩ := e.slot h
  exact ⟨a, xs, e1, nj, nB, e.gr.hh a _ nj h0, r, h0⟩
/-- behind an expression -/
theorem Env.step (e : Env K J B0 H0 B H σ δ) (g : Grow J B H B' H') (w : Own J B' H') : Env K J B0 H0 B' H' σ δ := by
  refine ⟨e.gr.trans g, w, e.jl, e.ln, fun i s h => ?_, e.ap⟩
  have q := e.sl i s h
  cases s with
  | no => trivial
  | val d => obtain ⟨v, e1, r⟩ := q; exact ⟨v, e1, r.mono g.bb⟩
  | dice => exact q
  | own ds =>
    obtain ⟨a, xs, e1, n0, nB, hH, r⟩ := q
    have nj : J.a ≠ some a := fun z => e.jn a z n0
    exact ⟨a, xs, e1, n0, by rw [g.fr a (by rw [hH]; simp)]; exact nB, g.hh a _ nj hH, r.mono g.bb⟩
  | ownd ks ds =>
    obtain ⟨a, xs, e1, n0, nB, hH, hl, r⟩ := q
    have nj : J.a ≠ some a := fun z => e.jn a z n0
    exact ⟨a, xs, e1, n0, by rw [g.fr a (by rw [hH]; simp)]; exact nB, g.hh a _ nj hH, hl, r.mono g.bb⟩
  | lent ds =>
    obtain ⟨a, xs, e1, nj, h0, nB, r⟩ := q
    exact ⟨a, xs, e1, nj, h0, by rw [g.fr a (by rw [e.gr.hh a _ nj h0]; simp)]; exact nB, r.mono g.bb⟩
/-- no dice are new -/
abbrev NoD (J : JT) (Hs : Hp) : Prop := ∀ a, J.a = some a → Hs a ≠ none
theorem Env.nod (e : Env K J B0 H0 B H σ δ) : NoD J H := fun a z => e.gr.ne a (e.jn a z)
/-- what is read -/
theorem RepV.toT {x : DV} (e : Env K J B0 H0 B H σ δ) (ws : NoD J Hs) (h : RepV K J Hs B H σ δ x v) (hr : rd δ x = some d) : RepT K J B H d v := by
  cases x with
  | c d' => cases hr; exact .inl h
  | f ds =>
    cases hr
    obtain ⟨a, xs, rfl, nS, nB, hH, r⟩ := h
    exact .inr ⟨ds, a, xs, rfl, rfl, fun z => ws a z nS, hH, r⟩
  | o i =>
    obtain ⟨⟨ds, hd | hd⟩, hs⟩ := h
    · have : d = .lst ds := by simp only [rd, hd] at hr; cases hr; rfl
      subst this
      obtain ⟨a, xs, e1, n0, nB, hH, r, nj⟩ := e.ownJ hd
      rw [hs] at e1; cases e1
      exact .inr ⟨ds, a, xs, rfl, rfl, nj, hH, r⟩
    · have : d = .lst ds := by simp only [rd, hd] at hr; cases hr; rfl
      subst this
      obtain ⟨a, xs, e1, nj, nB, hH, r, _⟩ := e.lentJ hd
      rw [hs] at e1; cases e1
      exact .inr ⟨ds, a, xs, rfl, rfl, nj, hH, r⟩
  | j => cases hr
theorem RepV.step {x : DV} (ws : NoD J Hs) (g : Grow J B H B' H') (h : RepV K J Hs B H σ δ x v) : RepV K J Hs B' H' σ δ x v := by
  cases x with
  | c d' => exact Rep.mono g.bb h
  | f ds =>
    obtain ⟨a, xs, rfl, nS, nB, hH, r⟩ := h
    exact ⟨a, xs, rfl, nS, by rw [g.fr a (by rw [hH]; simp)]; exact nB, g.hh a _ (fun z => ws a z nS) hH, r.mono g.bb⟩
  | o i => exact h
  | j => exact h
/-- what is kept is known from now on -/
theorem RepV.keep {x : DV} (ws : NoD J Hs) (g : Grow J B Hs B' H') (w : Own J B' H') (h : RepV K J Hs B' H' σ δ x v) (hc : cl x = some d) :
    ∃ B2, Grow J B Hs B2 H' ∧ Own J B2 H' ∧ Same B' B2 ∧ Rep K B2 d v ∧ ∀ b, (∀ ds, x = .f ds → v ≠ .ref b) → B2 b = B' b := by
  cases x with
  | c d' => cases hc; exact ⟨B', g, w, .refl _, h, fun _ _ => rfl⟩
  | f ds =>
    cases hc
    obtain ⟨a, xs, rfl, nS, nB, hH, r⟩ := h
    have sm : Same B' (upd B' a (.lst xs)) := upd_same_of nB
    refine ⟨upd B' a (.lst xs), ⟨g.bb.trans sm, fun b o e => ?_, g.kp, g.ne, fun b e => ?_⟩, ⟨fun b e => ?_, w.tb, w.nt_upd⟩, sm, ?_, fun b hb => ?_⟩
    · by_cases hb : b = a
      · subst hb; rw [upd_same] at e; cases e; exact hH
      · rw [upd_ne hb] at e; exact g.bh b o e
    · rw [upd_ne (fun z => e (by rw [z]; exact nS))]; exact g.fr b e
    · obtain ⟨h1, l, m, c, h0, h2⟩ := w.dc b e
      have hb : b ≠ a := fun z => ws b e (by rw [z]; exact nS)
      exact ⟨by rw [upd_ne hb]; exact h1, l, m, c, h0, h2⟩
    · rw [Rep]; exact ⟨a, xs, rfl, upd_same, r.mono sm⟩
    · exact upd_ne (fun z => hb ds rfl (by rw [z]))
  | o i => cases hc
  | j => cases hc
/-- several values: new lists among them are unlike -/
def RepVs (K : PySem.W.Frag) (J : JT) (Hs B H : Hp) (σ : L2.St) (δ : List S) : List DV → List V → Prop
  | [], vs => vs = []
  | x :: xs, vs => ∃ v r, vs = v :: r ∧ RepV K J Hs B H σ δ x v ∧ RepVs K J Hs B H σ δ xs r ∧ ∀ ds, x = .f ds → ∀ (j : Nat) es, xs[j]? = some (.f es) → r[j]? ≠ some v
theorem RepVs.at {xs : List DV} : ∀ {vs : List V} {j : Nat} {x : DV}, RepVs K J Hs B H σ δ xs vs → xs[j]? = some x → ∃ v, vs[j]? = some v ∧ RepV K J Hs B H σ δ x v := by
  induction xs with
  | nil => intro vs j x _ e; simp at e
  | cons y ys ih =>
    intro vs j x h e
    obtain ⟨v, r, rfl, h1, h2, _⟩ := h
    cases j with
    | zero => simp at e; subst e; exact ⟨v, rfl, h1⟩
    | succ j => obtain ⟨u, e1, e2⟩ := ih h2 (j := j) (x := x) (by simpa using e); exact ⟨u, by simpa using e1, e2⟩
/-- seen from an earlier heap -/
theorem RepVs.back {xs : List DV} (hs : ∀ b, Hs b ≠ none → H' b ≠ none) : ∀ {vs : List V}, RepVs K J H' B H σ δ xs vs → RepVs K J Hs B H σ δ xs vs := by
  induction xs with
  | nil => intro vs h; exact h
  | cons y ys ih =>
    intro vs h
    obtain ⟨v, r, rfl, h1, h2, h3⟩ := h
    refine ⟨v, r, rfl, ?_, ih h2, h3⟩
    cases y with
    | f ds =>
      obtain ⟨a, xs, rfl, nS, q⟩ := h1
      refine ⟨a, xs, rfl, ?_, q⟩
      exact Classical.byContradiction fun z => hs a z nS
    | c d => exact h1
    | o i => exact h1
    | j => exact h1
def cls : List DV → Option (List D)
  | [] => some []
  | x :: xs => match cl x, cls xs with
    | some d, some ds => some (d :: ds)
    | _, _ => none
def rds (δ : List S) : List DV → Option (List D)
  | [] => some []
  | x :: xs => match rd δ x, rds δ xs with
    | some d, some ds => some (d :: ds)
    | _, _ => none
theorem RepVs.keep {xs : List DV} (ws : NoD J Hs) : ∀ {vs : List V} {ds : List D}, Grow J B Hs B' H' → Own J B' H' → RepVs K J Hs B' H' σ δ xs vs → cls xs = some ds →
    ∃ B2, Grow J B Hs B2 H' ∧ Own J B2 H' ∧ Same B' B2 ∧ Reps K B2 ds vs ∧ ∀ b, (∀ (j : Nat) es, xs[j]? = some (.f es) → vs[j]? ≠ some (.ref b)) → B2 b = B' b := by
  induction xs with
  | nil => intro vs ds g w h e; cases e; cases (show vs = [] from h); exact ⟨B', g, w, .refl _, .nil, fun _ _ => rfl⟩
  | cons x xs ih =>
    intro vs ds g w h e
    obtain ⟨v, r, rfl, h1, h2, h3⟩ := h
    unfold cls at e
    cases hx : cl x with
    | none => rw [hx] at e; cases e
    | some d =>
      cases hxs : cls xs with
      | none => rw [hx, hxs] at e; cases e
      | some ds' =>
        rw [hx, hxs] at e; cases e
        obtain ⟨B2, g2, w2, s2, r2, f2⟩ := ih g w h2 hxs
        have h1' : RepV K J Hs B2 H' σ δ x v := by
          cases x with
          | c d' => exact Rep.mono s2 h1
          | f es =>
            obtain ⟨a, ys, rfl, nS, nB, hH, q⟩ := h1
            exact ⟨a, ys, rfl, nS, by rw [f2 a fun j es' e1 e2 => h3 _ rfl j es' e1 e2]; exact nB, hH, q.mono s2⟩
          | o i => exact h1
          | j => exact h1
        obtain ⟨B3, g3, w3, s3, r3, f3⟩ := h1'.keep ws g2 w2 hx
        refine ⟨B3, g3, w3, s2.trans s3, .cons r3 (r2.mono s3), fun b hb => ?_⟩
        rw [f3 b fun es e1 e2 => hb 0 es (by simp [e1]) (by simp [e2]), f2 b fun j es e1 e2 => hb (j + 1) es (by simpa using e1) (by simpa using e2)]
/-- several values read -/
def RepTs (K : PySem.W.Frag) (J : JT) (B H : Hp) : List D → List V → Prop
  | [], vs => vs = []
  | d :: ds, vs => ∃ v r, vs = v :: r ∧ RepT K J B H d v ∧ RepTs K J B H ds r
theorem RepVs.toT {xs : List DV} (e : Env K J B0 H0 B H σ δ) (ws : NoD J Hs) : ∀ {vs : List V} {ds : List D}, RepVs K J Hs B H σ δ xs vs → rds δ xs = some ds → RepTs K J B H ds vs := by
  induction xs with
  | nil => intro vs ds h q; cases q; exact h
  | cons x xs ih =>
    intro vs ds h q
    obtain ⟨v, r, rfl, h1, h2, _⟩ := h
    unfold rds at q
    cases hx : rd δ x with
    | none => rw [hx] at q; cases q
    | some d =>
      cases hxs : rds δ xs with
      | none => rw [hx, hxs] at q; cases q
      | some ds' =>
        rw [hx, hxs] at q; cases q
        exact ⟨v, r, rfl, h1.toT e ws hx, ih h2 hxs⟩
end
end Dl
namespace Dl
open PySem PySem.Spec PyProof.Rows L2

/-! ### the judgements over data -/
abbrev DE := List S → (DV → Prop) → Prop
abbrev DT := List S → (Bool → Prop) → Prop
abbrev DA := List S → (List DV → Prop) → Prop
structure DEnds where
  nx : List S → Prop
  rt : List S → DV → Prop
  bk : List S → Prop := fun _ => False
  ct : List S → Prop := fun _ => False
abbrev DS := DEnds → List S → Prop

def EvE (K : PySem.W.Frag) (te : TE) (w : DE) : Prop := ∀ ⦃J : JT⦄ ⦃B0 H0 B H : Hp⦄ ⦃σ : L2.St⦄ ⦃δ : List S⦄, Env K J B0 H0 B H σ δ → ∀ k : DV → Prop, w δ k → ∀ Q : VK,
  (∀ x v B' H', k x → Grow J B H B' H' → Own J B' H' → RepV K J H B' H' σ δ x v → Q v H') → te σ H Q
def EvT (K : PySem.W.Frag) (tt : TT) (w : DT) : Prop := ∀ ⦃J : JT⦄ ⦃B0 H0 B H : Hp⦄ ⦃σ : L2.St⦄ ⦃δ : List S⦄, Env K J B0 H0 B H σ δ → ∀ k : Bool → Prop, w δ k → ∀ Q : Bool → Hp → Prop,
  (∀ b B' H', k b → Grow J B H B' H' → Own J B' H' → Q b H') → tt σ H Q
def EvA (K : PySem.W.Frag) (ta : TA) (w : DA) : Prop := ∀ ⦃J : JT⦄ ⦃B0 H0 B H : Hp⦄ ⦃σ : L2.St⦄ ⦃δ : List S⦄, Env K J B0 H0 B H σ δ → ∀ k : List DV → Prop, w δ k → ∀ Q : List V → Hp → Prop,
  (∀ xs vs B' H', k xs → Grow J B H B' H' → Own J B' H' → RepVs K J H B' H' σ δ xs vs → Q vs H') → ta σ H Q
structure Fits (K : PySem.W.Frag) (J : JT) (B0 H0 : Hp) (R : DEnds) (En : Ends) : Prop where
  nx : ∀ {B H : Hp} {σ : L2.St} {δ : List S}, R.nx δ → Env K J B0 H0 B H σ δ → En.nx σ H
  rt : ∀ {d : DV} {v : V} {B H : Hp} {σ : L2.St} {δ : List S}, R.rt δ d → Env K J B0 H0 B H σ δ → RepV K J H0 B H [] [] d v → En.rt v H
  bk : ∀ {B H : Hp} {σ : L2.St} {δ : List S}, R.bk δ → Env K J B0 H0 B H σ δ → En.bk σ H
  ct : ∀ {B H : Hp} {σ : L2.St} {δ : List S}, R.ct δ → Env K J B0 H0 B H σ δ → En.ct σ H
def EvS (K : PySem.W.Frag) (t : TS) (w : DS) : Prop := ∀ ⦃J : JT⦄ ⦃B0 H0 B H : Hp⦄ ⦃σ : L2.St⦄ ⦃δ : List S⦄, Env K J B0 H0 B H σ δ → ∀ R : DEnds, w R δ → ∀ En : Ends, Fits K J B0 H0 R En → t En σ H

structure De (X : Cx) (e : Expr) (w : DE) : Prop where
  ex : ∃ t, PE X e t ∧ EvE X.K t w
structure Dt (X : Cx) (e : Expr) (w : DT) : Prop where
  ex : ∃ t, PT X e t ∧ EvT X.K t w
structure Dw (X : Cx) (e : Expr) (w : DT) : Prop where
  ex : ∃ t, PW X e t ∧ EvT X.K t w
structure Da (X : Cx) (es : List Expr) (w : DA) : Prop where
  ex : ∃ t, PA X es t ∧ EvA X.K t w
structure Ds (X : Cx) (st : Stmt) (w : DS) : Prop where
  ex : ∃ t, PS X st t ∧ EvS X.K t w
structure Dss (X : Cx) (sts : List Stmt) (w : DS) : Prop where
  ex : ∃ t, PSs X sts t ∧ EvS X.K t w

section
variable {X : Cx} {e a b c : Expr} {pos : Pos}

/-! ### names and constants -/
def wVar (i : Nat) : DE := fun δ k => match δ[i]? with
  | some (.val d) => k (.c d)
  | some (.own _) => k (.o i)
  | some (.lent _) => k (.o i)
  | some .dice => k .j
  | _ => False
theorem ev_var {K : PySem.W.Frag} (i : Nat) : EvE K (tVar i) (wVar i) := by
  intro J B0 H0 B H σ δ e k h Q q
  unfold wVar at h
  cases hs : δ[i]? with
  | none => rw [hs] at h; exact h.elim
  | some s =>
    rw [hs] at h
    obtain ⟨o, e1, r⟩ := e.slot hs
    cases s with
    | no => exact h.elim
    | ownd ks ds => exact h.elim
    | val d =>
      obtain ⟨v, rfl, r⟩ := r
      exact ⟨v, e1, q (.c d) v B H h (.refl e.bh) e.ow r⟩
    | own ds =>
      obtain ⟨a, xs, rfl, _⟩ := r
      exact ⟨_, e1, q (.o i) _ B H h (.refl e.bh) e.ow ⟨⟨ds, .inl hs⟩, e1⟩⟩
    | lent ds =>
      obtain ⟨a, xs, rfl, _⟩ := r
      exact ⟨_, e1, q (.o i) _ B H h (.refl e.bh) e.ow ⟨⟨ds, .inr hs⟩, e1⟩⟩
    | dice =>
      obtain ⟨a, rfl, hj⟩ := r
      exact ⟨_, e1, q .j _ B H h (.refl e.bh) e.ow ⟨a, hj, rfl⟩⟩
theorem de_var (i : Nat) {x : Str} {pos : Pos} (hN : X.N[i]? = some x := by rfl) (hv : Vis X.env.scope x := by first | exact Or.inl rfl | exact Or.inr (Or.inl rfl) | exact Or.inr (Or.inr rfl)) (hd : (x == ("__debug__" : Str)) = false := by decide)
    (hcd : (x == ("__classdict__" : Str)) = false := by decide) : De X (.Name x pos) (wVar i) := ⟨_, pv i hN hv hd hcd, ev_var i⟩
def wC (d : D) : DE := fun _ k => k (.c d)
theorem ev_c {K : PySem.W.Frag} {v : V} {d : D} (r : ∀ B : Hp, Rep K B d v) : EvE K (tC v) (wC d) := by
  intro J B0 H0 B H σ δ e k h Q q
  exact q (.c d) v B H h (.refl e.bh) e.ow (r B)
theorem de_int {i j pos} : De X (.Constant (.int i) j pos) (wC (.int i)) := ⟨_, pe_int, ev_c fun _ => by rw [Rep]⟩
theorem de_bl {b j pos} : De X (.Constant (.bool b) j pos) (wC (.bl b)) := ⟨_, pe_bl, ev_c fun _ => by rw [Rep]⟩
theorem de_non {j pos} : De X (.Constant .none j pos) (wC .non) := ⟨_, pe_non, ev_c fun _ => by rw [Rep]⟩
theorem de_str {x j pos} : De X (.Constant (.str x) j pos) (wC (.str x)) := ⟨_, pe_str, ev_c fun _ => by rw [Rep]⟩
theorem de_glob {x : Str} {pos : Pos} {u : Value} {i : Int} (hg : Gl X x) (hm : X.mg x = some u) (r : RelV (.int i) u) (hd : (x == ("__debug__" : Str)) = false := by decide) : De X (.Name x pos) (wC (.int i)) := ⟨_, pe_glob hg hm r hd, ev_c fun _ => by rw [Rep]⟩
theorem de_ty {x : Str} {pos : Pos} {n : String} (hg : Gl X x) (hm : X.mg x = none) (hv : bootBuiltins x = some (.type n)) (hn : x ≠ "__name__" := by decide) (hd : (x == ("__debug__" : Str)) = false := by decide) : De X (.Name x pos) (wC (.ty n)) := ⟨_, pe_bltn (v := .ty n) hg hm hv rfl hn hd, ev_c fun _ => by rw [Rep]⟩

/-! ### operators by values -/
/-- results: d and e read, then what comes -/
abbrev R2D := D → D → (DV → Prop) → Prop
def DOp (K : PySem.W.Frag) (ρ : R2) (r : R2D) : Prop := ∀ ⦃J : JT⦄ ⦃B H : Hp⦄ ⦃d e : D⦄ ⦃k : DV → Prop⦄ ⦃x y : V⦄ ⦃Q : VK⦄, r d e k → Same B H → Own J B H → RepT K J B H d x → RepT K J B H e y →
  (∀ z v B' H', k z → Grow J B H B' H' → Own J B' H' → (∀ σ δ, RepV K J H B' H' σ δ z v) → Q v H') → ρ x y H Q
def wOp (r : R2D) (wa wb : DE) : DE := fun δ k => wa δ fun x => wb δ fun y => ∃ d e, rd δ x = some d ∧ rd δ y = some e ∧ r d e k
/-- what is new from a later heap is new from an earlier one -/
theorem RepV.back {K : PySem.W.Frag} {J : JT} {Hs H1 B H : Hp} {σ : L2.St} {δ : List S} {x : DV} {v : V} (hs : ∀ b, Hs b ≠ none → H1 b ≠ none) (h : RepV K J H1 B H σ δ x v) : RepV K J Hs B H σ δ x v := by
  cases x with
  | f ds => obtain ⟨a, xs, rfl, nS, q⟩ := h; exact ⟨a, xs, rfl, Classical.byContradiction fun z => hs a z nS, q⟩
  | c d => exact h
  | o i => exact h
  | j => exact h
theorem ev_op {K : PySem.W.Frag} {ta tb : TE} {wa wb : DE} {ρ : R2} {r : R2D} (ho : DOp K ρ r) (ha : EvE K ta wa) (hb : EvE K tb wb) : EvE K (tOp ρ ta tb) (wOp r wa wb) := by
  intro J B0 H0 B H σ δ e k h Q q
  refine ha e _ h _ fun x v B1 H1 h1 g1 w1 r1 => ?_
  have e1 := e.step g1 w1
  refine hb e1 _ h1 _ fun y u B2 H2 h2 g2 w2 r2 => ?_
  have e2 := e1.step g2 w2
  obtain ⟨d, d', rx, ry, h2⟩ := h2
  have t1 := (r1.toT e1 e.nod rx).step g2
  have t2 := r2.toT e2 e1.nod ry
  exact ho h2 e2.bh w2 t1 t2 fun z v' B' H' kz g w r => q z v' B' H' kz ((g1.trans g2).trans g) w ((r σ δ).back fun b hb => g2.ne b (g1.ne b hb))
theorem de_op {op : Operator} {ρ : R2} {r : R2D} {wa wb : DE} (ho : OpR X (binaryOp op) ρ) (hd : DOp X.K ρ r) (ha : De X a wa) (hb : De X b wb) : De X (.BinOp a op b pos) (wOp r wa wb) := by
  obtain ⟨ta, pa, va⟩ := ha.ex
  obtain ⟨tb, pb, vb⟩ := hb.ex
  exact ⟨_, pe_op ho pa pb, ev_op hd va vb⟩
theorem de_cmp {op : CmpOp} {ρ : R2} {r : R2D} {wa wb : DE} (ho : OpR X (compareOp op) ρ) (hd : DOp X.K ρ r) (ha : De X a wa) (hb : De X b wb) (hm : behindInMarks op b = false := by first | exact nomark _ | with_unfolding_all rfl) : De X (.Compare a [op] [b] pos) (wOp r wa wb) := by
  obtain ⟨ta, pa, va⟩ := ha.ex
  obtain ⟨tb, pb, vb⟩ := hb.ex
  exact ⟨_, pe_cmpR ho pa pb hm, ev_op hd va vb⟩
theorem de_ix {ρ : R2} {r : R2D} {wa wb : DE} (ho : IxR X ρ) (hd : DOp X.K ρ r) (ha : De X a wa) (hb : De X b wb) (hs : PlainIx b := by exact fun _ _ => rfl) : De X (.Subscript a b pos) (wOp r wa wb) := by
  obtain ⟨ta, pa, va⟩ := ha.ex
  obtain ⟨tb, pb, vb⟩ := hb.ex
  exact ⟨_, pe_ix ho pa pb hs, ev_op hd va vb⟩

/-- a scalar comes -/
theorem fin_c {K : PySem.W.Frag} {J : JT} {B H : Hp} {d : D} {v : V} {k : DV → Prop} {Q : VK} (h : k (.c d)) (s : Same B H) (w : Own J B H) (r : Rep K B d v)
    (q : ∀ z v B' H', k z → Grow J B H B' H' → Own J B' H' → (∀ σ δ, RepV K J H B' H' σ δ z v) → Q v H') : Q v H := q (.c d) v B H h (.refl s) w fun _ _ => r
/-- a new tuple comes -/
theorem fin_tup {K : PySem.W.Frag} {J : JT} {B H : Hp} {ds : List D} {xs : List V} {k : DV → Prop} {Q : VK} {p : Addr} (n : H p = none) (h : k (.c (.tup ds))) (s : Same B H) (w : Own J B H) (r : Reps K B ds xs)
    (q : ∀ z v B' H', k z → Grow J B H B' H' → Own J B' H' → (∀ σ δ, RepV K J H B' H' σ δ z v) → Q v H') : Q (.ref p) (upd H p (.tup xs)) :=
  q (.c (.tup ds)) _ (upd B p (.tup xs)) _ h (.new s n) (w.new n) fun _ _ => by
    show Rep K _ _ _
    rw [Rep]
    exact ⟨p, xs, rfl, .inl (.inl upd_same), r.mono (upd_same_of (s.free n))⟩
/-- a new list comes -/
theorem fin_lst {K : PySem.W.Frag} {J : JT} {B H : Hp} {ds : List D} {xs : List V} {k : DV → Prop} {Q : VK} {p : Addr} (n : H p = none) (h : k (.f ds)) (s : Same B H) (w : Own J B H) (r : Reps K B ds xs)
    (q : ∀ z v B' H', k z → Grow J B H B' H' → Own J B' H' → (∀ σ δ, RepV K J H B' H' σ δ z v) → Q v H') : Q (.ref p) (upd H p (.lst xs)) :=
  q (.f ds) _ B _ h (.fresh s n) (w.fresh n) fun _ _ => ⟨p, xs, rfl, n, s.free n, upd_same, r⟩
theorem sz5 {n : Nat} (h : n ≤ 100000) : n ≤ sizeLine := Nat.le_trans h (by decide)

/-! #### ints -/
def rII (g : Int → Int → D) : R2D := fun d e k => match d, e with
  | .int i, .int j => k (.c (g i j))
  | _, _ => False
def rIIC (C : Int → Int → Prop) (g : Int → Int → D) : R2D := fun d e k => match d, e with
  | .int i, .int j => C i j ∧ k (.c (g i j))
  | _, _ => False
def DV0 : D → V
  | .int i => .int i
  | .bl b => .bl b
  | _ => .non
theorem dop_I0 {K : PySem.W.Frag} {g : Int → Int → D} {g' : Int → Int → V} (hg : ∀ i j B, Rep K B (g i j) (g' i j)) : DOp K (rI0 g') (rII g) := by
  intro J B H d e k x y Q h s w tx ty q
  unfold rII at h
  cases d <;> try exact h.elim
  cases e <;> try exact h.elim
  cases tx.int
  cases ty.int
  exact ⟨_, _, rfl, rfl, fin_c h s w (hg _ _ _) q⟩
theorem dop_I {K : PySem.W.Frag} {C C' : Int → Int → Prop} {g : Int → Int → D} {g' : Int → Int → V} (hc : ∀ i j, C i j → C' i j) (hg : ∀ i j B, C i j → Rep K B (g i j) (g' i j)) : DOp K (rI C' g') (rIIC C g) := by
  intro J B H d e k x y Q h s w tx ty q
  unfold rIIC at h
  cases d <;> try exact h.elim
  cases e <;> try exact h.elim
  cases tx.int
  cases ty.int
  exact ⟨_, _, rfl, rfl, hc _ _ h.1, fin_c h.2 s w (hg _ _ _ h.1) q⟩
theorem DOp.or {K : PySem.W.Frag} {ρ ρ' : R2} {r r' : R2D} (h : DOp K ρ r) (h' : DOp K ρ' r') : DOp K (fun x y H Q => ρ x y H Q ∨ ρ' x y H Q) (fun d e k => r d e k ∨ r' d e k) := by
  intro J B H d e k x y Q hr s w tx ty q
  rcases hr with hr | hr
  · exact .inl (h hr s w tx ty q)
  · exact .inr (h' hr s w tx ty q)
theorem DOp.imp {K : PySem.W.Frag} {ρ : R2} {r r' : R2D} (h : DOp K ρ r) (hi : ∀ d e k, r' d e k → r d e k) : DOp K ρ r' := by
  intro J B H d e k x y Q hr s w tx ty q
  exact h (hi _ _ _ hr) s w tx ty q
/-! #### + of tuples, of lists -/
def rTT : R2D := fun d e k => match d, e with
  | .tup a, .tup b => a.length + b.length ≤ 100000 ∧ k (.c (.tup (a ++ b)))
  | _, _ => False
theorem dop_TT {K : PySem.W.Frag} : DOp K (rCatA K) rTT := by
  intro J B H d e k x y Q h s w tx ty q
  unfold rTT at h
  cases d <;> try exact h.elim
  rename_i ds
  cases e <;> try exact h.elim
  rename_i es
  obtain ⟨hz, h⟩ := h
  obtain ⟨a, xs, rfl, aB, aH, ra⟩ := tx.tup s
  obtain ⟨b, ys, rfl, bB, bH, rb⟩ := ty.tup s
  have l1 := ra.len
  have l2 := rb.len
  refine ⟨a, b, xs, ys, rfl, rfl, aH, bH, sz5 (by omega), fun e => ?_, fun n e => ?_, fun n n2 p hp => ?_⟩
  · subst e
    have : ds = [] := List.eq_nil_of_length_eq_zero (by rw [← l1]; rfl)
    subst this
    exact fin_c h s w (by rw [List.nil_append, Rep]; exact ⟨b, ys, rfl, bB, rb⟩) q
  · subst e
    have : es = [] := List.eq_nil_of_length_eq_zero (by rw [← l2]; rfl)
    subst this
    exact fin_c h s w (by rw [List.append_nil, Rep]; exact ⟨a, xs, rfl, aB, ra⟩) q
  · exact fin_tup hp h s w (ra.append rb) q
def rLL : R2D := fun d e k => match d, e with
  | .lst a, .lst b => a.length + b.length ≤ 100000 ∧ k (.f (a ++ b))
  | _, _ => False
theorem dop_LL {K : PySem.W.Frag} : DOp K rCat rLL := by
  intro J B H d e k x y Q h s w tx ty q
  unfold rLL at h
  cases d <;> try exact h.elim
  cases e <;> try exact h.elim
  obtain ⟨hz, h⟩ := h
  obtain ⟨a, xs, rfl, aH, ra⟩ := tx.lst s
  obtain ⟨b, ys, rfl, bH, rb⟩ := ty.lst s
  have l1 := ra.len
  have l2 := rb.len
  exact ⟨a, b, xs, ys, rfl, rfl, aH, bH, sz5 (by omega), fun p hp => fin_lst hp h s w (ra.append rb) q⟩
/-- + -/
def rPlus : R2D := fun d e k => match d, e with
  | .int i, .int j => k (.c (.int (i + j)))
  | .tup a, .tup b => a.length + b.length ≤ 100000 ∧ k (.c (.tup (a ++ b)))
  | .lst a, .lst b => a.length + b.length ≤ 100000 ∧ k (.f (a ++ b))
  | _, _ => False
theorem dop_plus {K : PySem.W.Frag} : DOp K (fun x y H Q => rI0 (fun i j => .int (i + j)) x y H Q ∨ (rCatA K x y H Q ∨ rCat x y H Q)) rPlus := by
  refine ((dop_I0 (g := fun i j => .int (i + j)) fun i j B => by rw [Rep]).or (dop_TT.or dop_LL)).imp fun d e k h => ?_
  unfold rPlus at h
  split at h
  · exact .inl h
  · exact .inr (.inl h)
  · exact .inr (.inr h)
  · exact h.elim
theorem de_add {wa wb : DE} (ha : De X a wa) (hb : De X b wb) : De X (.BinOp a .Add b pos) (wOp rPlus wa wb) :=
  de_op (op_add.or (op_catA.or op_cat)) dop_plus ha hb
theorem de_sub {wa wb : DE} (ha : De X a wa) (hb : De X b wb) : De X (.BinOp a .Sub b pos) (wOp (rII fun i j => .int (i - j)) wa wb) :=
  de_op op_sub (dop_I0 fun i j B => by rw [Rep]) ha hb
/-! #### * -/
def rRepD : R2D := fun d e k => match d, e with
  | .lst a, .int n => 0 ≤ n ∧ n ≤ 100000 ∧ a.length * n.toNat ≤ 100000 ∧ k (.f (List.replicate n.toNat a).flatten)
  | _, _ => False
theorem dop_rep {K : PySem.W.Frag} : DOp K rRep rRepD := by
  intro J B H d e k x y Q h s w tx ty q
  unfold rRepD at h
  cases d <;> try exact h.elim
  cases e <;> try exact h.elim
  obtain ⟨h0, h1, h2, h⟩ := h
  obtain ⟨a, xs, rfl, aH, ra⟩ := tx.lst s
  cases ty.int
  have l1 := ra.len
  exact ⟨a, _, xs, rfl, rfl, aH, by omega, by omega, sz5 (by rw [l1]; exact h2), fun p hp => fin_lst hp h s w (ra.rep _) q⟩
def rRepTD : R2D := fun d e k => match d, e with
  | .tup a, .int n => a ≠ [] ∧ 2 ≤ n ∧ n ≤ 1000 ∧ a.length ≤ 1000 ∧ k (.c (.tup (List.replicate n.toNat a).flatten))
  | _, _ => False
theorem dop_repT {K : PySem.W.Frag} : DOp K (rRepT K) rRepTD := by
  intro J B H d e k x y Q h s w tx ty q
  unfold rRepTD at h
  cases d <;> try exact h.elim
  rename_i ds
  cases e <;> try exact h.elim
  obtain ⟨h0, h1, h2, h3, h⟩ := h
  obtain ⟨a, xs, rfl, aB, aH, ra⟩ := tx.tup s
  cases ty.int
  have l1 := ra.len
  exact ⟨a, _, xs, rfl, rfl, aH, fun e => h0 (List.eq_nil_of_length_eq_zero (by rw [← l1, e]; rfl)), h1, h2, by omega, fun p hp => fin_tup hp h s w (ra.rep _) q⟩
def rTimes : R2D := fun d e k => match d, e with
  | .int i, .int j => (-(2 ^ 64) < i ∧ i < 2 ^ 64) ∧ k (.c (.int (i * j)))
  | .tup a, .int n => a ≠ [] ∧ 2 ≤ n ∧ n ≤ 1000 ∧ a.length ≤ 1000 ∧ k (.c (.tup (List.replicate n.toNat a).flatten))
  | .lst a, .int n => 0 ≤ n ∧ n ≤ 100000 ∧ a.length * n.toNat ≤ 100000 ∧ k (.f (List.replicate n.toNat a).flatten)
  | _, _ => False
end
end Dl
namespace Dl
open PySem PySem.Spec PyProof.Rows L2
section
variable {X : Cx} {e a b c : Expr} {es : List Expr} {pos : Pos}

/-! #### *, //, %, ** -/
theorem dop_times {K : PySem.W.Frag} : DOp K (fun x y H Q => rI CMul (fun i j => .int (i * j)) x y H Q ∨ (rRepT K x y H Q ∨ rRep x y H Q)) rTimes := by
  refine DOp.imp (DOp.or (dop_I (C := fun i j => -(2 ^ 64) < i ∧ i < 2 ^ 64) (g := fun i j => .int (i * j)) (fun i j h => .inl h) fun i j B _ => by rw [Rep]) (DOp.or dop_repT dop_rep)) fun d e k h => ?_
  unfold rTimes at h
  split at h
  · exact .inl h
  · exact .inr (.inl h)
  · exact .inr (.inr h)
  · exact h.elim
theorem de_mul {wa wb : DE} (ha : De X a wa) (hb : De X b wb) : De X (.BinOp a .Mult b pos) (wOp rTimes wa wb) :=
  de_op (OpR.or op_mul (OpR.or op_repT op_rep)) dop_times ha hb
def rFdiv : R2D := rIIC (fun _ j => 0 < j ∧ j < 1073741824) fun i j => .int (i / j)
theorem de_fdiv {wa wb : DE} (ha : De X a wa) (hb : De X b wb) : De X (.BinOp a .FloorDiv b pos) (wOp rFdiv wa wb) :=
  de_op op_fdiv (dop_I (fun i j h => h) fun i j B _ => by rw [Rep]) ha hb
def rFdivW : R2D := rIIC CDivW fun i j => .int (i / j)
theorem de_fdivW {wa wb : DE} (ha : De X a wa) (hb : De X b wb) : De X (.BinOp a .FloorDiv b pos) (wOp rFdivW wa wb) :=
  de_op op_fdivW (dop_I (fun i j h => h) fun i j B _ => by rw [Rep]) ha hb
def rMod : R2D := rIIC (fun _ j => 0 < j) fun i j => .int (i % j)
theorem de_mod {wa wb : DE} (ha : De X a wa) (hb : De X b wb) : De X (.BinOp a .Mod b pos) (wOp rMod wa wb) :=
  de_op op_mod (dop_I (fun i j h => h) fun i j B _ => by rw [Rep]) ha hb
def rPow : R2D := rIIC CPow fun i j => .int (i ^ j.toNat)
theorem de_pow {wa wb : DE} (ha : De X a wa) (hb : De X b wb) : De X (.BinOp a .Pow b pos) (wOp rPow wa wb) :=
  de_op op_pow (dop_I (fun i j h => h) fun i j B _ => by rw [Rep]) ha hb
/-! #### - of one -/
def wUn (r : D → (DV → Prop) → Prop) (wa : DE) : DE := fun δ k => wa δ fun x => ∃ d, rd δ x = some d ∧ r d k
def rNeg : D → (DV → Prop) → Prop := fun d k => match d with
  | .int i => k (.c (.int (-i)))
  | _ => False
theorem de_neg {wa : DE} (ha : De X a wa) : De X (.UnaryOp .USub a pos) (wUn rNeg wa) := by
  obtain ⟨ta, pa, va⟩ := ha.ex
  refine ⟨_, pe_un un_neg pa, ?_⟩
  intro J B0 H0 B H σ δ e k h Q q
  refine va e _ h _ fun x v B1 H1 h1 g1 w1 r1 => ?_
  obtain ⟨d, rx, h1⟩ := h1
  have t1 := r1.toT (e.step g1 w1) e.nod rx
  unfold rNeg at h1
  cases d <;> try exact h1.elim
  cases t1.int
  exact ⟨_, rfl, q _ _ B1 H1 h1 g1 w1 (by show Rep _ _ _ _; rw [Rep])⟩

/-! #### comparisons of ints -/
def rLt : R2D := rII fun i j => .bl (decide (i < j))
def rLe : R2D := rII fun i j => .bl (decide (i ≤ j))
def rGt : R2D := rII fun i j => .bl (decide (j < i))
def rGe : R2D := rII fun i j => .bl (decide (j ≤ i))
theorem dop_lt {K : PySem.W.Frag} : DOp K (rI0 fun i j => .bl (decide (i < j))) rLt := dop_I0 fun i j B => by rw [Rep]
theorem dop_le {K : PySem.W.Frag} : DOp K (rI0 fun i j => .bl (decide (i ≤ j))) rLe := dop_I0 fun i j B => by rw [Rep]
theorem dop_gt {K : PySem.W.Frag} : DOp K (rI0 fun i j => .bl (decide (j < i))) rGt := dop_I0 fun i j B => by rw [Rep]
theorem dop_ge {K : PySem.W.Frag} : DOp K (rI0 fun i j => .bl (decide (j ≤ i))) rGe := dop_I0 fun i j B => by rw [Rep]
/-! #### == of any data -/
mutual
def py : D → PyData
  | .non => .none
  | .bl b => .bool b
  | .int i => .int i
  | .str x => .str x
  | .lst ds => .list (pys ds)
  | .tup ds => .tuple (pys ds)
  | .frl ds => .list (pys ds)
  | .emp => .none
  | .ty _ => .none
  | .rng _ _ => .none
  | .dct _ _ => .none
def pys : List D → List PyData
  | [] => []
  | d :: ds => py d :: pys ds
end
/-! no dict, no class within -/
mutual
def plain : D → Bool
  | .emp => false
  | .ty _ => false
  | .rng _ _ => false
  | .dct _ _ => false
  | .lst ds => plains ds
  | .tup ds => plains ds
  | .frl ds => plains ds
  | .non => true
  | .bl _ => true
  | .int _ => true
  | .str _ => true
def plains : List D → Bool
  | [] => true
  | d :: ds => plain d && plains ds
end
section
variable {K : PySem.W.Frag} {B H : Hp}
mutual
theorem dp_of : ∀ {d : D} {v : V}, plain d = true → Rep K B d v → Dp K B v (py d)
  | .non, _, _, h => by rw [Rep] at h; subst h; rw [py]; exact .non
  | .bl b, _, _, h => by rw [Rep] at h; subst h; rw [py]; exact .bl b
  | .int i, _, _, h => by rw [Rep] at h; subst h; rw [py]; exact .int i
  | .str x, _, _, h => by rw [Rep] at h; subst h; rw [py]; exact .str x
  | .lst ds, _, p, h => by
    rw [Rep] at h; obtain ⟨a, xs, rfl, h1, h2⟩ := h
    rw [py]; rw [plain] at p
    exact .lst (.inl (.inl h1)) (dps_of p h2)
  | .tup ds, _, p, h => by
    rw [Rep] at h; obtain ⟨a, xs, rfl, h1, h2⟩ := h
    rw [py]; rw [plain] at p
    exact .tup h1 (dps_of p h2)
  | .frl ds, _, p, h => by
    rw [Rep] at h; obtain ⟨a, xs, rfl, h1, h2⟩ := h
    rw [py]; rw [plain] at p
    exact .lst h1 (dps_of p h2)
  | .emp, _, p, _ => by rw [plain] at p; cases p
  | .ty _, _, p, _ => by rw [plain] at p; cases p
  | .rng _ _, _, p, _ => by rw [plain] at p; cases p
  | .dct _ _, _, p, _ => by rw [plain] at p; cases p
theorem dps_of : ∀ {ds : List D} {vs : List V}, plains ds = true → Reps K B ds vs → DpAll K B vs (pys ds)
  | [], _, _, h => by rw [Reps] at h; subst h; rw [pys]; exact .nil
  | d :: ds, _, p, h => by
    rw [Reps] at h; obtain ⟨x, r, rfl, h1, h2⟩ := h
    rw [plains, Bool.and_eq_true] at p
    rw [pys]
    exact .cons (dp_of p.1 h1) (dps_of p.2 h2)
end
theorem dp_ofT {J : JT} {d : D} {v : V} (s : Same B H) (p : plain d = true) (h : RepT K J B H d v) : Dp K H v (py d) := by
  rcases h with h | ⟨ds, a, xs, rfl, rfl, n, h1, h2⟩
  · exact dp_of p (h.mono s)
  · rw [py]; rw [plain] at p
    exact .lst (.inl (.inl h1)) (dps_of p (h2.mono s))
end
/-- both are plain and shaped -/
def okD (d : D) : Prop := plain d = true ∧ SeqAt.shaped (py d) = true
def eqD (d e : D) : Bool := PyData.eqv (py d) (py e)
def rEqq : R2D := fun d e k => okD d ∧ okD e ∧ k (.c (.bl (eqD d e)))
def rNeq : R2D := fun d e k => okD d ∧ okD e ∧ k (.c (.bl (!eqD d e)))
theorem dop_eq {K : PySem.W.Frag} : DOp K (rEqD K) rEqq := by
  intro J B H d e k x y Q h s w tx ty q
  obtain ⟨⟨p1, s1⟩, ⟨p2, s2⟩, h⟩ := h
  exact ⟨_, _, dp_ofT s p1 tx, dp_ofT s p2 ty, s1, s2, fin_c h s w (by rw [Rep]; rfl) q⟩
theorem dop_ne {K : PySem.W.Frag} : DOp K (rNeD K) rNeq := by
  intro J B H d e k x y Q h s w tx ty q
  obtain ⟨⟨p1, s1⟩, ⟨p2, s2⟩, h⟩ := h
  exact ⟨_, _, dp_ofT s p1 tx, dp_ofT s p2 ty, s1, s2, fin_c h s w (by rw [Rep]; rfl) q⟩
theorem de_eq {wa wb : DE} (hu : X.A.units + 64 < cLine) (ha : De X a wa) (hb : De X b wb) : De X (.Compare a [.Eq] [b] pos) (wOp rEqq wa wb) := de_cmp (op_eqD hu) dop_eq ha hb
theorem de_ne {wa wb : DE} (hu : X.A.units + 64 < cLine) (ha : De X a wa) (hb : De X b wb) : De X (.Compare a [.NotEq] [b] pos) (wOp rNeq wa wb) := de_cmp (op_neD hu) dop_ne ha hb
/-! #### is None -/
def isNone : D → Bool
  | .non => true
  | _ => false
def rIsN : R2D := fun d e k => match e with
  | .non => k (.c (.bl (isNone d)))
  | _ => False
def rNotN : R2D := fun d e k => match e with
  | .non => k (.c (.bl (!isNone d)))
  | _ => False
theorem isNone_V {K : PySem.W.Frag} {J : JT} {B H : Hp} {d : D} {v : V} (h : RepT K J B H d v) : decide (v = .non) = isNone d := by
  rcases h with h | ⟨ds, a, xs, rfl, rfl, _⟩
  · cases d <;> rw [Rep] at h
    case non => subst h; rfl
    case bl => subst h; rfl
    case int => subst h; rfl
    case str => subst h; rfl
    case ty => subst h; rfl
    case lst => obtain ⟨a, xs, rfl, _⟩ := h; rfl
    case tup => obtain ⟨a, xs, rfl, _⟩ := h; rfl
    case frl => obtain ⟨a, xs, rfl, _⟩ := h; rfl
    case emp => obtain ⟨a, rfl, _⟩ := h; rfl
    case rng => obtain ⟨a, rfl, _⟩ := h; rfl
    case dct => obtain ⟨a, xs, rfl, _⟩ := h; rfl
  · rfl
theorem dop_isN {K : PySem.W.Frag} : DOp K (fun x y H Q => y = .non ∧ Q (.bl (decide (x = .non))) H) rIsN := by
  intro J B H d e k x y Q h s w tx ty q
  unfold rIsN at h
  cases e <;> try exact h.elim
  cases ty.non
  exact ⟨rfl, fin_c h s w (by rw [Rep, isNone_V tx]) q⟩
theorem dop_notN {K : PySem.W.Frag} : DOp K (fun x y H Q => y = .non ∧ Q (.bl (!decide (x = .non))) H) rNotN := by
  intro J B H d e k x y Q h s w tx ty q
  unfold rNotN at h
  cases e <;> try exact h.elim
  cases ty.non
  exact ⟨rfl, fin_c h s w (by rw [Rep, isNone_V tx]) q⟩
/-! #### chains -/
def wChain (r r' : R2D) (wa wb wc : DE) : DE := fun δ k => wa δ fun x => wb δ fun y => ∃ d e, rd δ x = some d ∧ rd δ y = some e ∧
  r d e fun z => ∃ t, z = .c (.bl t) ∧ (if t = true then wc δ fun x2 => ∃ f, rd δ x2 = some f ∧ r' e f k else k (.c (.bl false)))
/-- a rule that makes nothing: its value is a bool -/
theorem ev_chain {K : PySem.W.Frag} {ρ ρ' : R2} {r r' : R2D} {ta tb tc : TE} {wa wb wc : DE} (ho : DOp K ρ r) (ho' : DOp K ρ' r') (ha : EvE K ta wa) (hb : EvE K tb wb) (hc : EvE K tc wc) : EvE K (tChain ρ ρ' ta tb tc) (wChain r r' wa wb wc) := by
  intro J B0 H0 B H σ δ e k h Q q
  refine ha e _ h _ fun x v B1 H1 h1 g1 w1 r1 => ?_
  have e1 := e.step g1 w1
  refine hb e1 _ h1 _ fun y u B2 H2 h2 g2 w2 r2 => ?_
  have e2 := e1.step g2 w2
  obtain ⟨d, d', rx, ry, h2⟩ := h2
  have t1 := (r1.toT e1 e.nod rx).step g2
  have t2 := r2.toT e2 e1.nod ry
  refine ho h2 e2.bh w2 t1 t2 fun z v' B3 H3 kz g3 w3 r3 => ?_
  obtain ⟨t, rfl, kz⟩ := kz
  have r3' := r3 [] []
  have : v' = .bl t := by
    have : Rep K B3 (.bl t) v' := r3'
    rw [Rep] at this; exact this
  subst this
  refine ⟨t, rfl, ?_⟩
  have e3 := e2.step g3 w3
  have G3 := (g1.trans g2).trans g3
  cases t with
  | false => exact q _ _ B3 H3 kz G3 w3 r3'
  | true =>
    refine hc e3 _ kz _ fun x2 v2 B4 H4 h4 g4 w4 r4 => ?_
    obtain ⟨f, rx2, h4⟩ := h4
    have e4 := e3.step g4 w4
    exact ho' h4 e4.bh w4 ((t2.step g3).step g4) (r4.toT e4 e3.nod rx2) fun z v5 B5 H5 kz g5 w5 r5 => q z v5 B5 H5 kz ((G3.trans g4).trans g5) w5 ((r5 σ δ).back fun b hb => g4.ne b (G3.ne b hb))
theorem de_chain {op op' : CmpOp} {ρ ρ' : R2} {r r' : R2D} {wa wb wc : DE} (ho : OpR X (compareOp op) ρ) (ho' : OpR X (compareOp op') ρ') (hd : DOp X.K ρ r) (hd' : DOp X.K ρ' r') (ha : De X a wa) (hb : De X b wb) (hc : De X c wc)
    (hm : lastMarks [op, op'] [b, c] = false := by with_unfolding_all rfl) : De X (.Compare a [op, op'] [b, c] pos) (wChain r r' wa wb wc) := by
  obtain ⟨ta, pa, va⟩ := ha.ex
  obtain ⟨tb, pb, vb⟩ := hb.ex
  obtain ⟨tc, pc, vc⟩ := hc.ex
  exact ⟨_, pe_chain ho ho' pa pb pc hm, ev_chain hd hd' va vb vc⟩

/-! ### and, or, not -/
def wAnd (wa wb : DE) : DE := fun δ k => wa δ fun x => ∃ t, x = .c (.bl t) ∧ if t = true then wb δ k else k (.c (.bl false))
def wOr (wa wb : DE) : DE := fun δ k => wa δ fun x => ∃ t, x = .c (.bl t) ∧ if t = true then k (.c (.bl true)) else wb δ k
def wNot (wa : DE) : DE := fun δ k => wa δ fun x => ∃ t, x = .c (.bl t) ∧ k (.c (.bl (!t)))
theorem rv_bl {K : PySem.W.Frag} {J : JT} {Hs B H : Hp} {σ : L2.St} {δ : List S} {t : Bool} {v : V} (h : RepV K J Hs B H σ δ (.c (.bl t)) v) : v = .bl t := by
  have h : Rep K B (.bl t) v := h
  rw [Rep] at h; exact h
theorem rv_bl' {K : PySem.W.Frag} {J : JT} {Hs B H : Hp} {σ : L2.St} {δ : List S} {t : Bool} : RepV K J Hs B H σ δ (.c (.bl t)) (.bl t) := by
  show Rep K B (.bl t) _
  rw [Rep]
theorem de_one {op} {wa : DE} (ha : De X a wa) : De X (.BoolOp op [a] pos) wa := by
  obtain ⟨ta, pa, va⟩ := ha.ex
  exact ⟨_, pe_one pa, va⟩
theorem de_and {rest : List Expr} {wa wb : DE} (ha : De X a wa) (hb : De X (.BoolOp .And (b :: rest) pos) wb) : De X (.BoolOp .And (a :: b :: rest) pos) (wAnd wa wb) := by
  obtain ⟨ta, pa, va⟩ := ha.ex
  obtain ⟨tb, pb, vb⟩ := hb.ex
  refine ⟨_, pe_and pa pb, ?_⟩
  intro J B0 H0 B H σ δ e k h Q q
  refine va e _ h _ fun x v B1 H1 h1 g1 w1 r1 => ?_
  obtain ⟨t, rfl, h1⟩ := h1
  cases rv_bl r1
  refine ⟨t, rfl, ?_⟩
  cases t with
  | false => exact q _ _ B1 H1 h1 g1 w1 rv_bl'
  | true => exact vb (e.step g1 w1) _ h1 _ fun y u B2 H2 h2 g2 w2 r2 => q y u B2 H2 h2 (g1.trans g2) w2 (r2.back g1.ne)
theorem de_or {rest : List Expr} {wa wb : DE} (ha : De X a wa) (hb : De X (.BoolOp .Or (b :: rest) pos) wb) : De X (.BoolOp .Or (a :: b :: rest) pos) (wOr wa wb) := by
  obtain ⟨ta, pa, va⟩ := ha.ex
  obtain ⟨tb, pb, vb⟩ := hb.ex
  refine ⟨_, pe_or pa pb, ?_⟩
  intro J B0 H0 B H σ δ e k h Q q
  refine va e _ h _ fun x v B1 H1 h1 g1 w1 r1 => ?_
  obtain ⟨t, rfl, h1⟩ := h1
  cases rv_bl r1
  refine ⟨t, rfl, ?_⟩
  cases t with
  | true => exact q _ _ B1 H1 h1 g1 w1 rv_bl'
  | false => exact vb (e.step g1 w1) _ h1 _ fun y u B2 H2 h2 g2 w2 r2 => q y u B2 H2 h2 (g1.trans g2) w2 (r2.back g1.ne)
theorem de_not {wa : DE} (ha : De X a wa) : De X (.UnaryOp .Not a pos) (wNot wa) := by
  obtain ⟨ta, pa, va⟩ := ha.ex
  refine ⟨_, pe_not pa, ?_⟩
  intro J B0 H0 B H σ δ e k h Q q
  refine va e _ h _ fun x v B1 H1 h1 g1 w1 r1 => ?_
  obtain ⟨t, rfl, h1⟩ := h1
  cases rv_bl r1
  exact ⟨t, rfl, q _ _ B1 H1 h1 g1 w1 rv_bl'⟩
/-! ### tests -/
def wB (wa : DE) : DT := fun δ k => wa δ fun x => ∃ t, x = .c (.bl t) ∧ k t
theorem dt_val {wa : DE} (ha : De X a wa) (he : ∀ whole, isTrue a X.env whole = (do let v ← whole; standAt a.pos; holding [v] (truthy v)) := by intro _; rfl) : Dt X a (wB wa) := by
  obtain ⟨ta, pa, va⟩ := ha.ex
  refine ⟨_, pt_val pa he, ?_⟩
  intro J B0 H0 B H σ δ e k h Q q
  refine va e _ h _ fun x v B1 H1 h1 g1 w1 r1 => ?_
  obtain ⟨t, rfl, h1⟩ := h1
  cases rv_bl r1
  exact ⟨t, rfl, q t B1 H1 h1 g1 w1⟩
/-- one comparison -/
theorem dt_cmp {op : CmpOp} {ρ : R2} {r : R2D} {wa wb : DE} (ho : OpR X (compareOp op) ρ) (hd : DOp X.K ρ r) (ha : De X a wa) (hb : De X b wb) (hm : behindInMarks op b = false := by first | exact nomark _ | with_unfolding_all rfl) : Dt X (.Compare a [op] [b] pos) (wB (wOp r wa wb)) := by
  obtain ⟨ta, pa, va⟩ := ha.ex
  obtain ⟨tb, pb, vb⟩ := hb.ex
  refine ⟨_, pt_cmpR ho pa pb hm, ?_⟩
  intro J B0 H0 B H σ δ e k h Q q
  refine ev_op hd va vb e _ h _ fun x v B1 H1 h1 g1 w1 r1 => ?_
  obtain ⟨t, rfl, h1⟩ := h1
  cases rv_bl r1
  exact ⟨t, rfl, q t B1 H1 h1 g1 w1⟩
theorem dt_eq {wa wb : DE} (hu : X.A.units + 64 < cLine) (ha : De X a wa) (hb : De X b wb) : Dt X (.Compare a [.Eq] [b] pos) (wB (wOp rEqq wa wb)) := dt_cmp (op_eqD hu) dop_eq ha hb
theorem dt_ne {wa wb : DE} (hu : X.A.units + 64 < cLine) (ha : De X a wa) (hb : De X b wb) : Dt X (.Compare a [.NotEq] [b] pos) (wB (wOp rNeq wa wb)) := dt_cmp (op_neD hu) dop_ne ha hb
theorem dt_chain {op op' : CmpOp} {ρ ρ' : R2} {r r' : R2D} {wa wb wc : DE} (ho : OpR X (compareOp op) ρ) (ho' : OpR X (compareOp op') ρ') (hd : DOp X.K ρ r) (hd' : DOp X.K ρ' r') (ha : De X a wa) (hb : De X b wb) (hc : De X c wc)
    (hm : lastMarks [op, op'] [b, c] = false := by with_unfolding_all rfl) : Dt X (.Compare a [op, op'] [b, c] pos) (wB (wChain r r' wa wb wc)) := by
  obtain ⟨ta, pa, va⟩ := ha.ex
  obtain ⟨tb, pb, vb⟩ := hb.ex
  obtain ⟨tc, pc, vc⟩ := hc.ex
  refine ⟨_, pt_chain ho ho' pa pb pc hm, ?_⟩
  intro J B0 H0 B H σ δ e k h Q q
  refine ev_chain hd hd' va vb vc e _ h _ fun x v B1 H1 h1 g1 w1 r1 => ?_
  obtain ⟨t, rfl, h1⟩ := h1
  cases rv_bl r1
  exact ⟨t, rfl, q t B1 H1 h1 g1 w1⟩
def wAndT (wa wb : DT) : DT := fun δ k => wa δ fun t => if t = true then wb δ k else k false
def wOrT (wa wb : DT) : DT := fun δ k => wa δ fun t => if t = true then k true else wb δ k
def wNotT (wa : DT) : DT := fun δ k => wa δ fun t => k (!t)
theorem dw_and1 {wa : DT} (ha : Dt X a wa) : Dw X (.BoolOp .And [a] pos) wa := by
  obtain ⟨ta, pa, va⟩ := ha.ex
  exact ⟨_, pw_and1 pa, va⟩
theorem dw_or1 {wa : DT} (ha : Dt X a wa) : Dw X (.BoolOp .Or [a] pos) wa := by
  obtain ⟨ta, pa, va⟩ := ha.ex
  exact ⟨_, pw_or1 pa, va⟩
theorem dw_and {rest : List Expr} {wa wb : DT} (ha : Dt X a wa) (hb : Dw X (.BoolOp .And (b :: rest) pos) wb) : Dw X (.BoolOp .And (a :: b :: rest) pos) (wAndT wa wb) := by
  obtain ⟨ta, pa, va⟩ := ha.ex
  obtain ⟨tb, pb, vb⟩ := hb.ex
  refine ⟨_, pw_and pa pb, ?_⟩
  intro J B0 H0 B H σ δ e k h Q q
  refine va e _ h _ fun t B1 H1 h1 g1 w1 => ?_
  cases t with
  | false => exact q _ B1 H1 h1 g1 w1
  | true => exact vb (e.step g1 w1) _ h1 _ fun t B2 H2 h2 g2 w2 => q t B2 H2 h2 (g1.trans g2) w2
theorem dw_or {rest : List Expr} {wa wb : DT} (ha : Dt X a wa) (hb : Dw X (.BoolOp .Or (b :: rest) pos) wb) : Dw X (.BoolOp .Or (a :: b :: rest) pos) (wOrT wa wb) := by
  obtain ⟨ta, pa, va⟩ := ha.ex
  obtain ⟨tb, pb, vb⟩ := hb.ex
  refine ⟨_, pw_or pa pb, ?_⟩
  intro J B0 H0 B H σ δ e k h Q q
  refine va e _ h _ fun t B1 H1 h1 g1 w1 => ?_
  cases t with
  | true => exact q _ B1 H1 h1 g1 w1
  | false => exact vb (e.step g1 w1) _ h1 _ fun t B2 H2 h2 g2 w2 => q t B2 H2 h2 (g1.trans g2) w2
theorem Dw.pt {wa : DT} (h : Dw X a wa) : Dt X a wa := by
  obtain ⟨ta, pa, va⟩ := h.ex
  exact ⟨_, pa.pt, va⟩
theorem dt_not {wa : DT} (ha : Dt X a wa) : Dt X (.UnaryOp .Not a pos) (wNotT wa) := by
  obtain ⟨ta, pa, va⟩ := ha.ex
  refine ⟨_, pt_not pa, ?_⟩
  intro J B0 H0 B H σ δ e k h Q q
  exact va e _ h _ fun t B1 H1 h1 g1 w1 => q _ B1 H1 h1 g1 w1
def wIf (wc : DT) (wa wb : DE) : DE := fun δ k => wc δ fun t => if t = true then wa δ k else wb δ k
theorem de_if {wc : DT} {wa wb : DE} (hc : Dt X c wc) (ha : De X a wa) (hb : De X b wb) : De X (.IfExp c a b pos) (wIf wc wa wb) := by
  obtain ⟨tc, pc, vc⟩ := hc.ex
  obtain ⟨ta, pa, va⟩ := ha.ex
  obtain ⟨tb, pb, vb⟩ := hb.ex
  refine ⟨_, pe_ifExp pc pa pb, ?_⟩
  intro J B0 H0 B H σ δ e k h Q q
  refine vc e _ h _ fun t B1 H1 h1 g1 w1 => ?_
  cases t with
  | true => exact va (e.step g1 w1) _ h1 _ fun y u B2 H2 h2 g2 w2 r2 => q y u B2 H2 h2 (g1.trans g2) w2 (r2.back g1.ne)
  | false => exact vb (e.step g1 w1) _ h1 _ fun y u B2 H2 h2 g2 w2 r2 => q y u B2 H2 h2 (g1.trans g2) w2 (r2.back g1.ne)
end
end Dl
namespace Dl
open PySem PySem.Spec PyProof.Rows L2
section
variable {X : Cx} {e a b c : Expr} {es : List Expr} {pos : Pos}

/-! ### argument lists, displays -/
def waNil : DA := fun _ k => k []
def waCons (wa : DE) (wr : DA) : DA := fun δ k => wa δ fun x => wr δ fun xs => k (x :: xs)
theorem da_nil : Da X [] waNil := by
  refine ⟨_, pa_nil, ?_⟩
  intro J B0 H0 B H σ δ e k h Q q
  exact q [] [] B H h (.refl e.bh) e.ow rfl
theorem da_cons {wa : DE} {wr : DA} (ha : De X e wa) (hr : Da X es wr) (hs : starEach (e :: es) X.env = (false, eval e X.env) :: starEach es X.env := by rfl) : Da X (e :: es) (waCons wa wr) := by
  obtain ⟨ta, pa, va⟩ := ha.ex
  obtain ⟨tr, pr, vr⟩ := hr.ex
  refine ⟨_, pa_cons pa pr hs, ?_⟩
  intro J B0 H0 B H σ δ e k h Q q
  refine va e _ h _ fun x v B1 H1 h1 g1 w1 r1 => ?_
  have e1 := e.step g1 w1
  refine vr e1 _ h1 _ fun xs vs B2 H2 h2 g2 w2 r2 => ?_
  refine q (x :: xs) (v :: vs) B2 H2 h2 (g1.trans g2) w2 ⟨v, vs, rfl, r1.step e.nod g2, r2.back g1.ne, fun ds hx j es' hj hv => ?_⟩
  subst hx
  obtain ⟨a, ys, rfl, nS, nB, hH, _⟩ := r1
  obtain ⟨u, e3, r3⟩ := r2.at hj
  rw [hv] at e3; cases e3
  obtain ⟨a', _, e4, n4, _⟩ := r3
  cases e4
  rw [hH] at n4; cases n4
/-- (a, b, ..) -/
def wTup (wa : DA) : DE := fun δ k => wa δ fun xs => ∃ ds, cls xs = some ds ∧ ds.length ≤ 100000 ∧ k (.c (.tup ds))
def wLst (wa : DA) : DE := fun δ k => wa δ fun xs => ∃ ds, cls xs = some ds ∧ ds.length ≤ 100000 ∧ k (.f ds)
theorem de_tup {x1} {wa : DA} (ha : Da X es wa) : De X (.Tuple es x1 pos) (wTup wa) := by
  obtain ⟨ta, pa, va⟩ := ha.ex
  refine ⟨_, pe_tup pa, ?_⟩
  intro J B0 H0 B H σ δ e k h Q q
  refine va e _ h _ fun xs vs B1 H1 h1 g1 w1 r1 => ?_
  obtain ⟨ds, hc, hl, h1⟩ := h1
  obtain ⟨B2, g2, w2, _, r2, _⟩ := r1.keep e.nod g1 w1 hc
  refine ⟨sz5 (by rw [r2.len]; exact hl), fun p hp => ?_⟩
  exact fin_tup hp h1 g2.bh w2 r2 fun z v B' H' kz g w r => q z v B' H' kz (g2.trans g) w ((r σ δ).back g2.ne)
theorem de_lst {wa : DA} (ha : Da X es wa) : De X (.List es pos) (wLst wa) := by
  obtain ⟨ta, pa, va⟩ := ha.ex
  refine ⟨_, pe_lst pa, ?_⟩
  intro J B0 H0 B H σ δ e k h Q q
  refine va e _ h _ fun xs vs B1 H1 h1 g1 w1 r1 => ?_
  obtain ⟨ds, hc, hl, h1⟩ := h1
  obtain ⟨B2, g2, w2, _, r2, _⟩ := r1.keep e.nod g1 w1 hc
  refine ⟨sz5 (by rw [r2.len]; exact hl), fun p hp => ?_⟩
  exact fin_lst hp h1 g2.bh w2 r2 fun z v B' H' kz g w r => q z v B' H' kz (g2.trans g) w ((r σ δ).back g2.ne)
/-- {} -/
def wEmp : DE := fun _ k => k (.c .emp)
theorem de_emp : De X (.Dict [] [] pos) wEmp := by
  refine ⟨_, pe_dnewK, ?_⟩
  intro J B0 H0 B H σ δ e k h Q q
  refine fun p hp => ?_
  refine q (.c .emp) _ (upd B p (.dK [])) _ h (.new e.bh hp) (e.ow.new hp) ?_
  show Rep _ _ _ _
  rw [Rep]
  exact ⟨p, rfl, upd_same⟩

/-! ### items -/
def rIxD : R2D := fun d e k => match e with
  | .int i => match d with
    | .lst ds => ∃ x, atI ds i = some x ∧ k (.c x)
    | .tup ds => ∃ x, atI ds i = some x ∧ k (.c x)
    | .frl ds => ∃ x, atI ds i = some x ∧ k (.c x)
    | _ => False
  | _ => False
theorem atI_reps {K : PySem.W.Frag} {B : Hp} {ds : List D} {xs : List V} {i : Int} {d : D} (r : Reps K B ds xs) (h : atI ds i = some d) : ∃ v, atI xs i = some v ∧ Rep K B d v := by
  unfold atI at h ⊢
  rw [r.len]
  cases hi : ixN ds.length i with
  | none => rw [hi] at h; cases h
  | some j =>
    rw [hi] at h
    exact r.get (i := j) h
theorem dop_ix {K : PySem.W.Frag} : DOp K (fun x y H Q => rIxL K x y H Q ∨ rIxT K x y H Q) rIxD := by
  intro J B H d e k x y Q h s w tx ty q
  unfold rIxD at h
  cases e <;> try exact h.elim
  cases ty.int
  cases d <;> try exact h.elim
  case lst ds =>
    obtain ⟨z, hz, h⟩ := h
    obtain ⟨a, xs, rfl, aH, ra⟩ := tx.lst s
    obtain ⟨v, hv, rv⟩ := atI_reps ra hz
    exact .inl ⟨a, xs, _, v, rfl, rfl, SqL.of aH, hv, fin_c h s w rv q⟩
  case tup ds =>
    obtain ⟨z, hz, h⟩ := h
    obtain ⟨a, xs, rfl, aB, aH, ra⟩ := tx.tup s
    obtain ⟨v, hv, rv⟩ := atI_reps ra hz
    exact .inr ⟨a, xs, _, v, rfl, rfl, aH, hv, fin_c h s w rv q⟩
  case frl ds =>
    obtain ⟨z, hz, h⟩ := h
    have tx := tx.rep (fun _ => by simp)
    rw [Rep] at tx
    obtain ⟨a, xs, rfl, aB, ra⟩ := tx
    obtain ⟨v, hv, rv⟩ := atI_reps ra hz
    exact .inl ⟨a, xs, _, v, rfl, rfl, Same.seq s aB, hv, fin_c h s w rv q⟩
theorem de_item {wa wb : DE} (ha : De X a wa) (hb : De X b wb) (hs : PlainIx b := by exact fun _ _ => rfl) : De X (.Subscript a b pos) (wOp rIxD wa wb) :=
  de_ix (IxR.or ix_list ix_tup) dop_ix ha hb hs
/-! ### slices -/
abbrev DO := List S → (Option Int → Prop) → Prop
def EvO (K : PySem.W.Frag) (to : TO) (w : DO) : Prop := ∀ ⦃J : JT⦄ ⦃B0 H0 B H : Hp⦄ ⦃σ : L2.St⦄ ⦃δ : List S⦄, Env K J B0 H0 B H σ δ → ∀ k : Option Int → Prop, w δ k → ∀ Q : Option Int → Hp → Prop,
  (∀ x B' H', k x → Grow J B H B' H' → Own J B' H' → Q x H') → to σ H Q
structure Do (X : Cx) (e : Option Expr) (w : DO) : Prop where
  ex : ∃ t, PO X e t ∧ EvO X.K t w
def woNone : DO := fun _ k => k none
def woSome (wa : DE) : DO := fun δ k => wa δ fun x => ∃ i, x = .c (.int i) ∧ k (some i)
theorem do_none : Do X none woNone := by
  refine ⟨_, po_none, ?_⟩
  intro J B0 H0 B H σ δ e k h Q q
  exact q none B H h (.refl e.bh) e.ow
theorem do_some {wa : DE} (ha : De X a wa) : Do X (some a) (woSome wa) := by
  obtain ⟨ta, pa, va⟩ := ha.ex
  refine ⟨_, po_some pa, ?_⟩
  intro J B0 H0 B H σ δ e k h Q q
  refine va e _ h _ fun x v B1 H1 h1 g1 w1 r1 => ?_
  obtain ⟨i, rfl, h1⟩ := h1
  have r1 : Rep X.K B1 (.int i) v := r1
  rw [Rep] at r1
  exact ⟨i, r1, q _ B1 H1 h1 g1 w1⟩
def cutD (xs : List D) (lo hi : Option Int) : List D := (xs.drop (HT.sIx xs.length 0 lo)).take (HT.sIx xs.length xs.length hi - HT.sIx xs.length 0 lo)
theorem Reps.cut {K : PySem.W.Frag} {B : Hp} {ds : List D} {xs : List V} (r : Reps K B ds xs) (lo hi : Option Int) : Reps K B (cutD ds lo hi) (cutV xs lo hi) := by
  unfold cutD cutV
  rw [r.len]
  exact (r.drop _).take _
def rSlD (d : D) (lo hi : Option Int) (k : DV → Prop) : Prop := match d with
  | .tup ds => k (.c (.tup (cutD ds lo hi)))
  | .lst ds => k (.f (cutD ds lo hi))
  | _ => False
def wSl (wa : DE) (wl wh : DO) : DE := fun δ k => wa δ fun x => wl δ fun lo => wh δ fun hi => ∃ d, rd δ x = some d ∧ rSlD d lo hi k
theorem cutD_whole {xs : List D} {lo hi : Option Int} (h : HT.sIx xs.length 0 lo = 0 ∧ HT.sIx xs.length xs.length hi = xs.length) : cutD xs lo hi = xs := by
  unfold cutD
  rw [h.1, h.2]
  simp
theorem de_slice {lo hi : Option Expr} {p2 : Pos} {wa : DE} {wl wh : DO} (ha : De X a wa) (hl : Do X lo wl) (hh : Do X hi wh) : De X (.Subscript a (.Slice lo hi none p2) pos) (wSl wa wl wh) := by
  obtain ⟨ta, pa, va⟩ := ha.ex
  obtain ⟨tl, pl, vl⟩ := hl.ex
  obtain ⟨th, ph, vh⟩ := hh.ex
  refine ⟨_, pe_slice (SlR.or sl_tupA sl_list) pa pl ph, ?_⟩
  intro J B0 H0 B H σ δ e k h Q q
  refine va e _ h _ fun x v B1 H1 h1 g1 w1 r1 => ?_
  have e1 := e.step g1 w1
  refine vl e1 _ h1 _ fun lo B2 H2 h2 g2 w2 => ?_
  have e2 := e1.step g2 w2
  refine vh e2 _ h2 _ fun hi B3 H3 h3 g3 w3 => ?_
  have e3 := e2.step g3 w3
  obtain ⟨d, rx, h3⟩ := h3
  have t3 := ((r1.toT e1 e.nod rx).step g2).step g3
  have G := (g1.trans g2).trans g3
  unfold rSlD at h3
  cases d <;> try exact h3.elim
  case tup ds =>
    replace h3 : k (.c (.tup (cutD ds lo hi))) := h3
    obtain ⟨a, xs, rfl, aB, aH, ra⟩ := t3.tup e3.bh
    have l1 := ra.len
    refine .inl ⟨a, xs, rfl, aH, fun z => ?_, fun z p hp => ?_⟩
    · rw [l1] at z
      rw [cutD_whole z] at h3
      exact q _ _ B3 H3 h3 G w3 (by show Rep _ _ _ _; rw [Rep]; exact ⟨a, xs, rfl, aB, ra⟩)
    · exact fin_tup hp h3 e3.bh w3 (ra.cut _ _) fun z v B' H' kz g w r => q z v B' H' kz (G.trans g) w ((r σ δ).back G.ne)
  case lst ds =>
    obtain ⟨a, xs, rfl, aH, ra⟩ := t3.lst e3.bh
    exact .inr ⟨a, xs, rfl, SqL.of aH, fun p hp => fin_lst hp h3 e3.bh w3 (ra.cut _ _) fun z v B' H' kz g w r => q z v B' H' kz (G.trans g) w ((r σ δ).back G.ne)⟩

/-! ### built-ins by values -/
abbrev RcD := List D → (DV → Prop) → Prop
def DCall (K : PySem.W.Frag) (ρ : List V → Hp → VK → Prop) (r : RcD) : Prop := ∀ ⦃J : JT⦄ ⦃B H : Hp⦄ ⦃ds : List D⦄ ⦃k : DV → Prop⦄ ⦃vs : List V⦄ ⦃Q : VK⦄, r ds k → Same B H → Own J B H → RepTs K J B H ds vs →
  (∀ z v B' H', k z → Grow J B H B' H' → Own J B' H' → (∀ σ δ, RepV K J H B' H' σ δ z v) → Q v H') → ρ vs H Q
def wCB (r : RcD) (wa : DA) : DE := fun δ k => wa δ fun xs => ∃ ds, rds δ xs = some ds ∧ r ds k
theorem ev_cb {K : PySem.W.Frag} {ρ : List V → Hp → VK → Prop} {r : RcD} {ta : TA} {wa : DA} (hd : DCall K ρ r) (va : EvA K ta wa) : EvE K (tCB ρ ta) (wCB r wa) := by
  intro J B0 H0 B H σ δ e k h Q q
  refine va e _ h _ fun xs vs B1 H1 h1 g1 w1 r1 => ?_
  obtain ⟨ds, hc, h1⟩ := h1
  have e1 := e.step g1 w1
  exact hd h1 e1.bh w1 (r1.toT e1 e.nod hc) fun z v B' H' kz g w r => q z v B' H' kz (g1.trans g) w ((r σ δ).back g1.ne)
theorem de_callB {id : String} {ρ : List V → Hp → VK → Prop} {r : RcD} {wa : DA} {x : Str} {p : Pos} (hc : CallR X (.builtin id) ρ) (hd : DCall X.K ρ r) (hg : Gl X x) (hm : X.mg x = none) (hv : bootBuiltins x = some (.builtin id)) (ha : Da X (e :: es) wa)
    (hn : x ≠ "__name__" := by decide) (hdb : (x == ("__debug__" : Str)) = false := by decide)
    (he : starEach (e :: es) X.env = (false, eval e X.env) :: starEach es X.env := by rfl) (hpl : (backTo pos (starEach es X.env)).any (·.1) = false := by rfl) : De X (.Call (.Name x p) (e :: es) [] pos) (wCB r wa) := by
  obtain ⟨ta, pa, va⟩ := ha.ex
  exact ⟨_, pe_callB hc hg hm hv pa hn hdb he hpl, ev_cb hd va⟩
theorem de_callTy {T : String} {ρ : List V → Hp → VK → Prop} {r : RcD} {wa : DA} {x : Str} {p : Pos} (hc : CallR X (.type T) ρ) (hd : DCall X.K ρ r) (hg : Gl X x) (hm : X.mg x = none) (hv : bootBuiltins x = some (.type T)) (ha : Da X (e :: es) wa)
    (hn : x ≠ "__name__" := by decide) (hdb : (x == ("__debug__" : Str)) = false := by decide)
    (he : starEach (e :: es) X.env = (false, eval e X.env) :: starEach es X.env := by rfl) (hpl : (backTo pos (starEach es X.env)).any (·.1) = false := by rfl) : De X (.Call (.Name x p) (e :: es) [] pos) (wCB r wa) := by
  obtain ⟨ta, pa, va⟩ := ha.ex
  exact ⟨_, pe_callTy hc hg hm hv pa hn hdb he hpl, ev_cb hd va⟩
theorem ts1 {K : PySem.W.Frag} {J : JT} {B H : Hp} {d : D} {vs : List V} (h : RepTs K J B H [d] vs) : ∃ v, vs = [v] ∧ RepT K J B H d v := by
  obtain ⟨v, r, rfl, h1, h2⟩ := h
  cases (show r = [] from h2)
  exact ⟨v, rfl, h1⟩
theorem ts2 {K : PySem.W.Frag} {J : JT} {B H : Hp} {d d' : D} {vs : List V} (h : RepTs K J B H [d, d'] vs) : ∃ v v', vs = [v, v'] ∧ RepT K J B H d v ∧ RepT K J B H d' v' := by
  obtain ⟨v, r, rfl, h1, h2⟩ := h
  obtain ⟨v', rfl, h3⟩ := ts1 h2
  exact ⟨v, v', rfl, h1, h3⟩
/-- len -/
def cLen : RcD := fun ds k => match ds with
  | [.lst xs] => k (.c (.int xs.length))
  | [.tup xs] => k (.c (.int xs.length))
  | [.frl xs] => k (.c (.int xs.length))
  | _ => False
theorem dc_len {K : PySem.W.Frag} : DCall K (fun xs H Q => ∃ p ys, xs = [.ref p] ∧ (SqL K H p ys ∨ SqT K H p ys) ∧ Q (.int ys.length) H) cLen := by
  intro J B H ds k vs Q h s w t q
  unfold cLen at h
  split at h
  · obtain ⟨v, rfl, t1⟩ := ts1 t
    obtain ⟨a, xs, rfl, aH, ra⟩ := t1.lst s
    exact ⟨a, xs, rfl, .inl (SqL.of aH), fin_c h s w (by rw [Rep, ra.len]) q⟩
  · obtain ⟨v, rfl, t1⟩ := ts1 t
    obtain ⟨a, xs, rfl, aB, aH, ra⟩ := t1.tup s
    exact ⟨a, xs, rfl, .inr aH, fin_c h s w (by rw [Rep, ra.len]) q⟩
  · obtain ⟨v, rfl, t1⟩ := ts1 t
    have t1 := t1.rep (fun _ => by simp)
    rw [Rep] at t1
    obtain ⟨a, xs, rfl, aB, ra⟩ := t1
    exact ⟨a, xs, rfl, .inl (Same.seq s aB), fin_c h s w (by rw [Rep, ra.len]) q⟩
  · exact h.elim
/-- tuple(x), list(x) -/
def cTuple : RcD := fun ds k => match ds with
  | [.lst xs] => k (.c (.tup xs))
  | [.tup xs] => k (.c (.tup xs))
  | _ => False
def cList : RcD := fun ds k => match ds with
  | [.lst xs] => k (.f xs)
  | [.tup xs] => k (.f xs)
  | _ => False
theorem dc_tuple {K : PySem.W.Frag} : DCall K (fun xs H Q => ∃ p ys, xs = [.ref p] ∧ ((SqL K H p ys ∧ ∀ l, H l = none → Q (.ref l) (upd H l (.tup ys))) ∨ (SqT K H p ys ∧ Q (.ref p) H))) cTuple := by
  intro J B H ds k vs Q h s w t q
  unfold cTuple at h
  split at h
  · obtain ⟨v, rfl, t1⟩ := ts1 t
    obtain ⟨a, xs, rfl, aH, ra⟩ := t1.lst s
    exact ⟨a, xs, rfl, .inl ⟨SqL.of aH, fun p hp => fin_tup hp h s w ra q⟩⟩
  · obtain ⟨v, rfl, t1⟩ := ts1 t
    obtain ⟨a, xs, rfl, aB, aH, ra⟩ := t1.tup s
    exact ⟨a, xs, rfl, .inr ⟨aH, fin_c h s w (by rw [Rep]; exact ⟨a, xs, rfl, aB, ra⟩) q⟩⟩
  · exact h.elim
theorem dc_list {K : PySem.W.Frag} : DCall K (fun xs H Q => ∃ p ys, xs = [.ref p] ∧ (SqL K H p ys ∨ SqT K H p ys) ∧ ∀ l, H l = none → Q (.ref l) (upd H l (.lst ys))) cList := by
  intro J B H ds k vs Q h s w t q
  unfold cList at h
  split at h
  · obtain ⟨v, rfl, t1⟩ := ts1 t
    obtain ⟨a, xs, rfl, aH, ra⟩ := t1.lst s
    exact ⟨a, xs, rfl, .inl (SqL.of aH), fun p hp => fin_lst hp h s w ra q⟩
  · obtain ⟨v, rfl, t1⟩ := ts1 t
    obtain ⟨a, xs, rfl, aB, aH, ra⟩ := t1.tup s
    exact ⟨a, xs, rfl, .inr aH, fun p hp => fin_lst hp h s w ra q⟩
  · exact h.elim
/-- min, max of two, abs, int -/
def cII (g : Int → Int → D) : RcD := fun ds k => match ds with
  | [.int i, .int j] => k (.c (g i j))
  | _ => False
theorem dc_min {K : PySem.W.Frag} : DCall K (fun xs H Q => ∃ i j, xs = [.int i, .int j] ∧ Q (.int (if j < i then j else i)) H) (cII fun i j => .int (if j < i then j else i)) := by
  intro J B H ds k vs Q h s w t q
  unfold cII at h
  split at h
  · obtain ⟨v, v', rfl, t1, t2⟩ := ts2 t
    cases t1.int
    cases t2.int
    exact ⟨_, _, rfl, fin_c h s w (by rw [Rep]) q⟩
  · exact h.elim
theorem dc_max {K : PySem.W.Frag} : DCall K (fun xs H Q => ∃ i j, xs = [.int i, .int j] ∧ Q (.int (if j > i then j else i)) H) (cII fun i j => .int (if j > i then j else i)) := by
  intro J B H ds k vs Q h s w t q
  unfold cII at h
  split at h
  · obtain ⟨v, v', rfl, t1, t2⟩ := ts2 t
    cases t1.int
    cases t2.int
    exact ⟨_, _, rfl, fin_c h s w (by rw [Rep]) q⟩
  · exact h.elim
def cAbs : RcD := fun ds k => match ds with
  | [.int i] => k (.c (.int (if i < 0 then -i else i)))
  | _ => False
theorem dc_abs {K : PySem.W.Frag} : DCall K (fun xs H Q => ∃ i, xs = [.int i] ∧ Q (.int (if i < 0 then -i else i)) H) cAbs := by
  intro J B H ds k vs Q h s w t q
  unfold cAbs at h
  split at h
  · obtain ⟨v, rfl, t1⟩ := ts1 t
    cases t1.int
    exact ⟨_, rfl, fin_c h s w (by rw [Rep]) q⟩
  · exact h.elim
def cInt : RcD := fun ds k => match ds with
  | [.int i] => k (.c (.int i))
  | [.bl t] => k (.c (.int (if t then 1 else 0)))
  | _ => False
theorem dc_int {K : PySem.W.Frag} : DCall K (fun xs H Q => (∃ i, xs = [.int i] ∧ Q (.int i) H) ∨ ∃ k, xs = [.bl k] ∧ Q (.int (if k then 1 else 0)) H) cInt := by
  intro J B H ds k vs Q h s w t q
  unfold cInt at h
  split at h
  · obtain ⟨v, rfl, t1⟩ := ts1 t
    cases t1.int
    exact .inl ⟨_, rfl, fin_c h s w (by rw [Rep]) q⟩
  · obtain ⟨v, rfl, t1⟩ := ts1 t
    cases t1.bl
    exact .inr ⟨_, rfl, fin_c h s w (by rw [Rep]) q⟩
  · exact h.elim
/-- isinstance(x, T), T a built-in type -/
def tyD : D → String
  | .non => "NoneType"
  | .bl _ => "bool"
  | .int _ => "int"
  | .str _ => "str"
  | .lst _ => "list"
  | .tup _ => "tuple"
  | .frl _ => "list"
  | .emp => "dict"
  | .ty _ => "type"
  | .rng _ _ => "range"
  | .dct _ _ => "dict"
/-- not a class -/
def noTy : D → Bool
  | .ty _ => false
  | .rng _ _ => false
  | .dct _ _ => false
  | _ => true
theorem noTy_ne {d : D} (h : noTy d = true) : ∀ m, d ≠ .ty m := fun m e => by subst e; cases h
def cIsi : RcD := fun ds k => match ds with
  | [d, .ty n] => noTy d = true ∧ ∃ t, kitB (tyD d) n = some t ∧ k (.c (.bl t))
  | _ => False
theorem tyx_of {K : PySem.W.Frag} {J : JT} {B H : Hp} {d : D} {v : V} (s : Same B H) (nt : noTy d = true) (h : RepT K J B H d v) : TyX K H v (.type (tyD d)) := by
  cases d with
  | non => cases h.non; exact .base .non
  | bl b => cases h.bl; exact .base (.bl b)
  | int i => cases h.int; exact .base (.int i)
  | str x => cases h.str; exact .base (.str x)
  | lst ds => obtain ⟨a, xs, rfl, aH, _⟩ := h.lst s; exact .base (.lst aH)
  | tup ds =>
    obtain ⟨a, xs, rfl, _, aH, _⟩ := h.tup s
    rcases aH with (aH | ⟨o, aH⟩) | ⟨o, its, n, hk, hc, _⟩
    · exact .base (.tup aH)
    · exact .fTuple aH
    · exact .kTuple hk hc
  | frl ds =>
    have t := h.rep (fun _ => by simp)
    rw [Rep] at t
    obtain ⟨a, xs, rfl, aB, ra⟩ := t
    rcases Same.seq s aB with (aH | ⟨o, aH⟩) | ⟨o, its, n, hk, hc, _⟩
    · exact .base (.lst aH)
    · exact .base (.frz aH)
    · exact .kList hk hc
  | emp =>
    have t := h.rep (fun _ => by simp)
    rw [Rep] at t
    obtain ⟨a, rfl, aB⟩ := t
    exact .base (.dK (s _ _ aB))
  | ty n => cases nt
  | rng lo hi => cases nt
  | dct ks ds => cases nt
theorem dc_isi {K : PySem.W.Frag} : DCall K (rIsi K) cIsi := by
  intro J B H ds k vs Q h s w t q
  unfold cIsi at h
  split at h
  · rename_i d n
    obtain ⟨v, v', rfl, t1, t2⟩ := ts2 t
    obtain ⟨nt, b, hk, h⟩ := h
    have t2 := t2.rep (fun _ => by simp)
    rw [Rep] at t2; subst t2
    exact ⟨v, _, _, _, b, rfl, .ty n, tyx_of s nt t1, kit_ty hk, fin_c h s w (by rw [Rep]) q⟩
  · exact h.elim

end
end Dl
namespace Dl
open PySem PySem.Spec PyProof.Rows L2
section
variable {X : Cx} {e a b c : Expr} {es : List Expr} {pos : Pos}
/-! ### defs -/
def ArgOk (K : PySem.W.Frag) (J : JT) (B : Hp) : S → V → Prop
  | .val d, v => Rep K B d v
  | .dice, v => ∃ a, J.a = some a ∧ v = .ref a
  | _, _ => False
def ArgsOk (K : PySem.W.Frag) (J : JT) (B : Hp) : List S → List V → Prop
  | [], vs => vs = []
  | s :: ss, vs => ∃ v r, vs = v :: r ∧ ArgOk K J B s v ∧ ArgsOk K J B ss r
/-- a def's promise over data: it may use up dice; what it hands back is known, or a new list -/
def SpD (K : PySem.W.Frag) (n : Nat) (pre : List S → Prop) (post : List S → DV → Prop) : Sp := fun vs H Q _ => ∃ J B xs, xs.length = n ∧ ArgsOk K J B xs vs ∧ SameJ K J B H ∧ Own J B H ∧ pre xs ∧
  ∀ r v B' H', post xs r → Grow J B H B' H' → Own J B' H' → RepV K J H B' H' [] [] r v → Q v H'
theorem rv_any {K : PySem.W.Frag} {J : JT} {Hs B H : Hp} {r : DV} {v : V} (h : RepV K J Hs B H [] [] r v) (nj : r ≠ .j) (σ : L2.St) (δ : List S) : RepV K J Hs B H σ δ r v := by
  cases r with
  | c d => exact h
  | f ds => exact h
  | o i => obtain ⟨⟨ds, e⟩, _⟩ := h; simp at e
  | j => exact absurd rfl nj
theorem ArgsOk.len {K : PySem.W.Frag} {J : JT} {B : Hp} : ∀ {xs : List S} {vs : List V}, ArgsOk K J B xs vs → vs.length = xs.length
  | [], _, h => by rw [show _ = [] from h]; rfl
  | s :: ss, _, h => by obtain ⟨v, r, rfl, _, h2⟩ := h; simp [h2.len]
def toS : List DV → Option (List S)
  | [] => some []
  | .j :: xs => (toS xs).map (S.dice :: ·)
  | x :: xs => match cl x, toS xs with
    | some d, some ss => some (.val d :: ss)
    | _, _ => none
/-- all that may be kept of them is kept -/
def cj : List DV → List D
  | [] => []
  | x :: xs => match cl x with
    | some d => d :: cj xs
    | none => cj xs
section
variable {K : PySem.W.Frag} {J : JT} {Hs B B' H' : Hp} {σ : L2.St} {δ : List S}
theorem RepVs.args {xs : List DV} (ws : NoD J Hs) : ∀ {vs : List V} {ss : List S}, Grow J B Hs B' H' → Own J B' H' → RepVs K J Hs B' H' σ δ xs vs → toS xs = some ss →
    ∃ B2, Grow J B Hs B2 H' ∧ Own J B2 H' ∧ Same B' B2 ∧ ArgsOk K J B2 ss vs ∧ ∀ b, (∀ (j : Nat) es, xs[j]? = some (.f es) → vs[j]? ≠ some (.ref b)) → B2 b = B' b := by
  induction xs with
  | nil => intro vs ss g w h e; cases e; cases (show vs = [] from h); exact ⟨B', g, w, .refl _, rfl, fun _ _ => rfl⟩
  | cons x xs ih =>
    intro vs ss g w h e
    obtain ⟨v, r, rfl, h1, h2, h3⟩ := h
    have val : ∀ d, cl x = some d → ∀ ss', toS xs = some ss' → ss = .val d :: ss' → ∃ B2, Grow J B Hs B2 H' ∧ Own J B2 H' ∧ Same B' B2 ∧ ArgsOk K J B2 ss (v :: r) ∧ ∀ b, (∀ (j : Nat) es, (x :: xs)[j]? = some (.f es) → (v :: r)[j]? ≠ some (.ref b)) → B2 b = B' b := by
      intro d hx ss' hxs hss
      subst hss
      obtain ⟨B2, g2, w2, s2, r2, f2⟩ := ih g w h2 hxs
      have h1' : RepV K J Hs B2 H' σ δ x v := by
        cases x with
        | c d' => exact Rep.mono s2 h1
        | f es =>
          obtain ⟨a, ys, rfl, nS, nB, hH, q⟩ := h1
          exact ⟨a, ys, rfl, nS, by rw [f2 a fun j es' e1 e2 => h3 _ rfl j es' e1 e2]; exact nB, hH, q.mono s2⟩
        | o i => exact h1
        | j => exact h1
      obtain ⟨B3, g3, w3, s3, r3, f3⟩ := h1'.keep ws g2 w2 hx
      have am : ∀ {ss : List S} {vs : List V}, ArgsOk K J B2 ss vs → ArgsOk K J B3 ss vs := by
        intro ss
        induction ss with
        | nil => intro vs h; exact h
        | cons s ss ih =>
          intro vs h
          obtain ⟨v, r, rfl, a1, a2⟩ := h
          refine ⟨v, r, rfl, ?_, ih a2⟩
          cases s with
          | val d => exact Rep.mono s3 a1
          | dice => exact a1
          | no => exact a1
          | own _ => exact a1
          | ownd _ _ => exact a1
          | lent _ => exact a1
      refine ⟨B3, g3, w3, s2.trans s3, ⟨v, r, rfl, r3, am r2⟩, fun b hb => ?_⟩
      rw [f3 b fun es e1 e2 => hb 0 es (by simp [e1]) (by simp [e2]), f2 b fun j es e1 e2 => hb (j + 1) es (by simpa using e1) (by simpa using e2)]
    cases x with
    | c d =>
      cases hxs : toS xs with
      | none => simp [toS, cl, hxs] at e
      | some ss' => exact val d rfl ss' hxs (by simpa [toS, cl, hxs] using e.symm)
    | f es =>
      cases hxs : toS xs with
      | none => simp [toS, cl, hxs] at e
      | some ss' => exact val (.lst es) rfl ss' hxs (by simpa [toS, cl, hxs] using e.symm)
    | o i => simp [toS, cl] at e
    | j =>
      cases hxs : toS xs with
      | none => simp [toS, hxs] at e
      | some ss' =>
        have : ss = .dice :: ss' := by simpa [toS, hxs] using e.symm
        subst this
        obtain ⟨B2, g2, w2, s2, r2, f2⟩ := ih g w h2 hxs
        exact ⟨B2, g2, w2, s2, ⟨v, r, rfl, h1, r2⟩, fun b hb => f2 b fun j es e1 e2 => hb (j + 1) es (by simpa using e1) (by simpa using e2)⟩
end
/-- the call of a def; what comes back is known or a new list -/
def wCall (n : Nat) (pre : List S → Prop) (post : List S → DV → Prop) (wa : DA) : DE := fun δ k => wa δ fun xs => ∃ ss, toS xs = some ss ∧ ss.length = n ∧ pre ss ∧ ∀ r, post ss r → r ≠ .j ∧ k r
theorem de_call {CX : CXT} {k n : Nat} {f : Addr} {fd : FuncData} {ps : List Str} {pre : List S → Prop} {post : List S → DV → Prop} {x : Str} {p : Pos} {wa : DA} {E : XK}
    (F : FnOk X.prog X.w X.K X.mg X.base CX k f fd ps (SpD X.K n pre post)) (hr : Room k X.A) (hg : Gl X x) (hm : X.mg x = some (.ref f)) (hk : PySem.W.keepIn X.K (.ref f) = true) (hb : Binds X.K fd ps []) (hx : Passes CX X E)
    (ha : Da X (e :: es) wa) (hdb : (x == ("__debug__" : Str)) = false := by decide) (he : starEach (e :: es) X.env = (false, eval e X.env) :: starEach es X.env := by rfl) (hpl : (backTo pos (starEach es X.env)).any (·.1) = false := by rfl) :
    De X (.Call (.Name x p) (e :: es) [] pos) (wCall n pre post wa) := by
  obtain ⟨ta, pa, va⟩ := ha.ex
  refine ⟨_, pe_call F hr hg hm hk hb .nil hx pa hdb he hpl, ?_⟩
  intro J B0 H0 B H σ δ e k h Q q
  refine va e _ h _ fun xs vs B1 H1 h1 g1 w1 r1 => ?_
  obtain ⟨ss, hs, hn, hp, h1⟩ := h1
  obtain ⟨B2, g2, w2, _, r2, _⟩ := r1.args e.nod g1 w1 hs
  show SpD _ _ _ _ (vs ++ []) H1 Q _
  rw [List.append_nil]
  exact ⟨J, B2, ss, hn, r2, ⟨g2.bh, e.jl.2⟩, w2, hp, fun r v B' H' po g w rr => q r v B' H' (h1 r po).2 (g2.trans g) w ((rv_any rr (h1 r po).1 σ δ).back g2.ne)⟩
/-- the call of a def whose first argument is a new list of dice -/
def wCallF (n : Nat) (pre : List S → Prop) (post : List S → DV → Prop) (wa : DA) : DE := fun δ k => wa δ fun xs => ∃ l m c ys ss, xs = .f [.int l, .int m, .int c] :: ys ∧ 0 ≤ l ∧ toS ys = some ss ∧ (∀ s ∈ ss, ∃ d, s = .val d) ∧ (ss.length + 1 = n) ∧ pre (.dice :: ss) ∧
  ∀ r, post (.dice :: ss) r → r ≠ .j ∧ k r
theorem Grow.ofDice {J : JT} {a : Addr} {B H B1 H1 B2 H2 : Hp} (n : H a = none) (g1 : Grow J B H B1 H1) (g2 : Grow (J.to a) B1 H1 B2 H2) (nj : J.a ≠ some a) : Grow J B H B2 H2 :=
  ⟨g1.bb.trans g2.bb, g2.bh, ⟨fun b o hb nt e => g2.kp.hk b o (fun z => by cases z; rw [n] at e; cases e) nt (g1.kp.hk b o hb nt e), fun t => g2.kp.tb (g1.kp.tb t)⟩, fun b e => g2.ne b (g1.ne b e), fun b e => (g2.fr b (g1.ne b e)).trans (g1.fr b e)⟩
theorem Own.ofDice {J : JT} {a : Addr} {B1 H1 B2 H2 : Hp} (w : Own J B1 H1) (g2 : Grow (J.to a) B1 H1 B2 H2) (w' : Own (J.to a) B2 H2) (nj : J.a ≠ some a) : Own J B2 H2 := ⟨fun b e => by
  obtain ⟨h1, l, m, c, h0, h2⟩ := w.dc b e
  exact ⟨by rw [g2.fr b (by rw [h2]; simp)]; exact h1, l, m, c, h0, g2.hh b _ (fun z => nj (by have z : some a = some b := z; rw [e, z])) h2⟩, w'.tb, w'.nt⟩
theorem args_dice {K : PySem.W.Frag} {J J' : JT} {B : Hp} : ∀ {ss : List S} {vs : List V}, (∀ s ∈ ss, ∃ d, s = .val d) → ArgsOk K J B ss vs → ArgsOk K J' B ss vs
  | [], _, _, h => h
  | s :: ss, _, hs, h => by
    obtain ⟨v, r, rfl, h1, h2⟩ := h
    obtain ⟨d, rfl⟩ := hs s List.mem_cons_self
    exact ⟨v, r, rfl, h1, args_dice (fun s z => hs s (List.mem_cons_of_mem _ z)) h2⟩
theorem de_callF {CX : CXT} {k n : Nat} {f : Addr} {fd : FuncData} {ps : List Str} {pre : List S → Prop} {post : List S → DV → Prop} {x : Str} {p : Pos} {wa : DA} {E : XK}
    (F : FnOk X.prog X.w X.K X.mg X.base CX k f fd ps (SpD X.K n pre post)) (hr : Room k X.A) (hg : Gl X x) (hm : X.mg x = some (.ref f)) (hk : PySem.W.keepIn X.K (.ref f) = true) (hb : Binds X.K fd ps []) (hx : Passes CX X E)
    (ha : Da X (e :: es) wa) (hdb : (x == ("__debug__" : Str)) = false := by decide) (he : starEach (e :: es) X.env = (false, eval e X.env) :: starEach es X.env := by rfl) (hpl : (backTo pos (starEach es X.env)).any (·.1) = false := by rfl) :
    De X (.Call (.Name x p) (e :: es) [] pos) (wCallF n pre post wa) := by
  obtain ⟨ta, pa, va⟩ := ha.ex
  refine ⟨_, pe_call F hr hg hm hk hb .nil hx pa hdb he hpl, ?_⟩
  intro J B0 H0 B H σ δ e k h Q q
  refine va e _ h _ fun xs vs B1 H1 h1 g1 w1 r1 => ?_
  obtain ⟨l, m, c, ys, ss, rfl, hl, hs, hv, hn, hp, h1⟩ := h1
  obtain ⟨v, r, rfl, ⟨a, ws, rfl, nS, nB, hH, rr⟩, r2, r3⟩ := r1
  obtain ⟨B2, g2, w2, s2, r2', f2⟩ := r2.args e.nod g1 w1 hs
  have nj : J.a ≠ some a := fun z => e.nod a z nS
  have hB2 : B2 a = none := by rw [f2 a fun j es e1 e2 => r3 _ rfl j es e1 e2]; exact nB
  have hws : ws = [.int l, .int m, .int c] := reps_ints_eq (ns := [l, m, c]) rr
  subst hws
  show SpD _ _ _ _ ((V.ref a :: r) ++ []) H1 Q _
  rw [List.append_nil]
  refine ⟨J.to a, B2, .dice :: ss, by simpa using hn, ⟨_, _, rfl, ⟨a, rfl, rfl⟩, args_dice hv r2'⟩, ⟨g2.bh, e.jl.2⟩, ⟨fun b z => ?_, w2.tb, w2.nt⟩, hp, fun r v B' H' po g w rr => ?_⟩
  · have z : some a = some b := z
    cases z; exact ⟨hB2, l, m, c, hl, hH⟩
  · have g3 := Grow.ofDice nS g2 g nj
    have rr' : RepV X.K J H1 B' H' σ δ r v := by
      have := rv_any rr (h1 r po).1 σ δ
      cases r with
      | c d => exact this
      | f ds => exact this
      | o i => exact this
      | j => exact absurd rfl (h1 _ po).1
    exact q r v B' H' (h1 r po).2 g3 (w2.ofDice g w nj) (rr'.back g2.ne)
end
end Dl
namespace Dl
open PySem PySem.Spec PyProof.Rows L2

/-! ### the slots change -/
def sv : DV → Option S
  | .c d => some (.val d)
  | .f ds => some (.own ds)
  | _ => none
section
variable {K : PySem.W.Frag} {J : JT} {B0 H0 B H B1 H1 : Hp} {σ σ' : L2.St} {δ δ' : List S} {x : DV} {d : D} {v : V} {s : S} {i : Nat}
theorem getD_set {σ : L2.St} {i j : Nat} {o : Option V} : ((σ.set i o)[j]?).getD none = if i = j ∧ j < σ.length then o else (σ[j]?).getD none := by
  rw [List.getElem?_set]
  by_cases h : i = j
  · subst h
    by_cases h2 : i < σ.length
    · simp [h2]
    · simp [h2, List.getElem?_eq_none (Nat.le_of_not_lt h2)]
  · simp [h]
/-- .. at one heap -/
theorem Env.put2 {Hs : Hp} (e : Env K J B0 H0 B H σ δ) (r : RepV K J Hs B H σ' δ' x v) (hs : sv x = some s) (i : Nat) (hn : ∀ ds, x = .f ds → ∀ a, v = .ref a → ∀ (k : Nat) es, δ[k]? = some (.own es) → σ[k]? = some (some (.ref a)) → False) (h0 : ∀ b, H0 b ≠ none → Hs b ≠ none) :
    Env K J B0 H0 B H (σ.set i (some v)) (δ.set i s) := by
  have rs : RS K J H0 B H s (some v) := by
    cases x with
    | c d => cases hs; exact ⟨v, rfl, r⟩
    | f ds =>
      cases hs
      obtain ⟨a, xs, rfl, nS, nB, hH, rr⟩ := r
      exact ⟨a, xs, rfl, Classical.byContradiction fun z => h0 a z nS, nB, hH, rr⟩
    | o i => cases hs
    | j => cases hs
  refine ⟨e.gr, e.ow, e.jl, by simp [e.ln], fun j s' h => ?_, fun j k ds es a njk h1 h2 h3 h4 => ?_⟩
  · rw [getD_set]
    rw [List.getElem?_set] at h
    by_cases hij : i = j
    · subst hij
      by_cases h2 : i < δ.length
      · simp [h2] at h
        subst h
        rw [if_pos ⟨rfl, by rw [← e.ln]; exact h2⟩]
        exact rs
      · simp [h2] at h
    · rw [if_neg hij] at h
      rw [if_neg (fun z => hij z.1)]
      exact e.sl j s' h
  · have other : ∀ (j k : Nat) (ds es : List D), i = j → j ≠ k → s = .own ds → (δ.set i s)[k]? = some (S.own es) → some v = some (V.ref a) → (σ.set i (some v))[k]? = some (some (.ref a)) → False := by
      intro j k ds es hij njk hsd hk hv hk2
      subst hij
      rw [List.getElem?_set, if_neg njk] at hk hk2
      subst hsd
      cases x with
      | c d => cases hs
      | f ds' => exact hn ds' rfl a (Option.some.inj hv) k es hk hk2
      | o i => cases hs
      | j => cases hs
    by_cases hij : i = j
    · have hlt : i < δ.length := by
        rw [hij]
        have := (List.getElem?_eq_some_iff.mp h1).1
        simpa using this
      have hlt2 : i < σ.length := by rw [← e.ln]; exact hlt
      refine other j k ds es hij njk ?_ h2 ?_ h4
      · rw [List.getElem?_set, if_pos hij] at h1
        simp [hlt] at h1; exact h1
      · rw [List.getElem?_set, if_pos hij] at h3
        simp [hlt2] at h3
        rw [h3]
    · by_cases hik : i = k
      · have hlt : i < δ.length := by
          rw [hik]
          have := (List.getElem?_eq_some_iff.mp h2).1
          simpa using this
        have hlt2 : i < σ.length := by rw [← e.ln]; exact hlt
        refine other k j es ds hik (Ne.symm njk) ?_ h1 ?_ h3
        · rw [List.getElem?_set, if_pos hik] at h2
          simp [hlt] at h2; exact h2
        · rw [List.getElem?_set, if_pos hik] at h4
          simp [hlt2] at h4
          rw [h4]
      · rw [List.getElem?_set, if_neg hij] at h1 h3
        rw [List.getElem?_set, if_neg hik] at h2 h4
        exact e.ap j k ds es a njk h1 h2 h3 h4
/-- a slot gets a value -/
theorem Env.put (e : Env K J B0 H0 B H σ δ) (g : Grow J B H B1 H1) (w : Own J B1 H1) (r : RepV K J H B1 H1 σ δ x v) (hs : sv x = some s) (i : Nat) : Env K J B0 H0 B1 H1 (σ.set i (some v)) (δ.set i s) := by
  refine (e.step g w).put2 r hs i (fun ds hx a hv k es hk hsk => ?_) e.gr.ne
  subst hx
  obtain ⟨a2, xs2, p1, p2, p3, p4, _⟩ := e.ownJ hk
  rw [hsk] at p1; cases p1
  obtain ⟨a3, _, p5, p6, _⟩ := r
  rw [hv] at p5; cases p5
  rw [p4] at p6; cases p6
theorem Env.putc (e : Env K J B0 H0 B H σ δ) (r : Rep K B d v) (i : Nat) : Env K J B0 H0 B H (σ.set i (some v)) (δ.set i (.val d)) :=
  e.put (x := .c d) (.refl e.bh) e.ow r rfl i
/-- a list of one's own changes -/
theorem Env.change {a : Addr} {ds ds' : List D} {xs xs' : List V} (e : Env K J B0 H0 B H σ δ) (hd : δ[i]? = some (.own ds)) (hs : σ[i]? = some (some (.ref a))) (hH : H a = some (.lst xs)) (r : Reps K B ds' xs') :
    Env K J B0 H0 B (upd H a (.lst xs')) σ (δ.set i (.own ds')) := by
  obtain ⟨a', xs2, q1, n0, nB, q4, q5, nj⟩ := e.ownJ hd
  rw [hs] at q1; cases q1
  refine ⟨⟨e.gr.bb, fun b o eb => ?_, e.gr.kp.put n0 hH pl0_lst, fun b eb => ?_, e.gr.fr⟩, ⟨fun b z => ?_, tabs_put hH pl0_lst e.ow.tb, e.ow.nt⟩, e.jl, by simp [e.ln], fun j s' h => ?_, fun j k ds es a2 njk h1 h2 h3 h4 => ?_⟩
  · rw [upd_ne (fun z => by rw [z, nB] at eb; cases eb)]; exact e.gr.bh b o eb
  · by_cases hb : b = a
    · rw [hb, upd_same]; simp
    · rw [upd_ne hb]; exact e.gr.ne b eb
  · obtain ⟨h1, l, m, c, h0, h2⟩ := e.ow.dc b z
    exact ⟨h1, l, m, c, h0, by rw [upd_ne (fun q => nj (by rw [z, q]))]; exact h2⟩
  · rw [List.getElem?_set] at h
    by_cases hij : i = j
    · subst hij
      have hlt : i < δ.length := (List.getElem?_eq_some_iff.mp hd).1
      simp [hlt] at h
      subst h
      rw [hs]
      exact ⟨a, xs', rfl, n0, nB, upd_same, r⟩
    · rw [if_neg hij] at h
      have q := e.sl j s' h
      cases s' with
      | no => trivial
      | val d => exact q
      | dice => exact q
      | own es =>
        obtain ⟨a2, ys, q1, q2, q3, q4, q5⟩ := q
        have hj : σ[j]? = some (some (.ref a2)) := by
          obtain ⟨o, ho, _⟩ := e.slot h
          rw [ho] at q1 ⊢
          simp at q1; rw [q1]
        have na : a2 ≠ a := fun z => e.ap i j ds es a hij hd h hs (by rw [← z]; exact hj)
        exact ⟨a2, ys, q1, q2, q3, by rw [upd_ne na]; exact q4, q5⟩
      | ownd ks es =>
        obtain ⟨a2, ys, q1, q2, q3, q4, ql, q5⟩ := q
        have na : a2 ≠ a := fun z => by rw [z, hH] at q4; cases q4
        exact ⟨a2, ys, q1, q2, q3, by rw [upd_ne na]; exact q4, ql, q5⟩
      | lent es =>
        obtain ⟨a2, ys, q1, q2, q3, q4, q5⟩ := q
        exact ⟨a2, ys, q1, q2, q3, q4, q5⟩
  · have back : ∀ (j : Nat) (ds : List D), (δ.set i (.own ds'))[j]? = some (S.own ds) → ∃ es, δ[j]? = some (S.own es) := by
      intro j ds h
      rw [List.getElem?_set] at h
      by_cases hij : i = j
      · subst hij; exact ⟨_, hd⟩
      · rw [if_neg hij] at h; exact ⟨_, h⟩
    obtain ⟨_, h1⟩ := back j _ h1
    obtain ⟨_, h2⟩ := back k _ h2
    exact e.ap j k _ _ a2 njk h1 h2 h3 h4
/-- a list of one's own is no more changed -/
theorem Env.freezeX {ds : List D} (e : Env K J B0 H0 B H σ δ) (hd : δ[i]? = some (.own ds)) : ∃ B2, Env K J B0 H0 B2 H σ (δ.set i (.val (.lst ds))) ∧ Same B B2 ∧ ∃ a, σ[i]? = some (some (.ref a)) ∧ Rep K B2 (.lst ds) (.ref a) ∧ ∀ b, b ≠ a → B2 b = B b := by
  obtain ⟨a, xs, hs, n0, nB, hH, r, nj⟩ := e.ownJ hd
  have sm : Same B (upd B a (.lst xs)) := upd_same_of nB
  have rp : Rep K (upd B a (.lst xs)) (.lst ds) (.ref a) := by rw [Rep]; exact ⟨a, xs, rfl, upd_same, r.mono sm⟩
  refine ⟨upd B a (.lst xs), ⟨⟨e.gr.bb.trans sm, fun b o eb => ?_, e.gr.kp, e.gr.ne, fun b eb => ?_⟩, ⟨fun b z => ?_, e.ow.tb, e.ow.nt_upd⟩, e.jl, by simp [e.ln], fun j s' h => ?_, fun j k ds' es a2 njk h1 h2 h3 h4 => ?_⟩, sm, a, hs, rp, fun b nb => upd_ne nb⟩
  · by_cases hb : b = a
    · subst hb; rw [upd_same] at eb; cases eb; exact hH
    · rw [upd_ne hb] at eb; exact e.gr.bh b o eb
  · rw [upd_ne (fun z => by rw [z] at eb; exact eb n0)]; exact e.gr.fr b eb
  · obtain ⟨h1, l, m, c, h0, h2⟩ := e.ow.dc b z
    exact ⟨by rw [upd_ne (fun q => nj (by rw [z, q]))]; exact h1, l, m, c, h0, h2⟩
  · rw [List.getElem?_set] at h
    by_cases hij : i = j
    · subst hij
      have hlt : i < δ.length := (List.getElem?_eq_some_iff.mp hd).1
      simp [hlt] at h
      subst h
      rw [hs]
      exact ⟨_, rfl, rp⟩
    · rw [if_neg hij] at h
      have q := e.sl j s' h
      cases s' with
      | no => trivial
      | val d => obtain ⟨v, q1, q2⟩ := q; exact ⟨v, q1, q2.mono sm⟩
      | dice => exact q
      | own es =>
        obtain ⟨a2, ys, q1, q2, q3, q4, q5⟩ := q
        have hj : σ[j]? = some (some (.ref a2)) := by
          obtain ⟨o, ho, _⟩ := e.slot h
          rw [ho] at q1 ⊢
          simp at q1; rw [q1]
        have na : a2 ≠ a := fun z => e.ap i j ds es a hij hd h hs (by rw [← z]; exact hj)
        exact ⟨a2, ys, q1, q2, by rw [upd_ne na]; exact q3, q4, q5.mono sm⟩
      | ownd ks es =>
        obtain ⟨a2, ys, q1, q2, q3, q4, ql, q5⟩ := q
        have na : a2 ≠ a := fun z => by rw [z, hH] at q4; cases q4
        exact ⟨a2, ys, q1, q2, by rw [upd_ne na]; exact q3, q4, ql, q5.mono sm⟩
      | lent es =>
        obtain ⟨a2, ys, q1, q2, q3, q4, q5⟩ := q
        have na : a2 ≠ a := fun z => by rw [z, n0] at q3; cases q3
        exact ⟨a2, ys, q1, q2, q3, by rw [upd_ne na]; exact q4, q5.mono sm⟩
  · have back : ∀ (j : Nat) (ds' : List D), (δ.set i (.val (.lst ds)))[j]? = some (S.own ds') → δ[j]? = some (S.own ds') := by
      intro j ds' h
      rw [List.getElem?_set] at h
      by_cases hij : i = j
      · subst hij
        have hlt : i < δ.length := (List.getElem?_eq_some_iff.mp hd).1
        simp [hlt] at h
      · rw [if_neg hij] at h; exact h
    exact e.ap j k _ _ a2 njk (back j _ h1) (back k _ h2) h3 h4
theorem Env.freeze {ds : List D} (e : Env K J B0 H0 B H σ δ) (hd : δ[i]? = some (.own ds)) : ∃ B2, Env K J B0 H0 B2 H σ (δ.set i (.val (.lst ds))) ∧ Same B B2 ∧ ∃ a, σ[i]? = some (some (.ref a)) ∧ Rep K B2 (.lst ds) (.ref a) := by
  obtain ⟨B2, h1, h2, a, h3, h4, _⟩ := e.freezeX hd
  exact ⟨B2, h1, h2, a, h3, h4⟩
/-- more is known ahead of a loop -/
theorem Env.rebase (e : Env K J B0 H0 B H σ δ) : Env K J B H0 B H σ δ :=
  ⟨⟨.refl _, e.gr.bh, e.gr.kp, e.gr.ne, fun _ _ => rfl⟩, e.ow, e.jl, e.ln, e.sl, e.ap⟩
theorem Grow.unbase {B2 H2 : Hp} (g : Grow J B0 H0 B H) (g2 : Grow J B H0 B2 H2) : Grow J B0 H0 B2 H2 :=
  ⟨g.bb.trans g2.bb, g2.bh, g2.kp, g2.ne, fun b e => (g2.fr b e).trans (g.fr b e)⟩
theorem Env.unbase {B2 H2 : Hp} {σ2 : L2.St} {δ2 : List S} (e : Env K J B0 H0 B H σ δ) (e2 : Env K J B H0 B2 H2 σ2 δ2) : Env K J B0 H0 B2 H2 σ2 δ2 :=
  ⟨e.gr.unbase e2.gr, e2.ow, e2.jl, e2.ln, e2.sl, e2.ap⟩
end

section
variable {X : Cx} {e a b c tg iter : Expr} {es : List Expr} {pos : Pos} {st : Stmt} {rest body : List Stmt}
theorem dss_nil : Dss X [] (fun R δ => R.nx δ) := by
  refine ⟨_, pss_nil, ?_⟩
  intro J B0 H0 B H σ δ e R h En F
  exact F.nx h e
def wSeq (w1 w2 : DS) : DS := fun R δ => w1 { R with nx := w2 R } δ
theorem dss_cons {w1 w2 : DS} (h1 : Ds X st w1) (h2 : Dss X rest w2) : Dss X (st :: rest) (wSeq w1 w2) := by
  obtain ⟨t1, p1, v1⟩ := h1.ex
  obtain ⟨t2, p2, v2⟩ := h2.ex
  refine ⟨_, pss_cons p1 p2, ?_⟩
  intro J B0 H0 B H σ δ e R h En F
  exact v1 e { R with nx := w2 R } h { En with nx := t2 En } ⟨fun h' e' => v2 e' R h' En F, F.rt, F.bk, F.ct⟩
theorem dss_one {w1 : DS} (h1 : Ds X st w1) : Dss X [st] w1 := by
  obtain ⟨t1, p1, v1⟩ := h1.ex
  exact ⟨_, pss_one p1, v1⟩
theorem ds_pass : Ds X (.Pass pos) (fun R δ => R.nx δ) := by
  refine ⟨_, ps_pass, ?_⟩
  intro J B0 H0 B H σ δ e R h En F
  exact F.nx h e
theorem ds_break : Ds X (.Break pos) (fun R δ => R.bk δ) := by
  refine ⟨_, ps_break, ?_⟩
  intro J B0 H0 B H σ δ e R h En F
  exact F.bk h e
theorem ds_cont : Ds X (.Continue pos) (fun R δ => R.ct δ) := by
  refine ⟨_, ps_continue, ?_⟩
  intro J B0 H0 B H σ δ e R h En F
  exact F.ct h e
def wNever : DS := fun _ _ => False
theorem ds_never : Ds X st wNever := by
  refine ⟨_, ps_never, ?_⟩
  intro J B0 H0 B H σ δ e R h En F
  exact h.elim
theorem dss_never : Dss X body wNever := by
  refine ⟨_, pss_never, ?_⟩
  intro J B0 H0 B H σ δ e R h En F
  exact h.elim
/-- return -/
def ret (δ : List S) : DV → Option DV
  | .c d => some (.c d)
  | .f ds => some (.f ds)
  | .o i => match δ[i]? with
    | some (.own ds) => some (.f ds)
    | _ => none
  | .j => none
def wRet (wa : DE) : DS := fun R δ => wa δ fun x => ∃ z, ret δ x = some z ∧ R.rt δ z
theorem rv_ret {K : PySem.W.Frag} {J : JT} {B0 H0 B H Hs : Hp} {σ : L2.St} {δ : List S} {x z : DV} {v : V} (e : Env K J B0 H0 B H σ δ) (hs : ∀ b, H0 b ≠ none → Hs b ≠ none) (r : RepV K J Hs B H σ δ x v) (hz : ret δ x = some z) : RepV K J H0 B H [] [] z v := by
  cases x with
  | c d => cases hz; exact r
  | f ds => cases hz; exact (RepV.back hs r : RepV K J H0 B H σ δ (.f ds) v)
  | o i =>
    obtain ⟨⟨ds, hd | hd⟩, hv⟩ := r
    case inr => simp only [ret, hd] at hz; cases hz
    have : z = .f ds := by simp only [ret, hd] at hz; cases hz; rfl
    subst this
    obtain ⟨a, xs, h1, h2, h3, h4, h5, _⟩ := e.ownJ hd
    rw [hv] at h1; cases h1
    exact ⟨a, xs, rfl, h2, h3, h4, h5⟩
  | j => cases hz
theorem ds_ret {wa : DE} (ha : De X a wa) : Ds X (.Return (some a) pos) (wRet wa) := by
  obtain ⟨ta, pa, va⟩ := ha.ex
  refine ⟨_, ps_ret pa, ?_⟩
  intro J B0 H0 B H σ δ e R h En F
  refine va e _ h _ fun x v B1 H1 h1 g1 w1 r1 => ?_
  obtain ⟨z, hz, h1⟩ := h1
  exact F.rt h1 (e.step g1 w1) (rv_ret (e.step g1 w1) e.gr.ne r1 hz)
theorem ds_retN : Ds X (.Return none pos) (fun R δ => R.rt δ (.c .non)) := by
  refine ⟨_, ps_retN, ?_⟩
  intro J B0 H0 B H σ δ e R h En F
  exact F.rt h e (by show Rep _ _ _ _; rw [Rep])
/-- an expression alone -/
def wDrop (wa : DE) : DS := fun R δ => wa δ fun _ => R.nx δ
theorem ds_drop {wa : DE} (ha : De X a wa) (hs : swapsWith a none pos.line X.env = pure false := by rfl) : Ds X (.Expr a pos) (wDrop wa) := by
  obtain ⟨ta, pa, va⟩ := ha.ex
  refine ⟨_, ps_expr pa hs, ?_⟩
  intro J B0 H0 B H σ δ e R h En F
  exact va e _ h _ fun x v B1 H1 h1 g1 w1 r1 => F.nx h1 (e.step g1 w1)
/-- x = e -/
def wSet (i : Nat) (wa : DE) : DS := fun R δ => wa δ fun x => ∃ s, sv x = some s ∧ R.nx (δ.set i s)
theorem ds_set {i : Nat} {x : Str} {pos' : Pos} {wa : DE} (hN : X.N.Nodup) (hi : X.N[i]? = some x) (hx : Loc X.env.scope x) (ha : De X e wa) (hs : swapsWith e (some (.Name x pos')) pos.line X.env = pure false := by rfl) (hf : X.fn x = true ∨ X.env.scope.names.lookup x = some .local := by first | exact .inl rfl | exact .inr rfl | assumption) :
    Ds X (.Assign [.Name x pos'] e pos) (wSet i wa) := by
  obtain ⟨ta, pa, va⟩ := ha.ex
  refine ⟨_, ps_set hN hi hx pa hs hf, ?_⟩
  intro J B0 H0 B H σ δ e R h En F
  refine va e _ h _ fun x v B1 H1 h1 g1 w1 r1 => ?_
  obtain ⟨s, hs, h1⟩ := h1
  exact F.nx h1 (e.put g1 w1 r1 hs i)
/-- x, y = e1, e2 -/
def wPar (i j : Nat) (wa : DA) : DS := fun R δ => wa δ fun xs => ∃ x y s t, xs = [x, y] ∧ sv x = some s ∧ sv y = some t ∧ R.nx ((δ.set i s).set j t)
theorem ds_par {i j : Nat} {x y : Str} {px py pt : Pos} {kt k2 pt2} {wa : DA} (hc : X.calm = true) (hN : X.N.Nodup) (hi : X.N[i]? = some x) (hj : X.N[j]? = some y) (hij : i ≠ j)
    (hx : X.env.scope.names.lookup x = some .local) (hy : X.env.scope.names.lookup y = some .local) (ha : Da X [a, b] wa)
    (hw : swappedStores [.Tuple [.Name x px, .Name y py] kt pt] (.Tuple [a, b] k2 pt2) X.env = pure (some [x, y]) := by rfl)
    (hs : swapsWithSole [.Tuple [.Name x px, .Name y py] kt pt] (.Tuple [a, b] k2 pt2) pos.line X.env = pure false := by rfl) :
    Ds X (.Assign [.Tuple [.Name x px, .Name y py] kt pt] (.Tuple [a, b] k2 pt2) pos) (wPar i j wa) := by
  obtain ⟨ta, pa, va⟩ := ha.ex
  refine ⟨_, ps_par hc hN hi hj hij hx hy pa hw hs, ?_⟩
  intro J B0 H0 B H σ δ e R h En F
  refine va e _ h _ fun xs vs B1 H1 h1 g1 w1 r1 => ?_
  obtain ⟨x, y, s, t, rfl, hx, hy, h1⟩ := h1
  obtain ⟨v, r, rfl, q1, ⟨u, r', rfl, q2, q3, _⟩, ap⟩ := r1
  cases (show r' = [] from q3)
  refine ⟨v, u, rfl, F.nx (B := B1) h1 ?_⟩
  have e1 := e.put g1 w1 q1 hx i
  -- the second value, against the first one
  refine Env.put2 e1 (x := y) q2 hy j (fun ds hds a hva k es hk hsk => ?_) e.gr.ne
  subst hds
  rw [List.getElem?_set] at hk hsk
  by_cases hik : i = k
  · subst hik
    have hlt : i < δ.length := by
      by_cases z : i < δ.length
      · exact z
      · simp [z] at hk
    have hlt2 : i < σ.length := by rw [← e.ln]; exact hlt
    simp [hlt] at hk
    simp [hlt2] at hsk
    cases x with
    | c d => cases hx; cases hk
    | f ds' => exact ap ds' rfl 0 ds rfl (by simp [hva, hsk])
    | o i => cases hx
    | j => cases hx
  · rw [if_neg hik] at hk hsk
    obtain ⟨a2, xs2, p1, p2, p3, p4, _⟩ := e.ownJ hk
    rw [hsk] at p1; cases p1
    obtain ⟨a3, _, p5, p6, _⟩ := q2
    rw [hva] at p5; cases p5
    rw [p4] at p6; cases p6
end
end Dl
namespace Dl
open PySem PySem.Spec PyProof.Rows L2
section
variable {X : Cx} {e a b c tg iter : Expr} {es : List Expr} {pos : Pos} {st : Stmt} {rest body : List Stmt}
/-- x += e -/
def wAug (i : Nat) (r : R2D) (wa : DE) : DS := fun R δ => ∃ d, δ[i]? = some (.val d) ∧ wa δ fun y => ∃ d', rd δ y = some d' ∧ r d d' fun z => ∃ s, sv z = some s ∧ R.nx (δ.set i s)
theorem ev_aug {K : PySem.W.Frag} {i : Nat} {ti : TIp} {r : R2D} {te : TE} {wa : DE} (hd : DOp K ti r) (va : EvE K te wa) : EvS K (tAug i te ti) (wAug i r wa) := by
  intro J B0 H0 B H σ δ e R h En F
  obtain ⟨d, hi, h⟩ := h
  obtain ⟨o, hs, v, rfl, rv⟩ := e.slot hi
  refine ⟨v, hs, va e _ h _ fun y u B1 H1 h1 g1 w1 r1 => ?_⟩
  have e1 := e.step g1 w1
  obtain ⟨d', rd', h1⟩ := h1
  refine hd h1 e1.bh w1 (.inl (rv.mono g1.bb)) (r1.toT e1 e.nod rd') fun z v' B2 H2 kz g2 w2 r2 => ?_
  obtain ⟨s, hs', kz⟩ := kz
  exact F.nx kz (e1.put g2 w2 (r2 σ δ) hs' i)
theorem ds_augI {i : Nat} {x : Str} {op : Operator} {pos' : Pos} {wa : DE} {g : Int → Int → Int} (hN : X.N.Nodup) (hi : X.N[i]? = some x) (hx : Loc X.env.scope x) (ho : PIp X op (ipI g)) (ha : De X e wa) (hf : X.fn x = true ∨ X.env.scope.names.lookup x = some .local := by first | exact .inl rfl | exact .inr rfl | assumption) :
    Ds X (.AugAssign (.Name x pos') op e pos) (wAug i (rII fun i j => .int (g i j)) wa) := by
  obtain ⟨ta, pa, va⟩ := ha.ex
  exact ⟨_, ps_aug hN hi hx pa ho hf, ev_aug (dop_I0 fun i j B => by rw [Rep]) va⟩
/-- if -/
def wIfS (wc : DT) (wa wb : DS) : DS := fun R δ => wc δ fun t => if t = true then wa R δ else wb R δ
theorem ds_if {A C : List Stmt} {wc : DT} {wa wb : DS} (hc : Dt X c wc) (ha : Dss X A wa) (hb : Dss X C wb) : Ds X (.If c A C pos) (wIfS wc wa wb) := by
  obtain ⟨tc, pc, vc⟩ := hc.ex
  obtain ⟨ta, pa, va⟩ := ha.ex
  obtain ⟨tb, pb, vb⟩ := hb.ex
  refine ⟨_, ps_if pc pa pb, ?_⟩
  intro J B0 H0 B H σ δ e R h En F
  refine vc e _ h _ fun t B1 H1 h1 g1 w1 => ?_
  cases t with
  | true => exact va (e.step g1 w1) R h1 En F
  | false => exact vb (e.step g1 w1) R h1 En F
/-- while -/
def wWhile (wc : DT) (wb : DS) : DS := fun R δ => ∃ W : Nat → List S → Prop, (∃ m, W m δ) ∧ ∀ m δ, W m δ → wc δ fun t => if t = true then wb { R with nx := fun δ' => ∃ m', m' < m ∧ W m' δ', ct := fun δ' => ∃ m', m' < m ∧ W m' δ', bk := R.nx } δ else R.nx δ
theorem ds_while {wc : DT} {wb : DS} (hp : PassesOwn (model X.prog X.w) X.A X.env X.xe) (hc : Dt X c wc) (hb : Dss X body wb) : Ds X (.While c body [] pos) (wWhile wc wb) := by
  obtain ⟨tc, pc, vc⟩ := hc.ex
  obtain ⟨tb, pb, vb⟩ := hb.ex
  refine ⟨_, ps_while hp pc pb, ?_⟩
  intro J B0 H0 B H σ δ e R h En F
  obtain ⟨W, ⟨m, w0⟩, turn⟩ := h
  refine ⟨fun m σ H => ∃ B δ, Env X.K J B0 H0 B H σ δ ∧ W m δ, ⟨m, B, δ, e, w0⟩, ?_⟩
  rintro m σ H ⟨B, δ, e, w⟩
  refine vc e _ (turn m δ w) _ fun t B1 H1 h1 g1 w1 => ?_
  cases t with
  | true =>
    refine ⟨fun σ' H' => ∃ m', m' < m ∧ ∃ B δ, Env X.K J B0 H0 B H' σ' δ ∧ W m' δ, fun σ' H' h => h, vb (e.step g1 w1) _ h1 _ ⟨fun h' e' => ?_, F.rt, F.nx, fun h' e' => ?_⟩⟩
    · obtain ⟨m', l, w'⟩ := h'; exact ⟨m', l, _, _, e', w'⟩
    · obtain ⟨m', l, w'⟩ := h'; exact ⟨m', l, _, _, e', w'⟩
  | false => exact F.nx h1 (e.step g1 w1)

/-! ### targets of known values -/
abbrev DG := D → List S → (List S → Prop) → Prop
abbrev DGs := List D → List S → (List S → Prop) → Prop
def EvG (K : PySem.W.Frag) (g : TG) (wg : DG) : Prop := ∀ ⦃J : JT⦄ ⦃B0 H0 B H : Hp⦄ ⦃σ : L2.St⦄ ⦃δ : List S⦄, Env K J B0 H0 B H σ δ → ∀ (d : D) (v : V), Rep K B d v → ∀ k : List S → Prop, wg d δ k → ∀ Q : L2.St → Hp → Prop,
  (∀ B' σ' δ', k δ' → Same B B' → Env K J B0 H0 B' H σ' δ' → Q σ' H) → g v σ H Q
def EvGs (K : PySem.W.Frag) (g : TGs) (wg : DGs) : Prop := ∀ ⦃J : JT⦄ ⦃B0 H0 B H : Hp⦄ ⦃σ : L2.St⦄ ⦃δ : List S⦄, Env K J B0 H0 B H σ δ → ∀ (ds : List D) (vs : List V), Reps K B ds vs → ∀ k : List S → Prop, wg ds δ k → ∀ Q : L2.St → Hp → Prop,
  (∀ B' σ' δ', k δ' → Same B B' → Env K J B0 H0 B' H σ' δ' → Q σ' H) → g vs σ H Q
structure Dg (X : Cx) (t : Expr) (w : DG) : Prop where
  ex : ∃ g, PG X t g ∧ EvG X.K g w
structure Dgs (X : Cx) (ts : List Expr) (w : DGs) : Prop where
  ex : ∃ g, PGs X ts g ∧ EvGs X.K g w
def wgName (i : Nat) : DG := fun d δ k => k (δ.set i (.val d))
theorem dg_name {i : Nat} {x : Str} (hN : X.N.Nodup) (hi : X.N[i]? = some x) (hx : Loc X.env.scope x) (hf : X.fn x = true ∨ X.env.scope.names.lookup x = some .local := by first | exact .inl rfl | exact .inr rfl | assumption) : Dg X (.Name x pos) (wgName i) := by
  refine ⟨_, pg_name hN hi hx hf, ?_⟩
  intro J B0 H0 B H σ δ e d v r k h Q q
  exact q B _ _ h (.refl _) (e.putc r i)
def wgNil : DGs := fun ds δ k => ds = [] ∧ k δ
def wgCons (w : DG) (ws : DGs) : DGs := fun ds δ k => ∃ d r, ds = d :: r ∧ w d δ fun δ' => ws r δ' k
theorem dgs_nil : Dgs X [] wgNil := by
  refine ⟨_, pgs_nil, ?_⟩
  intro J B0 H0 B H σ δ e ds vs r k h Q q
  obtain ⟨rfl, h⟩ := h
  rw [Reps] at r
  exact ⟨r, q B _ _ h (.refl _) e⟩
theorem dgs_cons {w : DG} {ws : DGs} (h1 : Dg X e w) (h2 : Dgs X es ws) (hs : (assignEach (e :: es) X.env).map (·.2) = assign e X.env :: (assignEach es X.env).map (·.2) := by rfl) : Dgs X (e :: es) (wgCons w ws) := by
  obtain ⟨t1, p1, v1⟩ := h1.ex
  obtain ⟨t2, p2, v2⟩ := h2.ex
  refine ⟨_, pgs_cons p1 p2 hs, ?_⟩
  intro J B0 H0 B H σ δ e ds vs r k h Q q
  obtain ⟨d, dr, rfl, h⟩ := h
  rw [Reps] at r
  obtain ⟨x, xs, rfl, r1, r2⟩ := r
  exact ⟨x, xs, rfl, v1 e d x r1 _ h _ fun B1 σ1 δ1 h1 s1 e1 => v2 e1 dr xs (r2.mono s1) _ h1 _ fun B2 σ2 δ2 h2 s2 e2 => q B2 σ2 δ2 h2 (s1.trans s2) e2⟩
def wgTup (n : Nat) (ws : DGs) : DG := fun d δ k => ∃ ds, d = .tup ds ∧ ds.length = n ∧ ws ds δ k
theorem dg_tup {k n : Nat} {ws : DGs} (hc : X.calm = true) (h : Dgs X es ws) (hn : (assignEach es X.env).length = n := by rfl) (hst : (assignEach es X.env).findIdx? (·.1) = none := by rfl) : Dg X (.Tuple es k pos) (wgTup n ws) := by
  obtain ⟨t, p, v⟩ := h.ex
  refine ⟨_, pg_tup hc p hn hst, ?_⟩
  intro J B0 H0 B H σ δ e d u r k h Q q
  obtain ⟨ds, rfl, hl, h⟩ := h
  rw [Rep] at r
  obtain ⟨a, xs, rfl, r1, r2⟩ := r
  exact ⟨a, xs, rfl, same_sqT e.bh r1, by rw [r2.len, hl], v e ds xs r2 _ h _ q⟩
/-- a, b = e -/
def wAsgG (wa : DE) (wg : DG) : DS := fun R δ => wa δ fun x => ∃ d, cl x = some d ∧ wg d δ R.nx
theorem ds_asgG {wa : DE} {wg : DG} (ha : De X e wa) (hg : Dg X tg wg) (hs : swapsWithSole [tg] e pos.line X.env = pure false := by rfl) (hw : swappedStores [tg] e X.env = pure none := by rfl)
    (h1 : (assignEach [tg] X.env).map (·.2) = [assign tg X.env] := by rfl) : Ds X (.Assign [tg] e pos) (wAsgG wa wg) := by
  obtain ⟨ta, pa, va⟩ := ha.ex
  obtain ⟨tg', pg, vg⟩ := hg.ex
  refine ⟨_, ps_asg pa pg hs hw h1, ?_⟩
  intro J B0 H0 B H σ δ e R h En F
  refine va e _ h _ fun x v B1 H1 h1 g1 w1 r1 => ?_
  obtain ⟨d, hc, h1⟩ := h1
  obtain ⟨B2, g2, w2, s2, r2, _⟩ := r1.keep e.nod g1 w1 hc
  exact vg (e.step g2 w2) d v r2 _ h1 _ fun B3 σ3 δ3 h3 s3 e3 => F.nx h3 e3

/-! ### lists of one's own -/
/-- x.append(e) -/
def wApp (i : Nat) (wa : DE) : DS := fun R δ => ∃ ds, δ[i]? = some (.own ds) ∧ ds.length < 100000 ∧ wa δ fun y => ∃ d, cl y = some d ∧ R.nx (δ.set i (.own (ds ++ [d])))
theorem ds_append {i : Nat} {x : Str} {px apos cpos : Pos} {wa : DE} (hN : X.N[i]? = some x) (hv : Vis X.env.scope x) (ha : De X e wa)
    (hd : (x == ("__debug__" : Str)) = false := by decide) (hcd : (x == ("__classdict__" : Str)) = false := by decide)
    (hbase : attributeBase (.Name x px) "append" X.env (eval (.Name x px) X.env) = eval (.Name x px) X.env := by rfl)
    (hfew : ((backTo cpos (starEach [e] X.env)).all (fun x => !x.1) && (backToKw cpos (keywordEach [] X.env)).all (fun x => x.1.isSome)
      && decide ([e].length + ([] : List Keyword).length + (if ([] : List Keyword).isEmpty then 0 else 1) < 30)) = true := by rfl)
    (hline : (apos.endLine == cpos.line) = true := by rfl) (hs : starEach [e] X.env = (false, eval e X.env) :: starEach [] X.env := by rfl) (hplain : (backTo cpos (starEach [] X.env)).any (·.1) = false := by rfl)
    (hsw : swapsWith (.Call (.Attribute (.Name x px) "append" apos) [e] [] cpos) none pos.line X.env = pure false := by rfl) :
    Ds X (.Expr (.Call (.Attribute (.Name x px) "append" apos) [e] [] cpos) pos) (wApp i wa) := by
  obtain ⟨ta, pa, va⟩ := ha.ex
  refine ⟨_, ps_expr (pe_bm PySem.F.plainAttrs_list PySem.F.slot_list_append PySem.F.type_list_append mt_append (pv i hN hv hd hcd) (pa_cons pa pa_nil hs) hbase hfew hline hs hplain) hsw, ?_⟩
  intro J B0 H0 B H σ δ e R h En F
  obtain ⟨ds, hi, hl, h⟩ := h
  obtain ⟨a, xs, h1, h2, h3, h4, h5, h6⟩ := e.ownJ hi
  refine ⟨_, h1, .inl ⟨rfl, _, SqL.of h4⟩, va e _ h _ fun y u B1 H1 q1 g1 w1 r1 => ?_⟩
  obtain ⟨d, hc, q1⟩ := q1
  obtain ⟨B2, g2, w2, s2, r2, _⟩ := r1.keep e.nod g1 w1 hc
  have e2 := e.step g2 w2
  have hH1 : H1 a = some (.lst xs) := g2.hh a _ h6 h4
  refine ⟨a, xs, u, rfl, rfl, hH1, Nat.lt_of_lt_of_le (by rw [h5.len]; exact hl) (by decide : 100000 ≤ sizeLine), F.nx (B := B2) q1 ?_⟩
  exact e2.change hi h1 hH1 ((h5.mono g2.bb).append (.cons r2 .nil))
/-- x.extend(e) -/
def wExt (i : Nat) (wa : DE) : DS := fun R δ => ∃ ds, δ[i]? = some (.own ds) ∧ wa δ fun y => ∃ es, rd δ y = some (.lst es) ∧ ds.length + es.length ≤ 100000 ∧ R.nx (δ.set i (.own (ds ++ es)))
theorem ds_extend {i : Nat} {x : Str} {px apos cpos : Pos} {wa : DE} (hN : X.N[i]? = some x) (hv : Vis X.env.scope x) (ha : De X e wa)
    (hd : (x == ("__debug__" : Str)) = false := by decide) (hcd : (x == ("__classdict__" : Str)) = false := by decide)
    (hbase : attributeBase (.Name x px) "extend" X.env (eval (.Name x px) X.env) = eval (.Name x px) X.env := by rfl)
    (hfew : ((backTo cpos (starEach [e] X.env)).all (fun x => !x.1) && (backToKw cpos (keywordEach [] X.env)).all (fun x => x.1.isSome)
      && decide ([e].length + ([] : List Keyword).length + (if ([] : List Keyword).isEmpty then 0 else 1) < 30)) = true := by rfl)
    (hline : (apos.endLine == cpos.line) = true := by rfl) (hs : starEach [e] X.env = (false, eval e X.env) :: starEach [] X.env := by rfl) (hplain : (backTo cpos (starEach [] X.env)).any (·.1) = false := by rfl)
    (hsw : swapsWith (.Call (.Attribute (.Name x px) "extend" apos) [e] [] cpos) none pos.line X.env = pure false := by rfl) :
    Ds X (.Expr (.Call (.Attribute (.Name x px) "extend" apos) [e] [] cpos) pos) (wExt i wa) := by
  obtain ⟨ta, pa, va⟩ := ha.ex
  refine ⟨_, ps_expr (pe_bm PySem.F.plainAttrs_list PySem.F.slot_list_extend PySem.F.type_list_extend mt_extend (pv i hN hv hd hcd) (pa_cons pa pa_nil hs) hbase hfew hline hs hplain) hsw, ?_⟩
  intro J B0 H0 B H σ δ e R h En F
  obtain ⟨ds, hi, h⟩ := h
  obtain ⟨a, xs, h1, h2, h3, h4, h5, h6⟩ := e.ownJ hi
  refine ⟨_, h1, .inl ⟨rfl, _, SqL.of h4⟩, va e _ h _ fun y u B1 H1 q1 g1 w1 r1 => ?_⟩
  obtain ⟨es, hr, hl, q1⟩ := q1
  have e1 := e.step g1 w1
  obtain ⟨b, ys, rfl, hb, rb⟩ := (r1.toT e1 e.nod hr).lst e1.bh
  have hH1 : H1 a = some (.lst xs) := g1.hh a _ h6 h4
  refine ⟨a, b, xs, ys, rfl, rfl, hH1, hb, sz5 (by rw [h5.len, rb.len]; exact hl), F.nx (B := B1) q1 ?_⟩
  exact e1.change hi h1 hH1 ((h5.mono g1.bb).append rb)
/-- t = x.pop() -/
def wPop (i : Nat) (wg : DG) : DS := fun R δ => ∃ ds d, δ[i]? = some (.own ds) ∧ ds[ds.length - 1]? = some d ∧ wg d (δ.set i (.own ds.dropLast)) R.nx
theorem ds_pop {i : Nat} {x : Str} {px apos cpos : Pos} {wg : DG} (hN : X.N[i]? = some x) (hv : Vis X.env.scope x) (hg : Dg X tg wg)
    (hd : (x == ("__debug__" : Str)) = false := by decide) (hcd : (x == ("__classdict__" : Str)) = false := by decide)
    (hbase : attributeBase (.Name x px) "pop" X.env (eval (.Name x px) X.env) = eval (.Name x px) X.env := by rfl) (hline : (apos.endLine == cpos.line) = true := by rfl)
    (hs : swapsWithSole [tg] (.Call (.Attribute (.Name x px) "pop" apos) [] [] cpos) pos.line X.env = pure false := by rfl) (hw : swappedStores [tg] (.Call (.Attribute (.Name x px) "pop" apos) [] [] cpos) X.env = pure none := by rfl)
    (h1 : (assignEach [tg] X.env).map (·.2) = [assign tg X.env] := by rfl) : Ds X (.Assign [tg] (.Call (.Attribute (.Name x px) "pop" apos) [] [] cpos) pos) (wPop i wg) := by
  obtain ⟨tg', pg, vg⟩ := hg.ex
  refine ⟨_, ps_asg (pe_bm0 PySem.F.plainAttrs_list PySem.F.slot_list_pop PySem.F.type_list_pop mt_pop (pv i hN hv hd hcd) hbase hline) pg hs hw h1, ?_⟩
  intro J B0 H0 B H σ δ e R h En F
  obtain ⟨ds, d, hi, hl, h⟩ := h
  obtain ⟨a, xs, h1, h2, h3, h4, h5, h6⟩ := e.ownJ hi
  obtain ⟨v, hv, rv⟩ := h5.get hl
  refine ⟨_, h1, .inl ⟨rfl, _, SqL.of h4⟩, a, xs, v, rfl, rfl, h4, by rw [h5.len]; exact hv, ?_⟩
  exact vg (e.change hi h1 h4 h5.dropLast) d v rv _ h _ fun B3 σ3 δ3 h3 s3 e3 => F.nx h3 e3
/-- x[k] = e -/
def wSetI (i : Nat) (wa wk : DE) : DS := fun R δ => ∃ ds, δ[i]? = some (.own ds) ∧ wa δ fun y => wk δ fun z => ∃ d n j, cl y = some d ∧ z = .c (.int n) ∧ ixN ds.length n = some j ∧ R.nx (δ.set i (.own (ds.set j d)))
theorem ds_setI {i : Nat} {x : Str} {px pt : Pos} {wa wk : DE} (hN : X.N[i]? = some x) (hv : Vis X.env.scope x) (ha : De X e wa) (hk : De X b wk)
    (hd : (x == ("__debug__" : Str)) = false := by decide) (hcd : (x == ("__classdict__" : Str)) = false := by decide)
    (hq : ∀ v, assign (.Subscript (.Name x px) b pt) X.env v = (do
      let ov ← holding [v] (eval (.Name x px) X.env)
      let iv ← holding [v, ov] (eval b X.env)
      standAt pt
      holding [v, ov, iv] (setItem ov iv v)
      release [v, ov, iv] []) := by intro _; rfl)
    (hs : swapsWithSole [.Subscript (.Name x px) b pt] e pos.line X.env = pure false := by rfl) (hw : swappedStores [.Subscript (.Name x px) b pt] e X.env = pure none := by rfl)
    (h1 : (assignEach [.Subscript (.Name x px) b pt] X.env).map (·.2) = [assign (.Subscript (.Name x px) b pt) X.env] := by rfl) : Ds X (.Assign [.Subscript (.Name x px) b pt] e pos) (wSetI i wa wk) := by
  obtain ⟨ta, pa, va⟩ := ha.ex
  obtain ⟨tk, pk, vk⟩ := hk.ex
  refine ⟨_, ps_asg pa (pg_sub (pv i hN hv hd hcd) pk set_list hq) hs hw h1, ?_⟩
  intro J B0 H0 B H σ δ e R h En F
  obtain ⟨ds, hi, h⟩ := h
  refine va e _ h _ fun y u B1 H1 q1 g1 w1 r1 => ?_
  have e1 := e.step g1 w1
  obtain ⟨a, xs, h1, h2, h3, h4, h5, h6⟩ := e1.ownJ hi
  refine ⟨_, h1, vk e1 _ q1 _ fun z iv B2 H2 q2 g2 w2 r2 => ?_⟩
  obtain ⟨d, n, j, hc, rfl, hj, q2⟩ := q2
  have r2 : Rep X.K B2 (.int n) iv := r2
  rw [Rep] at r2; subst r2
  have hH2 : H2 a = some (.lst xs) := g2.hh a _ h6 h4
  have g12 := g1.trans g2
  obtain ⟨B3, g3, w3, s3, r3, _⟩ := (r1.step e.nod g2).keep e.nod g12 w2 hc
  have e3 := e.step g3 w3
  have r5 : Reps X.K B3 ds xs := (h5.mono g2.bb).mono s3
  exact ⟨a, xs, n, j, rfl, rfl, hH2, by rw [h5.len]; exact hj, F.nx q2 (e3.change hi h1 hH2 (r5.set j r3))⟩
end
end Dl
namespace Dl
open PySem PySem.Spec PyProof.Rows L2
section
variable {X : Cx} {e a b c d tg iter : Expr} {es : List Expr} {pos : Pos} {st : Stmt} {rest body : List Stmt}

/-! ### a < b < c < d, as a test -/
def tChain3 (r r' r'' : R2) (ta tb tc td : TE) : TE := fun σ H Q => ta σ H fun x H1 => tb σ H1 fun y H2 => r x y H2 fun z H3 => ∃ k, z = .bl k ∧
  (if k = true then tc σ H3 fun y' H4 => r' y y' H4 fun z' H5 => ∃ k', z' = .bl k' ∧ (if k' = true then td σ H5 fun y'' H6 => r'' y' y'' H6 Q else Q (.bl false) H5) else Q (.bl false) H3)
theorem pt_chain3 {op op' op'' : CmpOp} {r r' r'' : R2} {ta tb tc td : TE} (ho : OpR X (compareOp op) r) (ho' : OpR X (compareOp op') r') (ho'' : OpR X (compareOp op'') r'') (ha : PE X a ta) (hb : PE X b tb) (hc : PE X c tc) (hd : PE X d td)
    (hm : lastMarks [op, op', op''] [b, c, d] = false := by with_unfolding_all rfl) : PT X (.Compare a [op, op', op''] [b, c, d] pos) (tTest (tChain3 r r' r'' ta tb tc td)) := by
  refine ⟨fun pins s σ H Q I h => ?_⟩
  refine isTrue_chain (thn (ha.run pins s σ H _ I h) fun v s1 ⟨x, H1, I1, r1, q1⟩ => test_link (thn (hb.run pins s1 σ H1 _ I1 q1) fun u s2 ⟨y, H2, I2, r2, q2⟩ =>
    thn (ho pins s2 σ H2 x y v u _ I2 r1 r2 q2) fun d1 s3 ⟨z, H3, I3, r3, k, e, q3⟩ => ?_)) hm
  subst e
  cases r3
  refine wpAny_truthy_bool ?_
  cases k with
  | false =>
    obtain ⟨k', e', q'⟩ := q3
    cases e'
    exact ite_ff ⟨H3, I3, q'⟩
  | true =>
    refine ite_tt (test_link (thn (hc.run pins s3 σ H3 _ I3 q3) fun w' s4 ⟨z', H4, I4, r4, q4⟩ => thn (ho' pins s4 σ H4 y z' u w' _ I4 r2 r4 q4) fun d' s5 ⟨z2, H5, I5, r5, k2, e2, q5⟩ => ?_))
    subst e2
    cases r5
    refine wpAny_truthy_bool ?_
    cases k2 with
    | false =>
      obtain ⟨k', e', q'⟩ := q5
      cases e'
      exact ite_ff ⟨H5, I5, q'⟩
    | true =>
      refine ite_tt (test_last (thn (hd.run pins s5 σ H5 _ I5 q5) fun w2 s6 ⟨z3, H6, I6, r6, q6⟩ => thn (ho'' pins s6 σ H6 z' z3 w' w2 _ I6 r4 r6 q6) fun d2 s7 ⟨z4, H7, I7, r7, k3, e3, q7⟩ => ?_))
      subst e3
      cases r7
      exact wpAny_truthy_bool ⟨H7, I7, q7⟩
/-- of ints alone -/
def wChainI3 (p p' p'' : Int → Int → Bool) (wa wb wc wd : DE) : DT := fun δ k => wa δ fun x => wb δ fun y => ∃ i j, x = .c (.int i) ∧ y = .c (.int j) ∧
  if p i j = true then wc δ fun y' => ∃ j', y' = .c (.int j') ∧ if p' j j' = true then wd δ fun y'' => ∃ j'', y'' = .c (.int j'') ∧ k (p'' j' j'') else k false else k false
theorem rv_int {K : PySem.W.Frag} {J : JT} {Hs B H : Hp} {σ : L2.St} {δ : List S} {i : Int} {v : V} (h : RepV K J Hs B H σ δ (.c (.int i)) v) : v = .int i := by
  have h : Rep K B (.int i) v := h
  rw [Rep] at h; exact h
theorem dt_chainI3 {op op' op'' : CmpOp} {p p' p'' : Int → Int → Bool} {wa wb wc wd : DE} (ho : OpR X (compareOp op) (rI0 fun i j => .bl (p i j))) (ho' : OpR X (compareOp op') (rI0 fun i j => .bl (p' i j))) (ho'' : OpR X (compareOp op'') (rI0 fun i j => .bl (p'' i j)))
    (ha : De X a wa) (hb : De X b wb) (hc : De X c wc) (hd : De X d wd)
    (hm : lastMarks [op, op', op''] [b, c, d] = false := by with_unfolding_all rfl) : Dt X (.Compare a [op, op', op''] [b, c, d] pos) (wChainI3 p p' p'' wa wb wc wd) := by
  obtain ⟨ta, pa, va⟩ := ha.ex
  obtain ⟨tb, pb, vb⟩ := hb.ex
  obtain ⟨tc, pc, vc⟩ := hc.ex
  obtain ⟨td, pd, vd⟩ := hd.ex
  refine ⟨_, pt_chain3 ho ho' ho'' pa pb pc pd hm, ?_⟩
  intro J B0 H0 B H σ δ e k h Q q
  refine va e _ h _ fun x v B1 H1 h1 g1 w1 r1 => ?_
  have e1 := e.step g1 w1
  refine vb e1 _ h1 _ fun y u B2 H2 h2 g2 w2 r2 => ?_
  have e2 := e1.step g2 w2
  obtain ⟨i, j, rfl, rfl, h2⟩ := h2
  cases rv_int r1
  cases rv_int r2
  refine ⟨i, j, rfl, rfl, p i j, rfl, ?_⟩
  have g12 := g1.trans g2
  by_cases hp : p i j = true
  · rw [if_pos hp] at h2 ⊢
    refine vc e2 _ h2 _ fun y' u' B3 H3 h3 g3 w3 r3 => ?_
    have e3 := e2.step g3 w3
    obtain ⟨j', rfl, h3⟩ := h3
    cases rv_int r3
    refine ⟨j, j', rfl, rfl, p' j j', rfl, ?_⟩
    have g13 := g12.trans g3
    by_cases hp' : p' j j' = true
    · rw [if_pos hp'] at h3 ⊢
      refine vd e3 _ h3 _ fun y'' u'' B4 H4 h4 g4 w4 r4 => ?_
      obtain ⟨j'', rfl, h4⟩ := h4
      cases rv_int r4
      exact ⟨j', j'', rfl, rfl, p'' j' j'', rfl, q _ B4 H4 h4 (g13.trans g4) w4⟩
    · rw [if_neg hp'] at h3 ⊢
      exact ⟨false, rfl, q _ B3 H3 h3 g13 w3⟩
  · rw [if_neg hp] at h2 ⊢
    exact ⟨false, rfl, q _ B2 H2 h2 g12 w2⟩

/-! ### loops over a list or a tuple -/
def iSeq (K : PySem.W.Frag) (tl : TE) : TI := fun σ H R => tl σ H fun x H1 => ∃ a, x = .ref a ∧ (((∃ xs, SqL K H1 a xs) ∧ R (Itl K a) H1) ∨ ((∃ xs, SqT K H1 a xs) ∧ R (Itt K a) H1))
theorem pi_seq {l : Expr} {tl : TE} (hl : PE X l tl) : PI X tg l (iSeq X.K tl) := by
  refine ⟨fun pins s σ H R I h => ?_⟩
  refine thn (hl.run pins s σ H _ I h) fun v s1 ⟨x, H1, I1, r1, q1⟩ => ?_
  obtain ⟨a, e, q⟩ := q1
  subst e
  cases r1
  rcases q with ⟨⟨xs, hq⟩, q⟩ | ⟨⟨xs, hq⟩, q⟩
  · obtain ⟨its, rv, p, hz⟩ := I1.list hq
    refine wpAny_pyIter_list p.isList ?_
    refine ⟨s1.heap.objs.size, [s1.heap.objs.size], _, _, H1, rfl, I1.kept (t' := s1.toks) fun b o e => Heap.get?_push_of_some _ e, turn_list a _, ⟨_, Heap.get?_push_size _ rfl, rfl, rfl⟩, fun b hb => ?_, q⟩
    have e : b = s1.heap.objs.size := by simpa using hb
    subst e
    exact I1.fpOk (Nat.le_refl _) (I1.hok.fresh (Nat.le_refl _))
  · obtain ⟨its, rv, p, hz⟩ := I1.tuple hq
    refine wpAny_pyIter_tuple (show s1.heap.IsTuple a its.toArray from p) ?_
    refine ⟨s1.heap.objs.size, [s1.heap.objs.size], _, _, H1, rfl, I1.kept (t' := s1.toks) fun b o e => Heap.get?_push_of_some _ e, turn_tuple a _, ⟨_, Heap.get?_push_size _ rfl, rfl, rfl⟩, fun b hb => ?_, q⟩
    have e : b = s1.heap.objs.size := by simpa using hb
    subst e
    exact I1.fpOk (Nat.le_refl _) (I1.hok.fresh (Nat.le_refl _))
/-- what is walked; a list of one's own is no more changed -/
def items (δ : List S) : DV → Option (List S × List D)
  | .c (.lst ds) => some (δ, ds)
  | .c (.tup ds) => some (δ, ds)
  | .c (.frl ds) => some (δ, ds)
  | .f ds => some (δ, ds)
  | .o i => match δ[i]? with
    | some (.own ds) => some (δ.set i (.val (.lst ds)), ds)
    | _ => none
  | _ => none
theorem items_ok {K : PySem.W.Frag} {J : JT} {B0 H0 B H B1 H1 : Hp} {σ : L2.St} {δ δ' : List S} {x : DV} {v : V} {ds : List D} (e : Env K J B0 H0 B H σ δ) (g : Grow J B H B1 H1) (w : Own J B1 H1) (r : RepV K J H B1 H1 σ δ x v) (h : items δ x = some (δ', ds)) :
    ∃ B2 a xs, Env K J B0 H0 B2 H1 σ δ' ∧ v = .ref a ∧ (SqL K B2 a xs ∨ SqT K B2 a xs) ∧ Reps K B2 ds xs := by
  have e1 := e.step g w
  cases x with
  | c d =>
    have r : Rep K B1 d v := r
    cases d <;> try (simp [items] at h; done)
    case lst es =>
      simp [items] at h; obtain ⟨rfl, rfl⟩ := h
      rw [Rep] at r; obtain ⟨a, xs, rfl, r1, r2⟩ := r
      exact ⟨B1, a, xs, e1, rfl, .inl (SqL.of r1), r2⟩
    case tup es =>
      simp [items] at h; obtain ⟨rfl, rfl⟩ := h
      rw [Rep] at r; obtain ⟨a, xs, rfl, r1, r2⟩ := r
      exact ⟨B1, a, xs, e1, rfl, .inr r1, r2⟩
    case frl es =>
      simp [items] at h; obtain ⟨rfl, rfl⟩ := h
      rw [Rep] at r; obtain ⟨a, xs, rfl, r1, r2⟩ := r
      exact ⟨B1, a, xs, e1, rfl, .inl r1, r2⟩
  | f es =>
    simp [items] at h; obtain ⟨rfl, rfl⟩ := h
    obtain ⟨B2, g2, w2, s2, r2, _⟩ := r.keep e.nod g w (d := .lst es) rfl
    rw [Rep] at r2; obtain ⟨a, xs, rfl, r1, r3⟩ := r2
    exact ⟨B2, a, xs, e.step g2 w2, rfl, .inl (SqL.of r1), r3⟩
  | o i =>
    obtain ⟨⟨es, hd | hd⟩, hv⟩ := r
    case inr => simp [items, hd] at h
    simp [items, hd] at h; obtain ⟨rfl, rfl⟩ := h
    obtain ⟨B2, e2, s2, a, hs, r2⟩ := e1.freeze hd
    rw [hv] at hs; cases hs
    rw [Rep] at r2; obtain ⟨a', xs, ea, r1, r3⟩ := r2
    cases ea
    exact ⟨B2, a, xs, e2, rfl, .inl (SqL.of r1), r3⟩
  | j => simp [items] at h
def wFor (wi : DE) (wg : DG) (wb : DS) : DS := fun R δ => wi δ fun x => ∃ δ' ds, items δ x = some (δ', ds) ∧ ∃ I : Nat → List S → Prop, I 0 δ' ∧
  (∀ (i : Nat) d δ, ds[i]? = some d → I i δ → wg d δ fun δ2 => wb { R with nx := I (i + 1), ct := I (i + 1), bk := R.nx } δ2) ∧ ∀ δ, I ds.length δ → R.nx δ
theorem ds_for {wi : DE} {wg : DG} {wb : DS} (hp : PassesOwn (model X.prog X.w) X.A X.env X.xe) (hc : X.calm = true) (hi : De X iter wi) (hg : Dg X tg wg) (hb : Dss X body wb) (hs : ∀ x, foldedSetIterable iter X.env x = pure x := by intro _; rfl) : Ds X (.For tg iter body [] pos) (wFor wi wg wb) := by
  obtain ⟨ti, pi, vi⟩ := hi.ex
  obtain ⟨tg', pg, vg⟩ := hg.ex
  obtain ⟨tb, pb, vb⟩ := hb.ex
  refine ⟨_, ps_for hp hc (pi_seq pi) pg pb hs, ?_⟩
  intro J B0 H0 B H σ δ e R h En F
  refine vi e _ h _ fun x v B1 H1 h1 g1 w1 r1 => ?_
  obtain ⟨δ', ds, hit, I, h0, hst, hend⟩ := h1
  obtain ⟨B2, a, xs, e2, rfl, hx, rr⟩ := items_ok e g1 w1 r1 hit
  have e3 := e2.rebase
  have turn : ∀ (i : Nat) (x : V) (σ : L2.St) (H : Hp), xs[i]? = some x → (∃ B δ, Env X.K J B2 H0 B H σ δ ∧ I i δ) → tg' x σ H fun σ2 H2 => tb { En with nx := fun σ H => ∃ B δ, Env X.K J B2 H0 B H σ δ ∧ I (i + 1) δ, ct := fun σ H => ∃ B δ, Env X.K J B2 H0 B H σ δ ∧ I (i + 1) δ, bk := En.nx } σ2 H2 := by
    rintro i x σ H hxi ⟨B, δ, e, hI⟩
    obtain ⟨d, hdi, rx⟩ := rr.get' hxi
    refine vg e d x (rx.mono e.gr.bb) _ (hst i d δ hdi hI) _ fun B' σ' δ' hk sm e' => ?_
    exact vb e' _ hk _ ⟨fun h' e'' => ⟨_, _, e'', h'⟩, fun h' e'' r => F.rt h' (e2.unbase e'') r, fun h' e'' => F.nx h' (e2.unbase e''), fun h' e'' => ⟨_, _, e'', h'⟩⟩
  have fin : ∀ σ H, (∃ B δ, Env X.K J B2 H0 B H σ δ ∧ I xs.length δ) → En.nx σ H := by
    rintro σ H ⟨B, δ, e, hI⟩
    exact F.nx (hend δ (by rw [← rr.len]; exact hI)) (e2.unbase e)
  rcases hx with hx | hx
  · refine ⟨a, rfl, .inl ⟨⟨xs, Same.seq e2.bh hx⟩, ?_⟩⟩
    exact for_list (K := X.K) (xs := xs) (fun i σ H => ∃ B δ, Env X.K J B2 H0 B H σ δ ∧ I i δ) ⟨B2, δ', e3, h0⟩ (fun i σ H _ ⟨B, δ, e, _⟩ => Same.seq e.bh (Same.seq e.gr.bb hx)) (fun i x σ H hxi p => turn i x σ H hxi p) fin
  · refine ⟨a, rfl, .inr ⟨⟨xs, same_sqT e2.bh hx⟩, ?_⟩⟩
    exact for_tup (K := X.K) (xs := xs) (fun i σ H => ∃ B δ, Env X.K J B2 H0 B H σ δ ∧ I i δ) ⟨B2, δ', e3, h0⟩ (fun i σ H _ ⟨B, δ, e, _⟩ => same_sqT e.bh (same_sqT e.gr.bb hx)) (fun i x σ H hxi p => turn i x σ H hxi p) fin

/-! ### loops over ranges -/
def small62 (i : Int) : Prop := -1000000 ≤ i ∧ i ≤ 1000000
/-- the turns: lo, lo + c, .., n of them -/
def LoopR (lo c : Int) (n : Nat) (wg : DG) (wb : DS) (R : DEnds) (δ : List S) : Prop := ∃ I : Nat → List S → Prop, I 0 δ ∧
  (∀ (i : Nat) δ, i < n → I i δ → wg (.int (lo + i * c)) δ fun δ2 => wb { R with nx := I (i + 1), ct := I (i + 1), bk := R.nx } δ2) ∧ ∀ δ, I n δ → R.nx δ
def wForR1 (wa : DA) (wg : DG) (wb : DS) : DS := fun R δ => wa δ fun xs => ∃ j, xs = [.c (.int j)] ∧ small62 j ∧ LoopR 0 1 j.toNat wg wb R δ
def wForR2 (wa : DA) (wg : DG) (wb : DS) : DS := fun R δ => wa δ fun xs => ∃ i j, xs = [.c (.int i), .c (.int j)] ∧ small62 i ∧ small62 j ∧ LoopR i 1 (j - i).toNat wg wb R δ
def wForRd (wa : DA) (wg : DG) (wb : DS) : DS := fun R δ => wa δ fun xs => ∃ i j, xs = [.c (.int i), .c (.int j), .c (.int (-1))] ∧ small62 i ∧ small62 j ∧ LoopR i (-1) (i - j).toNat wg wb R δ
section
variable {wa : DA} {wg : DG} {wb : DS}
theorem rng_turn {K : PySem.W.Frag} {g : TG} {tb : TS} {J : JT} {B0 H0 : Hp} {R : DEnds} {En : Ends} {I : Nat → List S → Prop} {lo c : Int} {n : Nat} (vg : EvG K g wg) (vb : EvS K tb wb) (F : Fits K J B0 H0 R En)
    (hst : ∀ (i : Nat) δ, i < n → I i δ → wg (.int (lo + i * c)) δ fun δ2 => wb { R with nx := I (i + 1), ct := I (i + 1), bk := R.nx } δ2) (i : Nat) (σ : L2.St) (H : Hp) (hi : i < n) (h : ∃ B δ, Env K J B0 H0 B H σ δ ∧ I i δ) :
    g (.int (lo + i * c)) σ H fun σ2 H2 => tb { En with nx := fun σ H => ∃ B δ, Env K J B0 H0 B H σ δ ∧ I (i + 1) δ, ct := fun σ H => ∃ B δ, Env K J B0 H0 B H σ δ ∧ I (i + 1) δ, bk := En.nx } σ2 H2 := by
  obtain ⟨B, δ, e, hI⟩ := h
  refine vg e (.int (lo + i * c)) _ (by rw [Rep]) _ (hst i δ hi hI) _ fun B' σ' δ' hk sm e' => ?_
  exact vb e' _ hk _ ⟨fun h' e'' => ⟨_, _, e'', h'⟩, F.rt, F.nx, fun h' e'' => ⟨_, _, e'', h'⟩⟩
theorem ds_forR1 {p p2 : Pos} (hp : PassesOwn (model X.prog X.w) X.A X.env X.xe) (hc : X.calm = true) (hgl : Gl X "range") (hm : X.mg "range" = none) (ha : Da X [a] wa) (hg : Dg X tg wg) (hb : Dss X body wb)
    (hs' : starEach [a] X.env = [(false, eval a X.env)] := by rfl) (hs : ∀ x, foldedSetIterable (.Call (.Name "range" p) [a] [] p2) X.env x = pure x := by intro _; rfl) : Ds X (.For tg (.Call (.Name "range" p) [a] [] p2) body [] pos) (wForR1 wa wg wb) := by
  obtain ⟨ta, pa, va⟩ := ha.ex
  obtain ⟨tg', pg, vg⟩ := hg.ex
  obtain ⟨tb, pb, vb⟩ := hb.ex
  refine ⟨_, ps_for hp hc (pi_range1 hgl hm pa hs') pg pb hs, ?_⟩
  intro J B0 H0 B H σ δ e R h En F
  refine va e _ h _ fun xs vs B1 H1 h1 g1 w1 r1 => ?_
  obtain ⟨j, rfl, ⟨hj1, hj2⟩, I, h0, hst, hend⟩ := h1
  obtain ⟨v, r, rfl, q1, q2, _⟩ := r1
  cases (show r = [] from q2)
  cases rv_int q1
  refine ⟨j, rfl, by omega, by omega, ?_⟩
  refine for_range (lo := 0) (n := j.toNat) (fun i σ H => ∃ B δ, Env X.K J B0 H0 B H σ δ ∧ I i δ) ⟨B1, δ, e.step g1 w1, h0⟩ (fun i σ H hi p => ?_) ?_
  · have := rng_turn vg vb F hst i σ H hi p
    rw [Int.mul_one] at this
    exact this
  · rintro σ H ⟨B, δ, e, hI⟩
    exact F.nx (hend δ hI) e
theorem ds_forR2 {p p2 : Pos} (hp : PassesOwn (model X.prog X.w) X.A X.env X.xe) (hc : X.calm = true) (hgl : Gl X "range") (hm : X.mg "range" = none) (ha : Da X [a, b] wa) (hg : Dg X tg wg) (hb : Dss X body wb)
    (hs' : starEach [a, b] X.env = [(false, eval a X.env), (false, eval b X.env)] := by rfl) (hs2 : starEach [b] X.env = [(false, eval b X.env)] := by rfl) (hs : ∀ x, foldedSetIterable (.Call (.Name "range" p) [a, b] [] p2) X.env x = pure x := by intro _; rfl) : Ds X (.For tg (.Call (.Name "range" p) [a, b] [] p2) body [] pos) (wForR2 wa wg wb) := by
  obtain ⟨ta, pa, va⟩ := ha.ex
  obtain ⟨tg', pg, vg⟩ := hg.ex
  obtain ⟨tb, pb, vb⟩ := hb.ex
  refine ⟨_, ps_for hp hc (pi_range2 hgl hm pa hs' hs2) pg pb hs, ?_⟩
  intro J B0 H0 B H σ δ e R h En F
  refine va e _ h _ fun xs vs B1 H1 h1 g1 w1 r1 => ?_
  obtain ⟨i0, j, rfl, ⟨hi1, hi2⟩, ⟨hj1, hj2⟩, I, h0, hst, hend⟩ := h1
  obtain ⟨v, r, rfl, q1, ⟨v2, r2, rfl, q3, q4, _⟩, _⟩ := r1
  cases (show r2 = [] from q4)
  cases rv_int q1
  cases rv_int q3
  refine ⟨i0, j, rfl, ⟨by omega, by omega, by omega, by omega⟩, ?_⟩
  refine for_range (lo := i0) (n := (j - i0).toNat) (fun i σ H => ∃ B δ, Env X.K J B0 H0 B H σ δ ∧ I i δ) ⟨B1, δ, e.step g1 w1, h0⟩ (fun i σ H hi p => ?_) ?_
  · have := rng_turn vg vb F hst i σ H hi p
    rw [Int.mul_one] at this
    exact this
  · rintro σ H ⟨B, δ, e, hI⟩
    exact F.nx (hend δ hI) e
theorem ds_forRd {p p2 : Pos} (hp : PassesOwn (model X.prog X.w) X.A X.env X.xe) (hc : X.calm = true) (hgl : Gl X "range") (hm : X.mg "range" = none) (ha : Da X [a, b, c] wa) (hg : Dg X tg wg) (hb : Dss X body wb)
    (hs' : starEach [a, b, c] X.env = (false, eval a X.env) :: starEach [b, c] X.env := by rfl) (hpl : (backTo p2 (starEach [b, c] X.env)).any (·.1) = false := by rfl) (hs : ∀ x, foldedSetIterable (.Call (.Name "range" p) [a, b, c] [] p2) X.env x = pure x := by intro _; rfl) : Ds X (.For tg (.Call (.Name "range" p) [a, b, c] [] p2) body [] pos) (wForRd wa wg wb) := by
  obtain ⟨ta, pa, va⟩ := ha.ex
  obtain ⟨tg', pg, vg⟩ := hg.ex
  obtain ⟨tb, pb, vb⟩ := hb.ex
  refine ⟨_, ps_for hp hc (pi_range3 hgl hm pa hs' hpl) pg pb hs, ?_⟩
  intro J B0 H0 B H σ δ e R h En F
  refine va e _ h _ fun xs vs B1 H1 h1 g1 w1 r1 => ?_
  obtain ⟨i0, j, rfl, ⟨hi1, hi2⟩, ⟨hj1, hj2⟩, I, h0, hst, hend⟩ := h1
  obtain ⟨v, r, rfl, q1, ⟨v2, r2, rfl, q3, ⟨v3, r3, rfl, q5, q6, _⟩, _⟩, _⟩ := r1
  cases (show r3 = [] from q6)
  cases rv_int q1
  cases rv_int q3
  cases rv_int q5
  refine ⟨i0, j, -1, (i0 - j).toNat, rfl, RgC.neg (by omega) (by omega) (by omega) (by omega), ?_⟩
  refine for_rangeC (lo := i0) (c := -1) (n := (i0 - j).toNat) (fun i σ H => ∃ B δ, Env X.K J B0 H0 B H σ δ ∧ I i δ) ⟨B1, δ, e.step g1 w1, h0⟩ (fun i σ H hi p => ?_) ?_
  · exact rng_turn vg vb F hst i σ H hi p
  · rintro σ H ⟨B, δ, e, hI⟩
    exact F.nx (hend δ hI) e
end

/-! ### a def's body -/
theorem start_env {K : PySem.W.Frag} {J : JT} {B H : Hp} {N : List Str} {vs : List V} {xs : List S} (hs : SameJ K J B H) (w : Own J B H) (ha : ArgsOk K J B xs vs) (hl : xs.length ≤ N.length) : Env K J B H B H (start N vs) (xs ++ List.replicate (N.length - xs.length) .no) := by
  have hv := ha.len
  have at_ : ∀ {xs : List S} {vs : List V}, ArgsOk K J B xs vs → ∀ (i : Nat) (s : S), xs[i]? = some s → ∃ v, vs[i]? = some v ∧ ArgOk K J B s v := by
    intro xs
    induction xs with
    | nil => intro vs _ i s h; simp at h
    | cons x xs ih =>
      intro vs h i s hi
      obtain ⟨v, r, rfl, h1, h2⟩ := h
      cases i with
      | zero => simp at hi; subst hi; exact ⟨v, rfl, h1⟩
      | succ i => obtain ⟨u, e1, e2⟩ := ih h2 i s (by simpa using hi); exact ⟨u, by simpa using e1, e2⟩
  have slot : ∀ (i : Nat) (s : S), (xs ++ List.replicate (N.length - xs.length) S.no)[i]? = some s → s = .no ∨ ∃ v, (start N vs)[i]? = some (some v) ∧ ArgOk K J B s v := by
    intro i s h
    by_cases hi : i < xs.length
    · rw [List.getElem?_append_left hi] at h
      obtain ⟨v, e1, e2⟩ := at_ ha i s h
      refine .inr ⟨v, ?_, e2⟩
      unfold L2.start
      rw [List.getElem?_append_left (by simpa [hv] using hi), List.getElem?_map, e1]
      rfl
    · rw [List.getElem?_append_right (by omega), List.getElem?_replicate] at h
      split at h
      · simp at h; exact .inl h.symm
      · simp at h
  refine ⟨.refl hs.1, w, ⟨fun a e => ?_, hs.2⟩, by simp [L2.start, hv], fun i s h => ?_, fun i j ds es a _ h _ _ _ => ?_⟩
  · obtain ⟨_, l, m, c, _, h2⟩ := w.dc a e; rw [h2]; simp
  · rcases slot i s h with rfl | ⟨v, e1, e2⟩
    · trivial
    · rw [e1]
      cases s with
      | no => trivial
      | val d => exact ⟨v, rfl, e2⟩
      | own ds => exact e2.elim
      | dice => obtain ⟨a, e3, e4⟩ := e2; exact ⟨a, by simp [e4], e3⟩
      | ownd ks ds => exact e2.elim
      | lent ds => exact e2.elim
  · rcases slot i _ h with z | ⟨v, _, e2⟩
    · cases z
    · exact e2.elim
/-- what a def's body is asked -/
def Goal (w : DS) (N : List Str) (n : Nat) (pre : List S → Prop) (post : List S → DV → Prop) : Prop := ∀ xs : List S, xs.length = n → pre xs → w { nx := fun _ => post xs (.c .non), rt := fun _ => post xs } (xs ++ List.replicate (N.length - n) .no)
theorem fn_d {P : Program} {w : World} {K : PySem.W.Frag} {mg : Str → Option Value} {base : Heap} {x qual : Str} {params : Arguments} {body : List Stmt} {scope : Scope} {dvs : List V} {kws : List (Str × V)} {f : Addr} {fd : FuncData} {N ps : List Str} {k n : Nat}
    {pre : List S → Prop} {post : List S → DV → Prop} {wb : DS} (F : FunD K x qual params body scope dvs kws f fd) (Sc : FnScope N ps scope) (hn : ps.length = n) (hN : n ≤ N.length)
    (hbody : ∀ (cdv : Value) (A : Around) (outer : List PySem.Env) (s : Shared) (H : Hp) (E : XK), Room k (A.deeper (envOfC qual scope s.heap.objs.size f cdv)) → Dss (cxOf CX0 P w K mg base N qual scope f cdv A outer s H E).nox body wb)
    (goal : Goal wb N n pre post) : FnOk P w K mg base CX0 (k + 1) f fd ps (SpD K n pre post) := by
  refine F.ok Sc (fun vs H Q E h => ?_) (fun cdv A outer s H vs Q E hr h => ?_)
  · obtain ⟨J, B, xs, hl, ha, _⟩ := h
    rw [ha.len, hl, hn]
  · obtain ⟨J, B, xs, hl, ha, hs, ow, hp, q⟩ := h
    obtain ⟨t, p, v⟩ := (hbody cdv A outer s H E hr).ex
    have st := start_env (N := N) hs ow ha (by omega)
    rw [hl] at st
    refine ⟨t, p.nox, v st _ (goal xs hl hp) _ ⟨fun h' e' => ?_, fun h' e' r => q _ _ _ _ h' e'.gr e'.ow r, fun h' _ => h'.elim, fun h' _ => h'.elim⟩⟩
    exact q (.c .non) .non _ _ h' e'.gr e'.ow (by show Rep _ _ _ _; rw [Rep])

theorem Grow.dice {J : JT} {a : Addr} {B H : Hp} {o : HO} {xs : List V} (hs : Same B H) (hB : B a = none) (hH : H a = some (.lst xs)) : Grow (J.to a) B H B (upd H a o) :=
  ⟨.refl _, fun b x e => by rw [upd_ne (fun z => by rw [z, hB] at e; cases e)]; exact hs b x e, ⟨fun b x nb _ e => by rw [upd_ne (fun z => nb (by rw [z]; rfl))]; exact e, fun t => tabs_put hH pl0_lst t⟩, fun b e => by
    by_cases hb : b = a
    · rw [hb, upd_same]; simp
    · rw [upd_ne hb]; exact e, fun _ _ => rfl⟩
theorem Own.dice {J : JT} {a : Addr} {B H : Hp} {l m c : Int} {xs : List V} (w : Own J B H) (hH : H a = some (.lst xs)) (hB : B a = none) (h0 : 0 ≤ l) : Own (J.to a) B (upd H a (.lst [.int l, .int m, .int c])) := ⟨fun b e => by
  have e : some a = some b := e
  cases e; exact ⟨hB, l, m, c, h0, upd_same⟩, tabs_put hH pl0_lst w.tb, w.nt⟩
end
end Dl
namespace Dl
open PySem PySem.Spec PyProof.Rows L2
abbrev rMinus : R2D := rII fun i j => .int (i - j)
abbrev rAddI : R2D := rII fun i j => .int (i + j)
abbrev cMin : RcD := cII fun i j => .int (if j < i then j else i)
abbrev cMax : RcD := cII fun i j => .int (if j > i then j else i)
section
variable {X : Cx} {a b : Expr} {pos : Pos}
/-- a written int of the module -/
theorem de_globE {x : Str} {pos : Pos} {i : Int} (hg : Gl X x) (hm : ∃ t, X.mg x = some (.int i t)) (hd : (x == ("__debug__" : Str)) = false := by decide) : De X (.Name x pos) (wC (.int i)) := by
  obtain ⟨t, hm⟩ := hm
  exact de_glob hg hm ⟨t, rfl⟩ hd
/-- ** of small size -/
def CPowW (i j : Int) : Prop := 0 ≤ j ∧ (Builtin.Int.intBits i : Int) * j ≤ 2 ^ 27
def rPowW : R2D := rIIC CPowW fun i j => .int (i ^ j.toNat)
theorem op_powW : OpR X (binaryOp .Pow) (rI CPowW fun i j => .int (i ^ j.toNat)) := opI fun _ _ _ _ _ _ _ hc q => pow_int hc.1 hc.2 q
theorem de_powW {wa wb : DE} (ha : De X a wa) (hb : De X b wb) : De X (.BinOp a .Pow b pos) (wOp rPowW wa wb) :=
  de_op op_powW (dop_I (fun i j h => h) fun i j B _ => by rw [Rep]) ha hb
end

/-! ### reading off -/
theorem okD_int (i : Int) : okD (.int i) := ⟨by rw [plain], by rw [py]; rfl⟩
theorem okD_bl (i : Bool) : okD (.bl i) := ⟨by rw [plain], by rw [py]; rfl⟩
theorem okD_non : okD .non := ⟨by rw [plain], by rw [py]; rfl⟩
theorem eqD_int (i j : Int) : eqD (.int i) (.int j) = decide (i = j) := by
  unfold eqD
  rw [py, py, PyData.eqv]
  by_cases h : i = j
  · subst h; simp
  · rw [decide_eq_false h]; exact beq_eq_false_iff_ne.mpr h
theorem eqD_bl (i j : Bool) : eqD (.bl i) (.bl j) = decide (i = j) := by
  unfold eqD
  rw [py, py, PyData.eqv]
  cases i <;> cases j <;> rfl
theorem pys_map (ns : List Int) : pys (ns.map .int) = ns.map .int := by
  induction ns with
  | nil => rw [List.map_nil, pys]; rfl
  | cons n ns ih => rw [List.map_cons, pys, ih, py]; rfl
theorem plains_map (ns : List Int) : plains (ns.map .int) = true := by
  induction ns with
  | nil => rw [List.map_nil, plains]
  | cons n ns ih => rw [List.map_cons, plains, ih, plain]; rfl
theorem canLay_map (ns : List Int) : PyData.canLayAll0 (ns.map .int) = true := by
  induction ns with
  | nil => rw [List.map_nil, PyData.canLayAll0]
  | cons n ns ih => rw [List.map_cons, PyData.canLayAll0, ih, PyData.canLay0]; rfl
theorem depth_map (ns : List Int) : PyData.depthAll (ns.map .int) = 0 := by
  induction ns with
  | nil => rw [List.map_nil, PyData.depthAll]
  | cons n ns ih => rw [List.map_cons, PyData.depthAll, ih, PyData.depth]; rfl
theorem okD_ints (ns : List Int) : okD (.tup (ns.map .int)) := by
  refine ⟨by rw [plain, plains_map], ?_⟩
  rw [py, pys_map]
  unfold SeqAt.shaped
  rw [PyData.canLay0, canLay_map, PyData.depth, depth_map]
  rfl
theorem okD_intl (ns : List Int) : okD (.lst (ns.map .int)) := by
  refine ⟨by rw [plain, plains_map], ?_⟩
  rw [py, pys_map]
  unfold SeqAt.shaped
  rw [PyData.canLay0, canLay_map, PyData.depth, depth_map]
  rfl
theorem eqvAll_map : ∀ ns ms : List Int, PyData.eqvAll (ns.map .int) (ms.map .int) = decide (ns = ms)
  | [], [] => by rw [List.map_nil, PyData.eqvAll]; rfl
  | [], m :: ms => by rw [List.map_nil, List.map_cons, PyData.eqvAll]; rfl
  | n :: ns, [] => by rw [List.map_nil, List.map_cons, PyData.eqvAll]; rfl
  | n :: ns, m :: ms => by
    rw [List.map_cons, List.map_cons, PyData.eqvAll, eqvAll_map ns ms, PyData.eqv]
    by_cases h : n = m
    · subst h; simp
    · have : (n == m) = false := beq_eq_false_iff_ne.mpr h
      rw [this, Bool.false_and, decide_eq_false (by simp [h])]
theorem eqD_ints (ns ms : List Int) : eqD (.tup (ns.map .int)) (.tup (ms.map .int)) = decide (ns = ms) := by
  unfold eqD
  rw [py, py, pys_map, pys_map, PyData.eqv, eqvAll_map]
theorem eqD_intl (ns ms : List Int) : eqD (.lst (ns.map .int)) (.lst (ms.map .int)) = decide (ns = ms) := by
  unfold eqD
  rw [py, py, pys_map, pys_map, PyData.eqv, eqvAll_map]
/-- a tuple of ints -/
abbrev tI (ns : List Int) : D := .tup (ns.map .int)
theorem cutD_map (ns : List Int) (lo hi : Option Int) : cutD (ns.map .int) lo hi = ((ns.drop (HT.sIx ns.length 0 lo)).take (HT.sIx ns.length ns.length hi - HT.sIx ns.length 0 lo)).map .int := by
  unfold cutD
  rw [List.length_map, List.map_take, List.map_drop]
theorem atI_map {ns : List Int} {i : Int} {j : Nat} (h : i = (j : Int)) (hj : j < ns.length) : atI (ns.map D.int) i = some (.int ns[j]) := by
  subst h
  unfold atI ixN
  rw [if_pos (Int.natCast_nonneg _), List.length_map, if_pos (by omega)]
  show (ns.map D.int)[((j : Int)).toNat]? = _
  rw [Int.toNat_natCast, List.getElem?_map, List.getElem?_eq_getElem hj]
  rfl
theorem atI_of {α : Type} {xs : List α} {i : Int} {j : Nat} {x : α} (h : i = (j : Int)) (hj : xs[j]? = some x) : atI xs i = some x := by
  subst h
  have hlt := (List.getElem?_eq_some_iff.mp hj).1
  unfold atI ixN
  rw [if_pos (Int.natCast_nonneg _), if_pos (by omega)]
  show xs[((j : Int)).toNat]? = _
  rw [Int.toNat_natCast]
  exact hj
theorem ixN_of {n j : Nat} {i : Int} (h : i = (j : Int)) (hj : j < n) : ixN n i = some j := by
  subst h
  unfold ixN
  rw [if_pos (Int.natCast_nonneg _), if_pos (by omega), Int.toNat_natCast]
/-- isinstance(d, int), .. bool, .. tuple -/
def isInt : D → Bool
  | .int _ => true
  | .bl _ => true
  | _ => false
def isBl : D → Bool
  | .bl _ => true
  | _ => false
def isTup : D → Bool
  | .tup _ => true
  | _ => false
theorem kit_int (d : D) (h : noTy d = true) : kitB (tyD d) "int" = some (isInt d) := by
  cases d <;> first | (simp [noTy] at h; done) | (simp only [tyD, isInt]; decide +kernel)
theorem kit_bl (d : D) (h : noTy d = true) : kitB (tyD d) "bool" = some (isBl d) := by
  cases d <;> first | (simp [noTy] at h; done) | (simp only [tyD, isBl]; decide +kernel)
theorem kit_tup (d : D) (h : noTy d = true) : kitB (tyD d) "tuple" = some (isTup d) := by
  cases d <;> first | (simp [noTy] at h; done) | (simp only [tyD, isTup]; decide +kernel)
theorem isi_int {d : D} {k : DV → Prop} (h : noTy d = true) (q : k (.c (.bl (isInt d)))) : cIsi [d, .ty "int"] k := ⟨h, _, kit_int d h, q⟩
theorem isi_bl {d : D} {k : DV → Prop} (h : noTy d = true) (q : k (.c (.bl (isBl d)))) : cIsi [d, .ty "bool"] k := ⟨h, _, kit_bl d h, q⟩
theorem isi_tup {d : D} {k : DV → Prop} (h : noTy d = true) (q : k (.c (.bl (isTup d)))) : cIsi [d, .ty "tuple"] k := ⟨h, _, kit_tup d h, q⟩
end Dl
/-! enumerate and zip over lists and tuples, mixed -/
namespace Dl
open PySem PySem.Spec PyProof.Rows L2

def SqB (K : PySem.W.Frag) (t : Bool) (H : Hp) (a : Addr) (xs : List V) : Prop := match t with
  | true => SqT K H a xs
  | false => SqL K H a xs
def IsIt (t : Bool) (h : Heap) (it a : Addr) (i : Nat) : Prop := match t with
  | true => h.IsTupleIter it a i
  | false => h.IsListIter it a i
def IsSq (t : Bool) (h : Heap) (a : Addr) (its : Array Value) : Prop := match t with
  | true => h.IsTuple a its
  | false => h.IsList a its
def itObj (t : Bool) (a : Addr) : Obj := match t with
  | true => { cls := .type "tuple_iterator", data := .fields #[.ref a, .int 0 0] }
  | false => { cls := .type "list_iterator", data := .fields #[.ref a, .int 0 0] }
theorem begins_sq (t : Bool) (a : Addr) (its : Array Value) : Begins (.ref a) (itObj t a) fun h => IsSq t h a its := by
  cases t
  · exact begins_list a its
  · exact begins_tuple a its
theorem isIt_new {t : Bool} {h : Heap} {it a : Addr} (e : h.get? it = some (itObj t a)) : IsIt t h it a 0 := by
  cases t
  · exact ⟨_, e, rfl, rfl⟩
  · exact ⟨_, e, rfl, rfl⟩
theorem draws_sq {prog : Program} {w : World} {A : Around} (t : Bool) (hh : A.handled = none) (it a : Addr) (hne : a ≠ it) (its : Array Value) :
    Draws prog w A it [it, a] its.size (fun i v => its[i]? = some v) (fun i h => IsIt t h it a i ∧ IsSq t h a its) := by
  cases t
  · exact Draws.list hh it a hne its
  · exact Draws.tuple hh it a hne its
theorem IsIt.at {t : Bool} {h h' : Heap} {it a : Addr} {i : Nat} (s : IsIt t h it a i) (k : ∀ o, h.get? it = some o → h'.get? it = some o) : IsIt t h' it a i := by
  cases t
  · exact Heap.IsListIter.at s k
  · obtain ⟨o, e, c, d⟩ := s; exact ⟨o, k o e, c, d⟩
theorem IsIt.get {t : Bool} {h : Heap} {it a : Addr} {i : Nat} (s : IsIt t h it a i) : ∃ o, h.get? it = some o ∧ ∀ v, o.data ≠ .cell v := by
  cases t <;> obtain ⟨o, e, c, d⟩ := s <;> exact ⟨o, e, fun v z => by rw [d] at z; cases z⟩
section
variable {X : Cx} {pins : List (Addr × Obj)} {σ : L2.St} {H : Hp} {s : Shared} {t : Bool} {a : Addr} {xs ys : List V}
theorem inv_sq (I : Inv X pins σ H s) (hq : SqB X.K t H a xs) : ∃ its, Vals xs its ∧ IsSq t s.heap a its.toArray ∧ a < s.heap.objs.size := by
  cases t
  · obtain ⟨its, rv, p, _⟩ := I.list hq
    exact ⟨its, rv, p.isList, p.lt⟩
  · obtain ⟨its, rv, p, _⟩ := I.tuple hq
    obtain ⟨o, ho, _⟩ := id p
    exact ⟨its, rv, p, Heap.lt_size ho⟩
theorem sq_inj (I : Inv X pins σ H s) (h : SqB X.K t H a xs) (h' : SqB X.K t H a ys) : xs = ys := by
  cases t
  · exact I.list_inj h h'
  · exact I.tuple_inj h h'
end
/-- enumerate(a) -/
def IteB (K : PySem.W.Frag) (t : Bool) (a : Addr) : It :=
  ⟨fun i H => ∃ (xs : List V) (x : V), SqB K t H a xs ∧ xs[i]? = some x, fun i H v H' => ∃ T x, v = .ref T ∧ H T = none ∧ H' = upd H T (.tup [.int (i : Nat), x]) ∧ ∀ xs, SqB K t H a xs → xs[i]? = some x, fun i H => ∃ xs : List V, SqB K t H a xs ∧ xs.length = i⟩
theorem turn_enumB {P : Program} {w : World} {K : PySem.W.Frag} {elts : List Expr} {kk : Nat} {tpos : Pos} {t : Bool} {a e it : Addr} (hne : e ≠ it) (hai : a ≠ it) (hae : a ≠ e) :
    Turn P w K (.Tuple elts kk tpos) (IteB K t a) [e, it] e (fun i h => (∃ old, IsEnum h e it ((i : Nat) : Int) old) ∧ IsIt t h it a i) where
  mem := by simp
  obj := fun i h st b hb => by
    obtain ⟨⟨old, he⟩, hit⟩ := st
    have e' : b = e ∨ b = it := by simpa using hb
    rcases e' with z | z
    · rw [z]; exact ⟨_, he, fun v q => nomatch q⟩
    · rw [z]; exact hit.get
  keep := fun i h h' st k => let ⟨⟨old, he⟩, hi⟩ := st; ⟨⟨old, k e (by simp) _ he⟩, hi.at fun o q => k it (by simp) o q⟩
  item := by
    intro X hP hw hK hc i pins s σ H E I hf st hg
    subst hP hw hK
    obtain ⟨⟨old, he⟩, hit⟩ := st
    obtain ⟨xs, x, hq, hx⟩ := hg
    obtain ⟨its, rv, p, _⟩ := inv_sq I hq
    obtain ⟨u, hu, ru⟩ := rv.get hx
    have hel : e < s.heap.objs.size := Heap.lt_size he
    have hil : it < s.heap.objs.size := by obtain ⟨_, q, _⟩ := hit.get; exact Heap.lt_size q
    have hu' : its.toArray[i]? = some u := by simpa using hu
    have hlt : i < its.toArray.size := (Array.getElem?_eq_some_iff.mp hu').1
    refine wpAny_pyNext_enum_itemD (draws_sq (A := X.A.in1) t (show X.A.in1.handled = none from I.ok.hd hc) it a hai its.toArray) he ⟨hit, p⟩ hlt hne (by simp [hne, Ne.symm hae]) fun x' h' tk hx' ho hst hT hsz hk => ?_
    have exu : x' = u := by
      have hx2 : its.toArray[i]? = some x' := hx'
      rw [hu'] at hx2; cases hx2; rfl
    subst exu
    obtain ⟨hit', _⟩ := hst
    refine ⟨_, rfl, wpAny_letOwnedTupleGo_enum (s := { s with heap := h', toks := tk + 1 }) ho fun h'' he' sb => ?_⟩
    have hT2 : h''.get? s.heap.objs.size = some { cls := .type "tuple", data := .seq #[.int i tk, x'] } := (sb.2 _ (Nat.ne_of_gt hel)).trans hT
    have new : ObjOk X.prog X.w (upd H s.heap.objs.size (.tup [.int (i : Nat), x])) h'' s.heap.objs.size (.tup [.int (i : Nat), x]) :=
      ⟨by show 2 ≤ sizeLine; decide, [.int i tk, x'], .cons ⟨_, rfl⟩ (.cons ru .nil), ⟨_, hT2, rfl, _, rfl⟩⟩
    have I1 : Inv X pins σ (upd H s.heap.objs.size (.tup [.int (i : Nat), x])) { s with heap := h'', toks := tk + 1 } :=
      I.turnedNew (ch := [e, it]) (fun b ob hb q => (sb.2 b (fun z => hb (by simp [z]))).trans (hk b ob (fun z => hb (by simp [z])) (fun z => hb (by simp [z])) q)) hf (Nat.le_refl _) new
    refine ⟨.ref s.heap.objs.size, _, I1, rfl, ⟨_, x, rfl, I.hok.fresh (Nat.le_refl _), rfl, fun ys hy => by rw [sq_inj I hy hq]; exact hx⟩, ⟨⟨x', ?_⟩, hit'.at fun o q => (sb.2 it (Ne.symm hne)).trans q⟩, fun b hb => ?_⟩
    · have e1 : ((i + 1 : Nat) : Int) = (i : Int) + 1 := by omega
      rw [e1]; exact he'
    · have hb' : b < s.heap.objs.size := by
        have e' : b = e ∨ b = it := by simpa using hb
        rcases e' with z | z
        · rw [z]; exact hel
        · rw [z]; exact hil
      rw [upd_ne (Nat.ne_of_lt hb')]
      exact (hf b hb).1
  done := by
    intro X hP hw hK hc i pins s σ H E I hf st hg
    subst hP hw hK
    obtain ⟨⟨old, he⟩, hit⟩ := st
    obtain ⟨xs, hq, hx⟩ := hg
    obtain ⟨its, rv, p, _⟩ := inv_sq I hq
    obtain ⟨f0, f1, f2, f3, f4, f5⟩ := hf it (by simp)
    have hl := rv.length
    have hi : its.toArray.size = i := by simp; omega
    refine wpAny_pyNext_enum_endD (draws_sq (A := X.A.in1) t (show X.A.in1.handled = none from I.ok.hd hc) it a hai its.toArray) he ⟨by rw [hi]; exact hit, p⟩ fun h' eb => ⟨rfl, I.turned (t' := s.toks) (fun b o hb q => eb b o hb q) f0 f1 f3 f4 f5⟩
  self := fun A i s Q E st h => let ⟨⟨_, he⟩, _⟩ := st; wpAny_pyIter_enum he h

set_option maxHeartbeats 1000000 in
theorem meets_enumB1 {v : Value} {o : Obj} {H : Heap → Prop} (B : Begins v o H) :
    Meets (Builtin.«enumerate.__new__» ⟨[.type "enumerate", v], []⟩) (fun _ R s => H s.heap ∧
      R (.ok (.ret (.ref (s.heap.push o).objs.size))) { s with heap := (s.heap.push o).push { cls := .type "enumerate", data := .fields #[.none, .bool false, .ref s.heap.objs.size, rawInt 0, .none, .none] } }) :=
  .of_wp fun prog w A R s h => by
    obtain ⟨hp, g, d, tk, os⟩ := s; obtain ⟨h1, h⟩ := h
    have hsub := sub_enumerate
    have q1 : ∀ {A' : Around} {E : Value → Shared → Prop} {Q : Value → Shared → Prop}, Q (.ref hp.objs.size) ⟨hp.push o, g, d, tk, os⟩ → wpAny (model prog w) A' (pyIter v) Q E ⟨hp, g, d, tk, os⟩ :=
      fun q => B.iter prog w _ _ ⟨hp, g, d, tk, os⟩ _ h1 q
    wp_walk using q1
    refine wpAny_stack_any fun st => wpAny_pure ?_
    split
    · rename_i c _ _ _ _ _
      cases (c == Value.type "enumerate")
      · wp_walk using q1
        exact ⟨_, rfl, h⟩
      · wp_walk using q1
        exact ⟨_, rfl, h⟩
    · wp_walk using q1
      exact ⟨_, rfl, h⟩
theorem enum_begins1 {prog : Program} {w : World} {A : Around} {E : Value → Shared → Prop} {s : Shared} {v : Value} {o : Obj} {H : Heap → Prop} {Q : Value → Shared → Prop} (B : Begins v o H) (h1 : H s.heap)
    (h : ∀ h', IsEnum h' (s.heap.objs.size + 1) s.heap.objs.size 0 .none → h'.get? s.heap.objs.size = some o → h'.objs.size = s.heap.objs.size + 2 →
      (∀ b o, s.heap.get? b = some o → h'.get? b = some o) → Q (.ref (s.heap.objs.size + 1)) { s with heap := h' }) :
    wpAny (model prog w) A (call (.type "enumerate") [v]) Q E s := by
  refine callType_new F.called_enumerate (by decide) (F.typeCall_enumerate_1 _) (F.newCall_enumerate_1 _) (fun obj => F.args_object_init_2 obj _) F.entry_enumerate_new
    (meets_enumB1 B) ⟨h1, ?_⟩
  have hz : (s.heap.push o).objs.size = s.heap.objs.size + 1 := Heap.size_push ..
  show _ ∧ _
  rw [hz]
  have he : IsEnum ((s.heap.push o).push { cls := .type "enumerate", data := .fields #[.none, .bool false, .ref s.heap.objs.size, rawInt 0, .none, .none] }) (s.heap.objs.size + 1) s.heap.objs.size 0 .none := by
    have := Heap.get?_push_size (s.heap.push o) (o := { cls := .type "enumerate", data := .fields #[.none, .bool false, .ref s.heap.objs.size, rawInt 0, .none, .none] }) rfl
    rw [hz] at this; exact this
  refine ⟨⟨_, he, rfl⟩, h _ he (Heap.get?_push_of_some _ (Heap.get?_push_size _ B.free)) (by rw [Heap.size_push, hz]) fun b o x => Heap.get?_push_of_some _ (Heap.get?_push_of_some _ x)⟩
def iEnumB (K : PySem.W.Frag) (ta : TA) : TI := fun σ H R => ta σ H fun vs H1 => ∃ a t xs, vs = [.ref a] ∧ SqB K t H1 a xs ∧ R (IteB K t a) H1
theorem pi_enumB {X : Cx} {e : Expr} {ta : TA} {p pos tpos : Pos} {elts : List Expr} {kk : Nat} (hg : Gl X "enumerate") (hm : X.mg "enumerate" = none) (ha : PA X [e] ta) (hs : starEach [e] X.env = [(false, eval e X.env)] := by rfl) :
    PI X (.Tuple elts kk tpos) (.Call (.Name "enumerate" p) [e] [] pos) (iEnumB X.K ta) := by
  refine ⟨fun pins s σ H R I h => ?_⟩
  refine Call_ (ld_blt I hg hm boot_enumerate (PyProof.Rows.callWith_type1 (thn (ha.run pos pins s σ H _ I h) fun us s1 ⟨vs, H1, I1, r1, q1⟩ => ?_) hs rfl))
  obtain ⟨a, t, xs, ex, hq, q⟩ := q1
  subst ex
  cases r1 with
  | cons r rr =>
    cases rr
    cases r
    obtain ⟨its, rv, p', hlt⟩ := inv_sq I1 hq
    refine enum_begins1 (begins_sq t a its.toArray) p' fun h' he hit hsz hk => wpAny_pyIter_enum he ?_
    have I2 : Inv X pins σ H1 { s1 with heap := h' } := I1.kept (t' := s1.toks) hk
    refine ⟨s1.heap.objs.size + 1, [s1.heap.objs.size + 1, s1.heap.objs.size], _, _, H1, rfl, I2, turn_enumB (e := s1.heap.objs.size + 1) (it := s1.heap.objs.size) (Nat.succ_ne_self _) (Nat.ne_of_lt hlt) (Nat.ne_of_lt (Nat.lt_succ_of_lt hlt)), ⟨⟨.none, he⟩, isIt_new hit⟩, fun b hb => ?_, q⟩
    have e' : b = s1.heap.objs.size + 1 ∨ b = s1.heap.objs.size := by simpa using hb
    have hle : s1.heap.objs.size ≤ b := by
      rcases e' with z | z
      · rw [z]; exact Nat.le_add_right _ _
      · rw [z]; exact Nat.le_refl _
    exact I1.fpOk hle (I1.hok.fresh hle)

/-- zip(a, b) -/
def ItzB (K : PySem.W.Frag) (t t2 : Bool) (a b : Addr) : It :=
  ⟨fun i H => ∃ (xs ys : List V) (x y : V), SqB K t H a xs ∧ SqB K t2 H b ys ∧ xs[i]? = some x ∧ ys[i]? = some y,
    fun i H v H' => ∃ T x y, v = .ref T ∧ H T = none ∧ H' = upd H T (.tup [x, y]) ∧ (∀ xs, SqB K t H a xs → xs[i]? = some x) ∧ ∀ ys, SqB K t2 H b ys → ys[i]? = some y,
    fun i H => ∃ xs ys : List V, SqB K t H a xs ∧ SqB K t2 H b ys ∧ i ≤ xs.length ∧ i ≤ ys.length ∧ (i = xs.length ∨ i = ys.length)⟩
theorem turn_zipB {P : Program} {w : World} {K : PySem.W.Frag} {elts : List Expr} {kk : Nat} {tpos : Pos} {t t2 : Bool} {a b z TI TO i1 i2 : Addr} (D : ZipSep2 z TI TO i1 i2 [i1, a] [i2, b]) (ha1 : a ≠ i1) (hb2 : b ≠ i2) :
    Turn P w K (.Tuple elts kk tpos) (ItzB K t t2 a b) [z, TI, TO, i1, i2] z (fun i h => IsZip h z TI TO .none ∧ IsTupOf2 h TI (.ref i1) (.ref i2) ∧ (∃ x y, IsTupOf2 h TO x y) ∧ IsIt t h i1 a i ∧ IsIt t2 h i2 b i) where
  mem := by simp
  obj := fun i h st c hc => by
    obtain ⟨hz, hTI, ⟨x, y, hTO⟩, h1, h2⟩ := st
    have e' : c = z ∨ c = TI ∨ c = TO ∨ c = i1 ∨ c = i2 := by simpa using hc
    rcases e' with q | q | q | q | q
    · rw [q]; exact ⟨_, hz, fun v q => nomatch q⟩
    · rw [q]; exact ⟨_, hTI, fun v q => nomatch q⟩
    · rw [q]; exact ⟨_, hTO, fun v q => nomatch q⟩
    · rw [q]; exact h1.get
    · rw [q]; exact h2.get
  keep := fun i h h' st k => by
    obtain ⟨hz, hTI, ⟨x, y, hTO⟩, h1, h2⟩ := st
    exact ⟨k z (by simp) _ hz, k TI (by simp) _ hTI, ⟨x, y, k TO (by simp) _ hTO⟩, h1.at fun o q => k i1 (by simp) o q, h2.at fun o q => k i2 (by simp) o q⟩
  item := by
    intro X hP hw hK hc i pins s σ H E I hf st hg
    subst hP hw hK
    obtain ⟨hz, hTI, ⟨x0, y0, hTO⟩, h1, h2⟩ := st
    obtain ⟨xs, ys, x, y, hqx, hqy, hx, hy⟩ := hg
    obtain ⟨its, rv, p, _⟩ := inv_sq I hqx
    obtain ⟨its2, rv2, p2, _⟩ := inv_sq I hqy
    obtain ⟨u, hu, ru⟩ := rv.get hx
    obtain ⟨u2, hu2, ru2⟩ := rv2.get hy
    have hzl : z < s.heap.objs.size := Heap.lt_size hz
    have hu' : its.toArray[i]? = some u := by simpa using hu
    have hu2' : its2.toArray[i]? = some u2 := by simpa using hu2
    have hh : X.A.in1.handled = none := I.ok.hd hc
    refine wpAny_pyNext_zipD2_item D (draws_sq t hh i1 a ha1 its.toArray) (draws_sq t2 hh i2 b hb2 its2.toArray) hz hTI hTO ⟨h1, p⟩ ⟨h2, p2⟩ (Array.getElem?_eq_some_iff.mp hu').1 (Array.getElem?_eq_some_iff.mp hu2').1 fun x1 x2 h' tk hx1 hx2 z' TO' st1' st2' hT hsz hk => ?_
    obtain rfl : x1 = u := by
      have q : its.toArray[i]? = some x1 := hx1
      rw [hu'] at q; cases q; rfl
    obtain rfl : x2 = u2 := by
      have q : its2.toArray[i]? = some x2 := hx2
      rw [hu2'] at q; cases q; rfl
    obtain ⟨h1', _⟩ := st1'
    obtain ⟨h2', _⟩ := st2'
    refine ⟨_, rfl, wpAny_letOwnedTupleGo_zip (s := { s with heap := h', toks := tk }) z' fun h'' z'' sb => ?_⟩
    have hT2 : h''.get? s.heap.objs.size = some { cls := .type "tuple", data := .seq #[x1, x2] } := (sb.2 _ (Nat.ne_of_gt hzl)).trans hT
    have new : ObjOk X.prog X.w (upd H s.heap.objs.size (.tup [x, y])) h'' s.heap.objs.size (.tup [x, y]) :=
      ⟨by show 2 ≤ sizeLine; decide, [x1, x2], .cons ru (.cons ru2 .nil), ⟨_, hT2, rfl, _, rfl⟩⟩
    have I1 : Inv X pins σ (upd H s.heap.objs.size (.tup [x, y])) { s with heap := h'', toks := tk } :=
      I.turnedNew (t' := tk) (ch := [z, TI, TO, i1, i2]) (fun c o hb q => (sb.2 c (fun q' => hb (by simp [q']))).trans (hk c o (fun q' => hb (by simp [q'])) (fun q' => hb (by simp [q'])) (fun q' => hb (by simp [q'])) (fun q' => hb (by simp [q'])) q)) hf (Nat.le_refl _) new
    refine ⟨.ref s.heap.objs.size, _, I1, rfl, ⟨_, x, y, rfl, I.hok.fresh (Nat.le_refl _), rfl, fun l hl => by rw [sq_inj I hl hqx]; exact hx, fun l hl => by rw [sq_inj I hl hqy]; exact hy⟩, ⟨z'', ?_, ⟨x1, x2, ?_⟩, ?_, ?_⟩, fun c hcm => ?_⟩
    · exact (sb.2 _ D.TIz).trans (hk _ _ D.TIz D.TITO D.TIi1 D.TIi2 hTI)
    · exact (sb.2 _ D.TOz).trans TO'
    · exact h1'.at fun o q => (sb.2 _ (Ne.symm D.zi1)).trans q
    · exact h2'.at fun o q => (sb.2 _ (Ne.symm D.zi2)).trans q
    · have hlt : c < s.heap.objs.size := by
        have e' : c = z ∨ c = TI ∨ c = TO ∨ c = i1 ∨ c = i2 := by simpa using hcm
        rcases e' with q | q | q | q | q
        · rw [q]; exact hzl
        · rw [q]; exact Heap.lt_size hTI
        · rw [q]; exact Heap.lt_size hTO
        · rw [q]; obtain ⟨_, e1, _⟩ := h1.get; exact Heap.lt_size e1
        · rw [q]; obtain ⟨_, e2, _⟩ := h2.get; exact Heap.lt_size e2
      rw [upd_ne (Nat.ne_of_lt hlt)]
      exact (hf c hcm).1
  done := by
    intro X hP hw hK hc i pins s σ H E I hf st hg
    subst hP hw hK
    obtain ⟨hz, hTI, ⟨x0, y0, hTO⟩, h1, h2⟩ := st
    obtain ⟨xs, ys, hqx, hqy, l1, l2, hend⟩ := hg
    obtain ⟨its, rv, p, _⟩ := inv_sq I hqx
    obtain ⟨its2, rv2, p2, _⟩ := inv_sq I hqy
    have e1 : its.toArray.size = xs.length := by simp [rv.length]
    have e2 : its2.toArray.size = ys.length := by simp [rv2.length]
    have hh : X.A.in1.handled = none := I.ok.hd hc
    exact wpAny_pyNext_zipD2_end D (draws_sq t hh i1 a ha1 its.toArray) (draws_sq t2 hh i2 b hb2 its2.toArray) hz hTI hTO ⟨h1, p⟩ ⟨h2, p2⟩ (by omega) (by omega) (by omega) fun h' tk hk => ⟨rfl, I.turnedL (t' := tk) (ch := [z, TI, TO, i1, i2]) (fun c o hb q =>
      hk c o (fun q' => hb (by simp [q'])) (fun q' => hb (by simp [q'])) (fun q' => hb (by simp [q'])) (fun q' => hb (by simp [q'])) q) hf⟩
  self := fun A i s Q E st h => wpAny_pyIter_zip st.1 h
def iZipB (K : PySem.W.Frag) (ta : TA) : TI := fun σ H R => ta σ H fun vs H1 => ∃ a b t t2 xs ys, vs = [.ref a, .ref b] ∧ SqB K t H1 a xs ∧ SqB K t2 H1 b ys ∧ R (ItzB K t t2 a b) H1
theorem sepB {N : Nat} {a b : Addr} (ha : a < N) (hb : b < N) : ZipSep2 (N + 4) (N + 2) (N + 3) N (N + 1) [N, a] [N + 1, b] :=
  zip_sep2 (fp1 := [a]) (fp2 := [b]) (fun c hc => by rw [List.mem_singleton.mp hc]; exact ha) fun c hc => by rw [List.mem_singleton.mp hc]; exact hb
theorem pi_zipB {X : Cx} {e e2 : Expr} {ta : TA} {p pos tpos : Pos} {elts : List Expr} {kk : Nat} (hg : Gl X "zip") (hm : X.mg "zip" = none) (ha : PA X [e, e2] ta)
    (hs : starEach [e, e2] X.env = (false, eval e X.env) :: starEach [e2] X.env := by rfl) (hpl : (backTo pos (starEach [e2] X.env)).any (·.1) = false := by rfl) :
    PI X (.Tuple elts kk tpos) (.Call (.Name "zip" p) [e, e2] [] pos) (iZipB X.K ta) := by
  refine ⟨fun pins s σ H R I h => ?_⟩
  refine Call_ (ld_blt I hg hm PyProof.Rows.boot_zip (PyProof.Rows.callWith_type1 (thn (ha.run pos pins s σ H _ I h) fun us s1 ⟨vs, H1, I1, r1, q1⟩ => ?_) hs hpl))
  obtain ⟨a, b, t, t2, xs, ys, ex, hqx, hqy, q⟩ := q1
  subst ex
  cases r1 with
  | cons r rr =>
    cases rr with
    | cons r' rr =>
      cases rr
      cases r
      cases r'
      obtain ⟨its, rv, p1, la⟩ := inv_sq I1 hqx
      obtain ⟨its2, rv2, p2, lb⟩ := inv_sq I1 hqy
      refine zip_begins2 (begins_sq t a its.toArray) (begins_sq t2 b its2.toArray) p1 p2 fun h' hz hTI hTO h1 h2 hsz hk => wpAny_pyIter_zip hz ?_
      have I2 : Inv X pins σ H1 { s1 with heap := h' } := I1.kept (t' := s1.toks) hk
      refine ⟨s1.heap.objs.size + 4, [s1.heap.objs.size + 4, s1.heap.objs.size + 2, s1.heap.objs.size + 3, s1.heap.objs.size, s1.heap.objs.size + 1], _, _, H1, rfl, I2, turn_zipB (sepB la lb) (Nat.ne_of_lt la) (Nat.ne_of_lt (Nat.lt_succ_of_lt lb)), ⟨hz, hTI, ⟨_, _, hTO⟩, isIt_new h1, isIt_new h2⟩, fun c hcm => ?_, q⟩
      have e' : c = s1.heap.objs.size + 4 ∨ c = s1.heap.objs.size + 2 ∨ c = s1.heap.objs.size + 3 ∨ c = s1.heap.objs.size ∨ c = s1.heap.objs.size + 1 := by simpa using hcm
      have hle : s1.heap.objs.size ≤ c := by
        rcases e' with z | z | z | z | z
        · rw [z]; exact Nat.le_add_right _ _
        · rw [z]; exact Nat.le_add_right _ _
        · rw [z]; exact Nat.le_add_right _ _
        · rw [z]; exact Nat.le_refl _
        · rw [z]; exact Nat.le_add_right _ _
      exact I1.fpOk hle (I1.hok.fresh hle)
end Dl
/-! walks over data, list comprehensions -/
namespace Dl
open PySem PySem.Spec PyProof.Rows L2

/-- at turn i of ds -/
def ItAt (K : PySem.W.Frag) (Jd : JT) (J : It) (B H : Hp) (ds : List D) (i : Nat) : Prop :=
  (i = ds.length → J.stop i H) ∧ ∀ d, ds[i]? = some d → J.go i H ∧ ∀ x H2, J.yld i H x H2 → ∃ B2, Grow Jd B H B2 H2 ∧ Own Jd B2 H2 ∧ Rep K B2 d x
def ItG (K : PySem.W.Frag) (Jd : JT) (J : It) (B H : Hp) (ds : List D) : Prop := ∀ ⦃B' H' : Hp⦄, Grow Jd B H B' H' → Own Jd B' H' → ∀ i, ItAt K Jd J B' H' ds i
def ItF (K : PySem.W.Frag) (Jd : JT) (J : It) (B : Hp) (ds : List D) : Prop := ∀ ⦃B' H' : Hp⦄, Same B B' → Same B' H' → Own Jd B' H' → ∀ i, ItAt K Jd J B' H' ds i
theorem ItF.g {K : PySem.W.Frag} {Jd : JT} {J : It} {B H : Hp} {ds : List D} (h : ItF K Jd J B ds) : ItG K Jd J B H ds := fun _ _ g w i => h g.bb g.bh w i

/-- the sequence at a holds ds: known -/
def SqK (K : PySem.W.Frag) (B : Hp) (a : Addr) (t : Bool) (ds : List D) : Prop := ∃ xs, SqB K t B a xs ∧ Reps K B ds xs
/-- .. known, or a list as it stands -/
def SqO (K : PySem.W.Frag) (Jd : JT) (B H : Hp) (a : Addr) (t : Bool) (ds : List D) : Prop := SqK K B a t ds ∨ (t = false ∧ Jd.a ≠ some a ∧ ∃ xs, H a = some (.lst xs) ∧ Reps K B ds xs)
def itemsD : D → Option (List D)
  | .lst ds => some ds
  | .tup ds => some ds
  | .frl ds => some ds
  | _ => none
section
variable {K : PySem.W.Frag} {Jd : JT} {B H B' H' : Hp} {a : Addr} {t : Bool} {ds es : List D} {d : D} {v : V}
theorem SqB.mono {xs : List V} (s : Same H H') (h : SqB K t H a xs) : SqB K t H' a xs := by
  cases t
  · exact Same.seq s h
  · exact same_sqT s h
theorem SqK.mono (s : Same B B') (h : SqK K B a t ds) : SqK K B' a t ds := by
  obtain ⟨xs, h1, h2⟩ := h
  exact ⟨xs, h1.mono s, h2.mono s⟩
theorem SqO.step (g : Grow Jd B H B' H') (h : SqO K Jd B H a t ds) : SqO K Jd B' H' a t ds := by
  rcases h with h | ⟨e, n, xs, h1, h2⟩
  · exact .inl (h.mono g.bb)
  · exact .inr ⟨e, n, xs, g.hh a _ n h1, h2.mono g.bb⟩
theorem SqO.at (s : Same B H) (h : SqO K Jd B H a t ds) : ∃ xs, SqB K t H a xs ∧ Reps K B ds xs := by
  rcases h with ⟨xs, h1, h2⟩ | ⟨e, n, xs, h1, h2⟩
  · exact ⟨xs, h1.mono s, h2⟩
  · subst e; exact ⟨xs, SqL.of h1, h2⟩
theorem RepT.items (s : Same B H) (h : RepT K Jd B H d v) (hd : itemsD d = some ds) : ∃ a t, v = .ref a ∧ SqO K Jd B H a t ds := by
  rcases h with h | ⟨es, a, xs, rfl, rfl, n, h1, h2⟩
  · cases d <;> try (simp [itemsD] at hd; done)
    case lst es =>
      simp [itemsD] at hd; subst hd
      rw [Rep] at h; obtain ⟨a, xs, rfl, r1, r2⟩ := h
      exact ⟨a, false, rfl, .inl ⟨xs, SqL.of r1, r2⟩⟩
    case tup es =>
      simp [itemsD] at hd; subst hd
      rw [Rep] at h; obtain ⟨a, xs, rfl, r1, r2⟩ := h
      exact ⟨a, true, rfl, .inl ⟨xs, r1, r2⟩⟩
    case frl es =>
      simp [itemsD] at hd; subst hd
      rw [Rep] at h; obtain ⟨a, xs, rfl, r1, r2⟩ := h
      exact ⟨a, false, rfl, .inl ⟨xs, r1, r2⟩⟩
  · simp [itemsD] at hd; subst hd
    exact ⟨a, false, rfl, .inr ⟨rfl, n, xs, h1, h2⟩⟩

/-! #### the four walks, at a turn -/
def ItsB (K : PySem.W.Frag) (t : Bool) (a : Addr) : It := match t with
  | true => Itt K a
  | false => Itl K a
theorem itsB_at {xs : List V} (s : Same B H) (w : Own Jd B H) (hq : SqB K t H a xs) (r : Reps K B ds xs) (i : Nat) : ItAt K Jd (ItsB K t a) B H ds i := by
  have hl := r.len
  cases t
  · refine ⟨fun e => ⟨xs, hq, by omega⟩, fun d hd => ?_⟩
    obtain ⟨v, hv, rv⟩ := r.get hd
    refine ⟨⟨xs, v, hq, hv⟩, fun x H2 y => ?_⟩
    obtain ⟨rfl, y⟩ := y
    have := y xs hq
    rw [hv] at this; cases this
    exact ⟨B, .refl s, w, rv⟩
  · refine ⟨fun e => ⟨xs, hq, by omega⟩, fun d hd => ?_⟩
    obtain ⟨v, hv, rv⟩ := r.get hd
    refine ⟨⟨xs, v, hq, hv⟩, fun x H2 y => ?_⟩
    obtain ⟨rfl, y⟩ := y
    have := y xs hq
    rw [hv] at this; cases this
    exact ⟨B, .refl s, w, rv⟩
def enumD (ds : List D) : List D := ds.mapIdx fun i d => .tup [.int (i : Nat), d]
theorem enumD_get {i : Nat} : (enumD ds)[i]? = (ds[i]?).map fun d => .tup [.int (i : Nat), d] := by
  unfold enumD; rw [List.getElem?_mapIdx]
theorem enumD_len : (enumD ds).length = ds.length := by unfold enumD; simp
def zipD (ds es : List D) : List D := List.zipWith (fun d e => .tup [d, e]) ds es
theorem pair_new {p : Addr} {d e : D} {x y : V} (n : H p = none) (s : Same B H) (w : Own Jd B H) (rx : Rep K B d x) (ry : Rep K B e y) :
    ∃ B2, Grow Jd B H B2 (upd H p (.tup [x, y])) ∧ Own Jd B2 (upd H p (.tup [x, y])) ∧ Rep K B2 (.tup [d, e]) (.ref p) := by
  refine ⟨upd B p (.tup [x, y]), .new s n, w.new n, ?_⟩
  have m := upd_same_of (o := .tup [x, y]) (s.free n)
  rw [Rep]
  exact ⟨p, [x, y], rfl, .inl (.inl upd_same), .cons (rx.mono m) (.cons (ry.mono m) .nil)⟩
theorem iteB_at {xs : List V} (s : Same B H) (w : Own Jd B H) (hq : SqB K t H a xs) (r : Reps K B ds xs) (i : Nat) : ItAt K Jd (IteB K t a) B H (enumD ds) i := by
  have hl := r.len
  refine ⟨fun e => ⟨xs, hq, by rw [enumD_len] at e; omega⟩, fun d hd => ?_⟩
  rw [enumD_get] at hd
  cases hd0 : ds[i]? with
  | none => rw [hd0] at hd; cases hd
  | some d0 =>
    rw [hd0] at hd
    cases hd
    obtain ⟨v, hv, rv⟩ := r.get hd0
    refine ⟨⟨xs, v, hq, hv⟩, fun x H2 y => ?_⟩
    obtain ⟨p, x', rfl, n, rfl, y⟩ := y
    have := y xs hq
    rw [hv] at this; cases this
    exact pair_new n s w (by rw [Rep]) rv
theorem itzB_at {b : Addr} {t2 : Bool} {xs ys : List V} (s : Same B H) (w : Own Jd B H) (hq : SqB K t H a xs) (r : Reps K B ds xs) (hq2 : SqB K t2 H b ys) (r2 : Reps K B es ys) (i : Nat) : ItAt K Jd (ItzB K t t2 a b) B H (zipD ds es) i := by
  have hl := r.len
  have hl2 := r2.len
  unfold zipD
  refine ⟨fun e => ⟨xs, ys, hq, hq2, ?_, ?_, ?_⟩, fun d hd => ?_⟩
  · rw [List.length_zipWith] at e; omega
  · rw [List.length_zipWith] at e; omega
  · rw [List.length_zipWith] at e; omega
  · rw [List.getElem?_zipWith] at hd
    cases hd0 : ds[i]? with
    | none => rw [hd0] at hd; cases hd
    | some d0 =>
      cases he0 : es[i]? with
      | none => rw [hd0, he0] at hd; cases hd
      | some e0 =>
        rw [hd0, he0] at hd
        cases hd
        obtain ⟨v, hv, rv⟩ := r.get hd0
        obtain ⟨u, hu, ru⟩ := r2.get he0
        refine ⟨⟨xs, ys, v, u, hq, hq2, hv, hu⟩, fun x H2 y => ?_⟩
        obtain ⟨p, x', y', rfl, n, rfl, y1, y2⟩ := y
        have e1 := y1 xs hq
        rw [hv] at e1; cases e1
        have e2 := y2 ys hq2
        rw [hu] at e2; cases e2
        exact pair_new n s w rv ru
def rangeD (lo : Int) (n : Nat) : List D := (List.range n).map fun i => .int (lo + (i : Nat))
theorem itr_at {lo : Int} {n : Nat} (s : Same B H) (w : Own Jd B H) (i : Nat) : ItAt K Jd (Itr lo n) B H (rangeD lo n) i := by
  unfold rangeD
  refine ⟨fun e => ?_, fun d hd => ?_⟩
  · simp at e; show n ≤ i; omega
  · rw [List.getElem?_map] at hd
    by_cases hi : i < n
    · rw [List.getElem?_range hi] at hd
      cases hd
      refine ⟨hi, fun x H2 y => ?_⟩
      obtain ⟨rfl, rfl⟩ := y
      exact ⟨B, .refl s, w, by rw [Rep]⟩
    · rw [List.getElem?_eq_none (by simp; omega)] at hd; cases hd
end

/-! ### walks as they begin -/
abbrev DIF := List S → (List S → List D → Prop) → Prop
abbrev DIC := List S → (List D → Prop) → Prop
def EvIF (K : PySem.W.Frag) (ti : TI) (w : DIF) : Prop := ∀ ⦃J : JT⦄ ⦃B0 H0 B H : Hp⦄ ⦃σ : L2.St⦄ ⦃δ : List S⦄, Env K J B0 H0 B H σ δ → ∀ k : List S → List D → Prop, w δ k → ∀ R : It → Hp → Prop,
  (∀ δ' ds It B' H', k δ' ds → Env K J B0 H0 B' H' σ δ' → ItF K J It B' ds → R It H') → ti σ H R
def EvIC (K : PySem.W.Frag) (ti : TI) (w : DIC) : Prop := ∀ ⦃J : JT⦄ ⦃B0 H0 B H : Hp⦄ ⦃σ : L2.St⦄ ⦃δ : List S⦄, Env K J B0 H0 B H σ δ → ∀ k : List D → Prop, w δ k → ∀ R : It → Hp → Prop,
  (∀ ds It B' H', k ds → Grow J B H B' H' → Own J B' H' → ItG K J It B' H' ds → R It H') → ti σ H R
structure Dif (X : Cx) (tg iter : Expr) (w : DIF) : Prop where
  ex : ∃ t, PI X tg iter t ∧ EvIF X.K t w
structure Dic (X : Cx) (tg iter : Expr) (w : DIC) : Prop where
  ex : ∃ t, PI X tg iter t ∧ EvIC X.K t w
section
variable {X : Cx} {e a b c tg iter elt : Expr} {es ifs : List Expr} {pos p : Pos} {st : Stmt} {rest body : List Stmt}
/-- over a list or a tuple -/
def wcSeq (wa : DE) : DIC := fun δ k => wa δ fun x => ∃ d ds, rd δ x = some d ∧ itemsD d = some ds ∧ k ds
theorem dic_seq {wa : DE} (ha : De X e wa) : Dic X tg e (wcSeq wa) := by
  obtain ⟨ta, pa, va⟩ := ha.ex
  refine ⟨_, pi_seq pa, ?_⟩
  intro J B0 H0 B H σ δ e k h R q
  refine va e _ h _ fun x v B1 H1 h1 g1 w1 r1 => ?_
  obtain ⟨d, ds, hr, hi, h1⟩ := h1
  have e1 := e.step g1 w1
  obtain ⟨a, t, rfl, hs⟩ := (r1.toT e1 e.nod hr).items e1.bh hi
  have it : ItG X.K J (ItsB X.K t a) B1 H1 ds := fun B' H' g w i => by
    obtain ⟨xs, hq, r⟩ := (hs.step g).at g.bh
    exact itsB_at g.bh w hq r i
  obtain ⟨xs, hq, _⟩ := hs.at e1.bh
  refine ⟨a, rfl, ?_⟩
  cases t
  · exact .inl ⟨⟨xs, hq⟩, q ds _ B1 H1 h1 g1 w1 it⟩
  · exact .inr ⟨⟨xs, hq⟩, q ds _ B1 H1 h1 g1 w1 it⟩
/-- over range(n), range(m, n) -/
def wcR1 (wa : DA) : DIC := fun δ k => wa δ fun xs => ∃ j, xs = [.c (.int j)] ∧ small62 j ∧ k (rangeD 0 j.toNat)
theorem dic_r1 {wa : DA} {p2 : Pos} (hgl : Gl X "range") (hm : X.mg "range" = none) (ha : Da X [a] wa) (hs' : starEach [a] X.env = [(false, eval a X.env)] := by rfl) : Dic X tg (.Call (.Name "range" p) [a] [] p2) (wcR1 wa) := by
  obtain ⟨ta, pa, va⟩ := ha.ex
  refine ⟨_, pi_range1 hgl hm pa hs', ?_⟩
  intro J B0 H0 B H σ δ e k h R q
  refine va e _ h _ fun xs vs B1 H1 h1 g1 w1 r1 => ?_
  obtain ⟨j, rfl, ⟨hj1, hj2⟩, h1⟩ := h1
  obtain ⟨v, r, rfl, q1, q2, _⟩ := r1
  cases (show r = [] from q2)
  cases rv_int q1
  exact ⟨j, rfl, by omega, by omega, q _ _ B1 H1 h1 g1 w1 fun B' H' g w i => itr_at g.bh w i⟩
def wcR2 (wa : DA) : DIC := fun δ k => wa δ fun xs => ∃ i j, xs = [.c (.int i), .c (.int j)] ∧ small62 i ∧ small62 j ∧ k (rangeD i (j - i).toNat)
theorem dic_r2 {wa : DA} {p2 : Pos} (hgl : Gl X "range") (hm : X.mg "range" = none) (ha : Da X [a, b] wa) (hs' : starEach [a, b] X.env = [(false, eval a X.env), (false, eval b X.env)] := by rfl) (hs2 : starEach [b] X.env = [(false, eval b X.env)] := by rfl) : Dic X tg (.Call (.Name "range" p) [a, b] [] p2) (wcR2 wa) := by
  obtain ⟨ta, pa, va⟩ := ha.ex
  refine ⟨_, pi_range2 hgl hm pa hs' hs2, ?_⟩
  intro J B0 H0 B H σ δ e k h R q
  refine va e _ h _ fun xs vs B1 H1 h1 g1 w1 r1 => ?_
  obtain ⟨i0, j, rfl, ⟨hi1, hi2⟩, ⟨hj1, hj2⟩, h1⟩ := h1
  obtain ⟨v, r, rfl, q1, ⟨v2, r2, rfl, q3, q4, _⟩, _⟩ := r1
  cases (show r2 = [] from q4)
  cases rv_int q1
  cases rv_int q3
  exact ⟨i0, j, rfl, ⟨by omega, by omega, by omega, by omega⟩, q _ _ B1 H1 h1 g1 w1 fun B' H' g w i => itr_at g.bh w i⟩
/-- over enumerate(x) -/
def wcEnum (wa : DA) : DIC := fun δ k => wa δ fun xs => ∃ d ds, rds δ xs = some [d] ∧ itemsD d = some ds ∧ k (enumD ds)
theorem dic_enum {wa : DA} {elts : List Expr} {kk : Nat} {tpos p2 : Pos} (hgl : Gl X "enumerate") (hm : X.mg "enumerate" = none) (ha : Da X [a] wa) (hs' : starEach [a] X.env = [(false, eval a X.env)] := by rfl) : Dic X (.Tuple elts kk tpos) (.Call (.Name "enumerate" p) [a] [] p2) (wcEnum wa) := by
  obtain ⟨ta, pa, va⟩ := ha.ex
  refine ⟨_, pi_enumB hgl hm pa hs', ?_⟩
  intro J B0 H0 B H σ δ e k h R q
  refine va e _ h _ fun xs vs B1 H1 h1 g1 w1 r1 => ?_
  obtain ⟨d, ds, hr, hi, h1⟩ := h1
  have e1 := e.step g1 w1
  obtain ⟨v, rfl, t1⟩ := ts1 (r1.toT e1 e.nod hr)
  obtain ⟨a, t, rfl, hs⟩ := t1.items e1.bh hi
  obtain ⟨xs, hq, _⟩ := hs.at e1.bh
  refine ⟨a, t, xs, rfl, hq, q _ _ B1 H1 h1 g1 w1 fun B' H' g w i => ?_⟩
  obtain ⟨xs, hq, r⟩ := (hs.step g).at g.bh
  exact iteB_at g.bh w hq r i
/-- over zip(x, y) -/
def wcZip (wa : DA) : DIC := fun δ k => wa δ fun xs => ∃ d d2 ds es, rds δ xs = some [d, d2] ∧ itemsD d = some ds ∧ itemsD d2 = some es ∧ k (zipD ds es)
theorem dic_zip {wa : DA} {elts : List Expr} {kk : Nat} {tpos p2 : Pos} (hgl : Gl X "zip") (hm : X.mg "zip" = none) (ha : Da X [a, b] wa) (hs' : starEach [a, b] X.env = (false, eval a X.env) :: starEach [b] X.env := by rfl) (hpl : (backTo p2 (starEach [b] X.env)).any (·.1) = false := by rfl) :
    Dic X (.Tuple elts kk tpos) (.Call (.Name "zip" p) [a, b] [] p2) (wcZip wa) := by
  obtain ⟨ta, pa, va⟩ := ha.ex
  refine ⟨_, pi_zipB hgl hm pa hs' hpl, ?_⟩
  intro J B0 H0 B H σ δ e k h R q
  refine va e _ h _ fun xs vs B1 H1 h1 g1 w1 r1 => ?_
  obtain ⟨d, d2, ds, es, hr, hi, hi2, h1⟩ := h1
  have e1 := e.step g1 w1
  obtain ⟨v, v2, rfl, t1, t2⟩ := ts2 (r1.toT e1 e.nod hr)
  obtain ⟨a, t, rfl, hs⟩ := t1.items e1.bh hi
  obtain ⟨b, t', rfl, hs2⟩ := t2.items e1.bh hi2
  obtain ⟨xs, hq, _⟩ := hs.at e1.bh
  obtain ⟨ys, hq2, _⟩ := hs2.at e1.bh
  refine ⟨a, b, t, t', xs, ys, rfl, hq, hq2, q _ _ B1 H1 h1 g1 w1 fun B' H' g w i => ?_⟩
  obtain ⟨xs, hq, r⟩ := (hs.step g).at g.bh
  obtain ⟨ys, hq2, r2⟩ := (hs2.step g).at g.bh
  exact itzB_at g.bh w hq r hq2 r2 i
theorem rep_items {K : PySem.W.Frag} {B : Hp} {d : D} {ds : List D} {v : V} (h : Rep K B d v) (hd : itemsD d = some ds) : ∃ a t, v = .ref a ∧ SqK K B a t ds := by
  cases d <;> try (simp [itemsD] at hd; done)
  case lst es =>
    simp [itemsD] at hd; subst hd
    rw [Rep] at h; obtain ⟨a, xs, rfl, r1, r2⟩ := h
    exact ⟨a, false, rfl, xs, SqL.of r1, r2⟩
  case tup es =>
    simp [itemsD] at hd; subst hd
    rw [Rep] at h; obtain ⟨a, xs, rfl, r1, r2⟩ := h
    exact ⟨a, true, rfl, xs, r1, r2⟩
  case frl es =>
    simp [itemsD] at hd; subst hd
    rw [Rep] at h; obtain ⟨a, xs, rfl, r1, r2⟩ := h
    exact ⟨a, false, rfl, xs, r1, r2⟩
theorem items_okS {K : PySem.W.Frag} {J : JT} {B0 H0 B H B1 H1 : Hp} {σ : L2.St} {δ δ' : List S} {x : DV} {v : V} {ds : List D} (e : Env K J B0 H0 B H σ δ) (g : Grow J B H B1 H1) (w : Own J B1 H1) (r : RepV K J H B1 H1 σ δ x v) (h : items δ x = some (δ', ds)) :
    ∃ B2 a xs, Env K J B0 H0 B2 H1 σ δ' ∧ v = .ref a ∧ (SqL K B2 a xs ∨ SqT K B2 a xs) ∧ Reps K B2 ds xs ∧ Same B1 B2 := by
  have e1 := e.step g w
  cases x with
  | c d =>
    have r : Rep K B1 d v := r
    cases d <;> try (simp [items] at h; done)
    case lst es =>
      simp [items] at h; obtain ⟨rfl, rfl⟩ := h
      rw [Rep] at r; obtain ⟨a, xs, rfl, r1, r2⟩ := r
      exact ⟨B1, a, xs, e1, rfl, .inl (SqL.of r1), r2, .refl _⟩
    case tup es =>
      simp [items] at h; obtain ⟨rfl, rfl⟩ := h
      rw [Rep] at r; obtain ⟨a, xs, rfl, r1, r2⟩ := r
      exact ⟨B1, a, xs, e1, rfl, .inr r1, r2, .refl _⟩
    case frl es =>
      simp [items] at h; obtain ⟨rfl, rfl⟩ := h
      rw [Rep] at r; obtain ⟨a, xs, rfl, r1, r2⟩ := r
      exact ⟨B1, a, xs, e1, rfl, .inl r1, r2, .refl _⟩
  | f es =>
    simp [items] at h; obtain ⟨rfl, rfl⟩ := h
    obtain ⟨B2, g2, w2, s2, r2, _⟩ := r.keep e.nod g w (d := .lst es) rfl
    rw [Rep] at r2; obtain ⟨a, xs, rfl, r1, r3⟩ := r2
    exact ⟨B2, a, xs, e.step g2 w2, rfl, .inl (SqL.of r1), r3, s2⟩
  | o i =>
    obtain ⟨⟨es, hd | hd⟩, hv⟩ := r
    case inr => simp [items, hd] at h
    simp [items, hd] at h; obtain ⟨rfl, rfl⟩ := h
    obtain ⟨B2, e2, s2, a, hs, r2⟩ := e1.freeze hd
    rw [hv] at hs; cases hs
    rw [Rep] at r2; obtain ⟨a', xs, ea, r1, r3⟩ := r2
    cases ea
    exact ⟨B2, a, xs, e2, rfl, .inl (SqL.of r1), r3, s2⟩
  | j => simp [items] at h
/-! #### .. of a for -/
/-- over enumerate(x) -/
def wfEnum (wa : DA) : DIF := fun δ k => wa δ fun xs => ∃ x δ' ds, xs = [x] ∧ items δ x = some (δ', ds) ∧ k δ' (enumD ds)
theorem dif_enum {wa : DA} {elts : List Expr} {kk : Nat} {tpos p2 : Pos} (hgl : Gl X "enumerate") (hm : X.mg "enumerate" = none) (ha : Da X [a] wa) (hs' : starEach [a] X.env = [(false, eval a X.env)] := by rfl) : Dif X (.Tuple elts kk tpos) (.Call (.Name "enumerate" p) [a] [] p2) (wfEnum wa) := by
  obtain ⟨ta, pa, va⟩ := ha.ex
  refine ⟨_, pi_enumB hgl hm pa hs', ?_⟩
  intro J B0 H0 B H σ δ e k h R q
  refine va e _ h _ fun xs vs B1 H1 h1 g1 w1 r1 => ?_
  obtain ⟨x, δ', ds, rfl, hi, h1⟩ := h1
  obtain ⟨v, r, rfl, q1, q2, _⟩ := r1
  cases (show r = [] from q2)
  obtain ⟨B2, a, xs, e2, rfl, hx, rr⟩ := items_ok e g1 w1 q1 hi
  obtain ⟨t, hq⟩ : ∃ t, SqB X.K t B2 a xs := hx.elim (fun h => ⟨false, h⟩) fun h => ⟨true, h⟩
  exact ⟨a, t, xs, rfl, hq.mono e2.bh, q _ _ _ B2 H1 h1 e2 fun B' H' s s' w i => iteB_at s' w ((hq.mono s).mono s') (rr.mono s) i⟩
def wfZip (wa : DA) : DIF := fun δ k => wa δ fun xs => ∃ x d δ' ds es, ((xs = [x, .c d] ∧ itemsD d = some es) ∧ items δ x = some (δ', ds)) ∧ k δ' (zipD ds es)
theorem dif_zip {wa : DA} {elts : List Expr} {kk : Nat} {tpos p2 : Pos} (hgl : Gl X "zip") (hm : X.mg "zip" = none) (ha : Da X [a, b] wa) (hs' : starEach [a, b] X.env = (false, eval a X.env) :: starEach [b] X.env := by rfl) (hpl : (backTo p2 (starEach [b] X.env)).any (·.1) = false := by rfl) :
    Dif X (.Tuple elts kk tpos) (.Call (.Name "zip" p) [a, b] [] p2) (wfZip wa) := by
  obtain ⟨ta, pa, va⟩ := ha.ex
  refine ⟨_, pi_zipB hgl hm pa hs' hpl, ?_⟩
  intro J B0 H0 B H σ δ e k h R q
  refine va e _ h _ fun xs vs B1 H1 h1 g1 w1 r1 => ?_
  obtain ⟨x, d, δ', ds, es, ⟨⟨rfl, hi2⟩, hi⟩, h1⟩ := h1
  obtain ⟨v, r, rfl, q1, ⟨v2, r2, rfl, q3, q4, _⟩, _⟩ := r1
  cases (show r2 = [] from q4)
  have q3 : Rep X.K B1 d v2 := q3
  obtain ⟨b, t2, rfl, hb⟩ := rep_items q3 hi2
  obtain ⟨B2, a, xs, e2, rfl, hx, rr, sm⟩ := items_okS e g1 w1 q1 hi
  obtain ⟨t, hq⟩ : ∃ t, SqB X.K t B2 a xs := hx.elim (fun h => ⟨false, h⟩) fun h => ⟨true, h⟩
  obtain ⟨ys, hq2, rr2⟩ := hb.mono sm
  exact ⟨a, b, t, t2, xs, ys, rfl, hq.mono e2.bh, hq2.mono e2.bh, q _ _ _ B2 H1 h1 e2 fun B' H' s s' w i => itzB_at s' w ((hq.mono s).mono s') (rr.mono s) ((hq2.mono s).mono s') (rr2.mono s) i⟩
end
end Dl
/-! for over a walk; list comprehensions -/
namespace Dl
open PySem PySem.Spec PyProof.Rows L2
section
variable {X : Cx} {e a b c tg iter elt : Expr} {es ifs : List Expr} {pos p : Pos} {st : Stmt} {rest body : List Stmt}
def wForW (wi : DIF) (wg : DG) (wb : DS) : DS := fun R δ => wi δ fun δ' ds => ∃ I : Nat → List S → Prop, I 0 δ' ∧
  (∀ (i : Nat) d δ, ds[i]? = some d → I i δ → wg d δ fun δ2 => wb { R with nx := I (i + 1), ct := I (i + 1), bk := R.nx } δ2) ∧ ∀ δ, I ds.length δ → R.nx δ
theorem ds_forW {wi : DIF} {wg : DG} {wb : DS} (hp : PassesOwn (model X.prog X.w) X.A X.env X.xe) (hc : X.calm = true) (hi : Dif X tg iter wi) (hg : Dg X tg wg) (hb : Dss X body wb) (hs : ∀ x, foldedSetIterable iter X.env x = pure x := by intro _; rfl) : Ds X (.For tg iter body [] pos) (wForW wi wg wb) := by
  obtain ⟨ti, pi, vi⟩ := hi.ex
  obtain ⟨tg', pg, vg⟩ := hg.ex
  obtain ⟨tb, pb, vb⟩ := hb.ex
  refine ⟨_, ps_for hp hc pi pg pb hs, ?_⟩
  intro J B0 H0 B H σ δ e R h En F
  refine vi e _ h _ fun δ' ds It B2 H2 h1 e2 it => ?_
  obtain ⟨I, h0, hst, hend⟩ := h1
  have e3 := e2.rebase
  refine ⟨fun i m σ H => m = ds.length - i ∧ i ≤ ds.length ∧ ∃ B δ, Env X.K J B2 H0 B H σ δ ∧ I i δ, ⟨ds.length, rfl, Nat.zero_le _, B2, δ', e3, h0⟩, ?_⟩
  rintro i m σ H ⟨rfl, hi, B, δ, e, hI⟩
  obtain ⟨stop, go⟩ := it e.gr.bb e.gr.bh e.ow i
  by_cases hlt : i < ds.length
  · have hd : ds[i]? = some ds[i] := List.getElem?_eq_getElem hlt
    obtain ⟨go, yl⟩ := go _ hd
    refine .inr ⟨go, fun σ' H' => i + 1 ≤ ds.length ∧ ∃ B δ, Env X.K J B2 H0 B H' σ' δ ∧ I (i + 1) δ, fun σ' H' h => ⟨ds.length - (i + 1), by omega, rfl, h.1, h.2⟩, fun x H' y => ?_⟩
    obtain ⟨B3, g3, w3, rx⟩ := yl x H' y
    refine vg (e.step g3 w3) _ x rx _ (hst i _ δ hd hI) _ fun B' σ' δ' hk sm e' => ?_
    exact vb e' _ hk _ ⟨fun h' e'' => ⟨hlt, _, _, e'', h'⟩, fun h' e'' r => F.rt h' (e2.unbase e'') r, fun h' e'' => F.nx h' (e2.unbase e''), fun h' e'' => ⟨hlt, _, _, e'', h'⟩⟩
  · have ei : i = ds.length := by omega
    subst ei
    exact .inl ⟨stop rfl, F.nx (hend δ hI) (e2.unbase e)⟩

/-! ### targets of a comprehension: names of its own alone change -/
def EvGv (K : PySem.W.Frag) (vs : List Nat) (g : TG) (wg : DG) : Prop := ∀ ⦃J : JT⦄ ⦃B0 H0 B H : Hp⦄ ⦃σ : L2.St⦄ ⦃δ : List S⦄, Env K J B0 H0 B H σ δ → ∀ (d : D) (v : V), Rep K B d v → ∀ k : List S → Prop, wg d δ k → ∀ Q : L2.St → Hp → Prop,
  (∀ σ' δ', k δ' → Env K J B0 H0 B H σ' δ' → wipe σ' vs = wipe σ vs → Q σ' H) → g v σ H Q
def EvGsv (K : PySem.W.Frag) (vs : List Nat) (g : TGs) (wg : DGs) : Prop := ∀ ⦃J : JT⦄ ⦃B0 H0 B H : Hp⦄ ⦃σ : L2.St⦄ ⦃δ : List S⦄, Env K J B0 H0 B H σ δ → ∀ (ds : List D) (xs : List V), Reps K B ds xs → ∀ k : List S → Prop, wg ds δ k → ∀ Q : L2.St → Hp → Prop,
  (∀ σ' δ', k δ' → Env K J B0 H0 B H σ' δ' → wipe σ' vs = wipe σ vs → Q σ' H) → g xs σ H Q
structure Dgv (X : Cx) (vs : List Nat) (t : Expr) (w : DG) : Prop where
  ex : ∃ g, PG X t g ∧ EvGv X.K vs g w
structure Dgsv (X : Cx) (vs : List Nat) (ts : List Expr) (w : DGs) : Prop where
  ex : ∃ g, PGs X ts g ∧ EvGsv X.K vs g w
theorem wipe_set {σ : L2.St} {i : Nat} {o : Option V} : ∀ {vs : List Nat}, i ∈ vs → wipe (σ.set i o) vs = wipe σ vs
  | [], h => by simp at h
  | v :: vs, h => by
    unfold wipe
    by_cases hi : i ∈ vs
    · rw [wipe_set hi]
    · have e : i = v := by simpa [hi] using h
      subst e
      have out : ∀ {ws : List Nat} {σ : L2.St}, i ∉ ws → wipe (σ.set i o) ws = (wipe σ ws).set i o := by
        intro ws
        induction ws with
        | nil => intro σ _; rfl
        | cons w ws ih =>
          intro σ hw
          unfold wipe
          rw [ih (fun z => hw (List.mem_cons_of_mem _ z))]
          exact List.set_comm _ _ (fun z => hw (by rw [z]; exact List.mem_cons_self))
      rw [out hi, List.set_set]
theorem wipe_wipe {σ : L2.St} {vs : List Nat} : wipe (wipe σ vs) vs = wipe σ vs := by
  have gen : ∀ ws : List Nat, (∀ w ∈ ws, w ∈ vs) → wipe (wipe σ ws) vs = wipe σ vs := by
    intro ws
    induction ws with
    | nil => intro _; rfl
    | cons w ws ih =>
      intro h
      show wipe ((wipe σ ws).set w none) vs = _
      rw [wipe_set (h w List.mem_cons_self)]
      exact ih fun x hx => h x (List.mem_cons_of_mem _ hx)
  exact gen vs fun _ h => h
def wipeD (δ : List S) : List Nat → List S
  | [] => δ
  | v :: vs => (wipeD δ vs).set v .no
theorem dgv_name {i : Nat} {x : Str} {vs : List Nat} (hN : X.N.Nodup) (hi : X.N[i]? = some x) (hx : Loc X.env.scope x) (hv : i ∈ vs) (hf : X.fn x = true ∨ X.env.scope.names.lookup x = some .local := by first | exact .inl rfl | exact .inr rfl | assumption) : Dgv X vs (.Name x pos) (wgName i) := by
  refine ⟨_, pg_name hN hi hx hf, ?_⟩
  intro J B0 H0 B H σ δ e d v r k h Q q
  exact q _ _ h (e.putc r i) (wipe_set hv)
theorem dgsv_nil {vs : List Nat} : Dgsv X vs [] wgNil := by
  refine ⟨_, pgs_nil, ?_⟩
  intro J B0 H0 B H σ δ e ds xs r k h Q q
  obtain ⟨rfl, h⟩ := h
  rw [Reps] at r
  exact ⟨r, q _ _ h e rfl⟩
theorem dgsv_cons {vs : List Nat} {w : DG} {ws : DGs} (h1 : Dgv X vs e w) (h2 : Dgsv X vs es ws) (hs : (assignEach (e :: es) X.env).map (·.2) = assign e X.env :: (assignEach es X.env).map (·.2) := by rfl) : Dgsv X vs (e :: es) (wgCons w ws) := by
  obtain ⟨t1, p1, v1⟩ := h1.ex
  obtain ⟨t2, p2, v2⟩ := h2.ex
  refine ⟨_, pgs_cons p1 p2 hs, ?_⟩
  intro J B0 H0 B H σ δ e ds xs r k h Q q
  obtain ⟨d, dr, rfl, h⟩ := h
  rw [Reps] at r
  obtain ⟨x, xs, rfl, r1, r2⟩ := r
  exact ⟨x, xs, rfl, v1 e d x r1 _ h _ fun σ1 δ1 h1 e1 w1 => v2 e1 dr xs r2 _ h1 _ fun σ2 δ2 h2 e2 w2 => q σ2 δ2 h2 e2 (w2.trans w1)⟩
theorem dgv_tup {vs : List Nat} {k n : Nat} {ws : DGs} (hc : X.calm = true) (h : Dgsv X vs es ws) (hn : (assignEach es X.env).length = n := by rfl) (hst : (assignEach es X.env).findIdx? (·.1) = none := by rfl) : Dgv X vs (.Tuple es k pos) (wgTup n ws) := by
  obtain ⟨t, p, v⟩ := h.ex
  refine ⟨_, pg_tup hc p hn hst, ?_⟩
  intro J B0 H0 B H σ δ e d u r k h Q q
  obtain ⟨ds, rfl, hl, h⟩ := h
  rw [Rep] at r
  obtain ⟨a, xs, rfl, r1, r2⟩ := r
  exact ⟨a, xs, rfl, same_sqT e.bh r1, by rw [r2.len, hl], v e ds xs r2 _ h _ q⟩
/-! tests of a comprehension -/
structure Dts (X : Cx) (ifs : List Expr) (w : DT) : Prop where
  ex : ∃ t, PTs X ifs t ∧ EvT X.K t w
def wYes : DT := fun _ k => k true
theorem dts_nil : Dts X [] wYes := by
  refine ⟨_, pts_nil, ?_⟩
  intro J B0 H0 B H σ δ e k h Q q
  exact q true B H h (.refl e.bh) e.ow
theorem dts_one {w : DT} (h : Dt X c w) : Dts X [c] w := by
  obtain ⟨t, p, v⟩ := h.ex
  exact ⟨_, pts_one p, v⟩
end

section
variable {K : PySem.W.Frag} {J : JT} {B0 H0 B H : Hp} {σ : L2.St} {δ : List S}
theorem Env.unset (e : Env K J B0 H0 B H σ δ) (v : Nat) : Env K J B0 H0 B H (σ.set v none) (δ.set v .no) := by
  refine ⟨e.gr, e.ow, e.jl, by simp [e.ln], fun i s h => ?_, fun i j ds es a nij h1 h2 h3 h4 => ?_⟩
  · rw [getD_set]
    rw [List.getElem?_set] at h
    by_cases hv : v = i
    · subst hv
      by_cases hl : v < δ.length
      · simp [hl] at h; subst h; trivial
      · simp [hl] at h
    · rw [if_neg hv] at h
      rw [if_neg fun z => hv z.1]
      exact e.sl i s h
  · have no : ∀ {i ds}, (δ.set v S.no)[i]? = some (S.own ds) → v ≠ i ∧ δ[i]? = some (S.own ds) := by
      intro i ds h
      rw [List.getElem?_set] at h
      by_cases hv : v = i
      · subst hv
        by_cases hl : v < δ.length
        · simp [hl] at h
        · simp [hl] at h
      · rw [if_neg hv] at h; exact ⟨hv, h⟩
    obtain ⟨n1, h1⟩ := no h1
    obtain ⟨n2, h2⟩ := no h2
    rw [List.getElem?_set_ne n1] at h3
    rw [List.getElem?_set_ne n2] at h4
    exact e.ap i j ds es a nij h1 h2 h3 h4
theorem Env.wiped (e : Env K J B0 H0 B H σ δ) : ∀ vs : List Nat, Env K J B0 H0 B H (wipe σ vs) (wipeD δ vs)
  | [] => e
  | v :: vs => (e.wiped vs).unset v
end
/-- [elt for target in iter if ..] -/
def wLc (wi : DIC) (vs : List Nat) (wg : DG) (wt : DT) (we : DE) : DE := fun δ k => wi δ fun ds => ∃ I : Nat → List D → Prop, I 0 [] ∧
  (∀ (i : Nat) d acc, ds[i]? = some d → I i acc → acc.length ≤ i → wg d (wipeD δ vs) fun δ2 => wt δ2 fun b => if b = true then we δ2 fun y => ∃ e, cl y = some e ∧ I (i + 1) (acc ++ [e]) else I (i + 1) acc) ∧
  ds.length ≤ 100000 ∧ ∀ acc, I ds.length acc → acc.length ≤ ds.length → k (.f acc)
theorem ev_lc {K : PySem.W.Frag} {ti : TI} {g : TG} {tt : TT} {te : TE} {wi : DIC} {wg : DG} {wt : DT} {we : DE} {vs : List Nat} (hi : EvIC K ti wi) (hg : EvGv K vs g wg) (ht : EvT K tt wt) (he : EvE K te we) : EvE K (tLc ti g tt te vs) (wLc wi vs wg wt we) := by
  intro J B0 H0 B H σ δ e k h Q q
  refine hi e _ h _ fun ds It B1 H1 h1 g1 w1 it => ?_
  obtain ⟨I, I0, hst, hsz, hend⟩ := h1
  intro L hL
  have e1 := e.step g1 w1
  have nj : J.a ≠ some L := w1.no hL
  have hB1 : B1 L = none := e1.bh.free hL
  let W : Nat → Hp → Prop := fun i H' => i ≤ ds.length ∧ ∃ B' acc xs, Grow J B1 H1 B' H' ∧ Own J B' H' ∧ B' L = none ∧ H' L = some (.lst xs) ∧ Reps K B' acc xs ∧ I i acc ∧ acc.length ≤ i
  refine ⟨fun i m H' => m = ds.length - i ∧ W i H', ⟨ds.length, rfl, Nat.zero_le _, B1, [], [], .fresh e1.bh hL, w1.fresh hL, hB1, upd_same, .nil, I0, Nat.le_refl _⟩, ?_⟩
  rintro i m H' ⟨rfl, hi, B', acc, xs, g', w', hB', hH', rr, hI, hl⟩
  obtain ⟨stop, go⟩ := it g' w' i
  by_cases hlt : i < ds.length
  · have hd : ds[i]? = some ds[i] := List.getElem?_eq_getElem hlt
    obtain ⟨go, yl⟩ := go _ hd
    refine .inr ⟨go, W (i + 1), fun H'' h => ⟨ds.length - (i + 1), by omega, rfl, h⟩, fun x H2 y => ?_⟩
    obtain ⟨B2, g2, w2, rx⟩ := yl x H2 y
    have G2 := g'.trans g2
    have e2 := (e1.step G2 w2).wiped vs
    have hB2 : B2 L = none := (g2.fr L (by rw [hH']; simp)).trans hB'
    have hH2 : H2 L = some (.lst xs) := g2.hh L _ nj hH'
    refine hg e2 _ x rx _ (hst i _ acc hd hI hl) _ fun σ3 δ3 h3 e3 ew => ?_
    refine ⟨ew.trans wipe_wipe, ?_⟩
    refine ht e3 _ h3 _ fun b B4 H4 h4 g4 w4 => ?_
    have G4 := G2.trans g4
    have hB4 : B4 L = none := (g4.fr L (by rw [hH2]; simp)).trans hB2
    have hH4 : H4 L = some (.lst xs) := g4.hh L _ nj hH2
    cases b with
    | false => exact ⟨hlt, B4, acc, xs, G4, w4, hB4, hH4, (rr.mono g2.bb).mono g4.bb, h4, by omega⟩
    | true =>
      have e4 := e3.step g4 w4
      refine he e4 _ h4 _ fun y v B5 H5 h5 g5 w5 r5 => ?_
      obtain ⟨d, hc, h5⟩ := h5
      obtain ⟨B6, g6, w6, s6, r6, _⟩ := r5.keep e4.nod g5 w5 hc
      have G6 := G4.trans g6
      have hB6 : B6 L = none := (g6.fr L (by rw [hH4]; simp)).trans hB4
      have hH5 : H5 L = some (.lst xs) := g6.hh L _ nj hH4
      have r0 := ((rr.mono g2.bb).mono g4.bb).mono g6.bb
      have lx := r0.len
      refine ⟨xs, hH5, Nat.lt_of_lt_of_le (show xs.length < 100001 by omega) (by decide), hlt, B6, acc ++ [d], xs ++ [v], ?_, ?_, hB6, upd_same, r0.append (.cons r6 .nil), h5, by simp; omega⟩
      · refine ⟨G6.bb, fun b o eb => ?_, G6.kp.put hL hH5 pl0_lst, fun b eb => ?_, G6.fr⟩
        · rw [upd_ne (fun z => by rw [z, hB6] at eb; cases eb)]; exact G6.bh b o eb
        · by_cases hb : b = L
          · rw [hb, upd_same]; simp
          · rw [upd_ne hb]; exact G6.ne b eb
      · refine ⟨fun b z => ?_, tabs_put hH5 pl0_lst w6.tb, w6.nt⟩
        obtain ⟨h1, l, m, c, h0, h2⟩ := w6.dc b z
        exact ⟨h1, l, m, c, h0, by rw [upd_ne (fun q => nj (by rw [z, q]))]; exact h2⟩
  · have ei : i = ds.length := by omega
    subst ei
    refine .inl ⟨stop rfl, q (.f acc) _ B' H' (hend acc hI hl) (g1.trans g') w' ⟨L, xs, rfl, ?_, hB', hH', rr⟩⟩
    cases hh : H L with
    | none => rfl
    | some o => exact absurd hL (g1.ne L (by rw [hh]; simp))
section
variable {X : Cx} {e a b c tg iter elt : Expr} {es ifs : List Expr} {pos p : Pos} {st : Stmt} {rest body : List Stmt}
abbrev Blk (X : Cx) (scope : Scope) (P : Cx → Prop) : Prop := ∀ (s : Shared) (H : Hp) (C : Addr) (cl : List (Str × Addr)) (fp : List Addr), P (X.blk s H scope (compEnvC scope cl C X.env) fp)
theorem blk_g {vs : List Nat} {scope : Scope} {wg : DG} (h : Blk X scope fun Y => Dgv Y vs tg wg) : ∃ g, (∀ (s : Shared) (H : Hp) (C : Addr) (cl : List (Str × Addr)) (fp : List Addr), PG (X.blk s H scope (compEnvC scope cl C X.env) fp) tg g) ∧ EvGv X.K vs g wg := by
  refine ⟨fun v σ H Q => ∀ s H' C cl fp, (h s H' C cl fp).ex.choose v σ H Q, fun s H C cl fp => ⟨fun pins s' σ H' v u Q I r q => (h s H C cl fp).ex.choose_spec.1.run pins s' σ H' v u Q I r (q s H C cl fp)⟩, ?_⟩
  intro J B0 H0 B H σ δ e d v r k hk Q q s H' C cl fp
  exact (h s H' C cl fp).ex.choose_spec.2 e d v r k hk Q q
theorem blk_t {scope : Scope} {wt : DT} (h : Blk X scope fun Y => Dts Y ifs wt) : ∃ t, (∀ (s : Shared) (H : Hp) (C : Addr) (cl : List (Str × Addr)) (fp : List Addr), PTs (X.blk s H scope (compEnvC scope cl C X.env) fp) ifs t) ∧ EvT X.K t wt := by
  refine ⟨fun σ H Q => ∀ s H' C cl fp, (h s H' C cl fp).ex.choose σ H Q, fun s H C cl fp => ⟨fun pins s' σ H' Q I q => (h s H C cl fp).ex.choose_spec.1.run pins s' σ H' Q I (q s H C cl fp)⟩, ?_⟩
  intro J B0 H0 B H σ δ e k hk Q q s H' C cl fp
  exact (h s H' C cl fp).ex.choose_spec.2 e k hk Q q
theorem blk_e {scope : Scope} {we : DE} (h : Blk X scope fun Y => De Y elt we) : ∃ t, (∀ (s : Shared) (H : Hp) (C : Addr) (cl : List (Str × Addr)) (fp : List Addr), PE (X.blk s H scope (compEnvC scope cl C X.env) fp) elt t) ∧ EvE X.K t we := by
  refine ⟨fun σ H Q => ∀ s H' C cl fp, (h s H' C cl fp).ex.choose σ H Q, fun s H C cl fp => ⟨fun pins s' σ H' Q I q => (h s H C cl fp).ex.choose_spec.1.run pins s' σ H' Q I (q s H C cl fp)⟩, ?_⟩
  intro J B0 H0 B H σ δ e k hk Q q s H' C cl fp
  exact (h s H' C cl fp).ex.choose_spec.2 e k hk Q q
theorem de_lc {scope : Scope} {own : List (Str × Nat)} {wi : DIC} {wg : DG} {wt : DT} {we : DE} (hc : X.calm = true) (hN : X.N.Nodup) (hi : Dic X tg iter wi) (ok : BlkOk X.N X.env.scope scope own)
    (hg : Blk X scope fun Y => Dgv Y (own.map (·.2)) tg wg) (ht : Blk X scope fun Y => Dts Y ifs wt) (he : Blk X scope fun Y => De Y elt we) (hs : ∀ x, foldedSetIterable iter X.env x = pure x := by intro _; rfl) :
    De X (.ListComp elt [⟨tg, iter, ifs, 0⟩] scope pos) (wLc wi (own.map (·.2)) wg wt we) := by
  obtain ⟨ti, pi, vi⟩ := hi.ex
  obtain ⟨g, pg, vg⟩ := blk_g hg
  obtain ⟨t, pt, vt⟩ := blk_t ht
  obtain ⟨te, pe, ve⟩ := blk_e he
  exact ⟨_, pe_lc hc hN pi ok pg pt pe hs, ev_lc vi vg vt ve⟩
/-- x = [..], on one line -/
theorem ds_setLc {i : Nat} {y : Str} {py spos : Pos} {scope : Scope} {own : List (Str × Nat)} {wi : DIC} {wg : DG} {wt : DT} {we : DE} (hc : X.calm = true) (hN : X.N.Nodup) (hy : X.N[i]? = some y) (hyl : X.env.scope.names.lookup y = some .local)
    (hsw : swapsWith (.ListComp elt [⟨tg, iter, ifs, 0⟩] scope pos) (some (.Name y py)) spos.line X.env = pure true) (hi : Dic X tg iter wi) (ok : BlkOk X.N X.env.scope scope own)
    (hg : Blk X scope fun Y => Dgv Y (own.map (·.2)) tg wg) (ht : Blk X scope fun Y => Dts Y ifs wt) (he : Blk X scope fun Y => De Y elt we) (hs : ∀ x, foldedSetIterable iter X.env x = pure x := by intro _; rfl) :
    Ds X (.Assign [.Name y py] (.ListComp elt [⟨tg, iter, ifs, 0⟩] scope pos) spos) (wSet i (wLc wi (own.map (·.2)) wg wt we)) := by
  obtain ⟨ti, pi, vi⟩ := hi.ex
  obtain ⟨g, pg, vg⟩ := blk_g hg
  obtain ⟨t, pt, vt⟩ := blk_t ht
  obtain ⟨te, pe, ve⟩ := blk_e he
  refine ⟨_, ps_setLc hc hN hy hyl hsw pi ok pg pt pe hs, ?_⟩
  intro J B0 H0 B H σ δ e R h En F
  refine ev_lc vi vg vt ve e _ h _ fun x v B1 H1 h1 g1 w1 r1 => ?_
  obtain ⟨s, hs, h1⟩ := h1
  exact F.nx h1 (e.put g1 w1 r1 hs i)
end
end Dl
/-! x in xs; list(range(..)); repr of bools; t[::-1]; xs.append(ys.pop()) -/
namespace Dl
open PySem PySem.Spec PyProof.Rows L2
section
variable {X : Cx} {e a b c tg iter elt : Expr} {es ifs : List Expr} {pos p : Pos} {st : Stmt} {rest body : List Stmt}

/-! ### in -/
def rInL : R2D := fun d e k => match e with
  | .lst es => okD d ∧ okD (.lst es) ∧ k (.c (.bl (es.any fun z => eqD z d)))
  | _ => False
def rNotInL : R2D := fun d e k => match e with
  | .lst es => okD d ∧ okD (.lst es) ∧ k (.c (.bl (!es.any fun z => eqD z d)))
  | _ => False
theorem pys_any {d : D} : ∀ es : List D, (pys es).any (fun z => PyData.eqv z (py d)) = es.any fun z => eqD z d
  | [] => rfl
  | e :: es => by rw [pys, List.any_cons, List.any_cons, pys_any es]; rfl
theorem dop_inL {K : PySem.W.Frag} : DOp K (rInD K) rInL := by
  intro J B H d e k x y Q h s w tx ty q
  unfold rInL at h
  cases e <;> try exact h.elim
  rename_i es
  obtain ⟨⟨p1, s1⟩, ⟨p2, s2⟩, h⟩ := h
  have t2 := dp_ofT s p2 ty
  rw [py] at t2 s2
  refine ⟨_, _, dp_ofT s p1 tx, t2, s1, s2, fin_c h s w ?_ q⟩
  rw [Rep, pys_any]
theorem dop_notInL {K : PySem.W.Frag} : DOp K (rNotInD K) rNotInL := by
  intro J B H d e k x y Q h s w tx ty q
  unfold rNotInL at h
  cases e <;> try exact h.elim
  rename_i es
  obtain ⟨⟨p1, s1⟩, ⟨p2, s2⟩, h⟩ := h
  have t2 := dp_ofT s p2 ty
  rw [py] at t2 s2
  refine ⟨_, _, dp_ofT s p1 tx, t2, s1, s2, fin_c h s w ?_ q⟩
  rw [Rep, pys_any]
/-- ints in a tuple of ints -/
def rInT : R2D := fun d e k => match d, e with
  | .int i, .tup es => ∃ ns : List Int, es = ns.map .int ∧ k (.c (.bl (decide (i ∈ ns))))
  | _, _ => False
def rNotInT : R2D := fun d e k => match d, e with
  | .int i, .tup es => ∃ ns : List Int, es = ns.map .int ∧ k (.c (.bl (!decide (i ∈ ns))))
  | _, _ => False
theorem inV_ints {i : Int} (ns : List Int) : inV (.int i) (ns.map V.int) = decide (i ∈ ns) := by
  unfold inV
  induction ns with
  | nil => rfl
  | cons n ns ih =>
    rw [List.map_cons, List.any_cons, ih]
    show (n == i || decide (i ∈ ns)) = _
    by_cases h : n = i
    · subst h; simp
    · have h1 : (n == i) = false := by simpa using h
      have h2 : ¬ i = n := fun z => h z.symm
      rw [h1, Bool.false_or]
      congr 1
      simp [h2]
theorem flat_ints (ns : List Int) : (ns.map V.int).all flatV = true := by
  rw [List.all_map, List.all_eq_true]
  intro n _
  rfl
theorem dop_inT {K : PySem.W.Frag} : DOp K (rIn K false) rInT := by
  intro J B H d e k x y Q h s w tx ty q
  unfold rInT at h
  cases d <;> try exact h.elim
  cases e <;> try exact h.elim
  obtain ⟨ns, rfl, h⟩ := h
  cases tx.int
  obtain ⟨a, xs, rfl, aB, aH, ra⟩ := ty.tup s
  have : xs = ns.map V.int := reps_ints_eq ra
  subst this
  exact ⟨a, _, rfl, .inr aH, rfl, flat_ints ns, by rw [inV_ints]; exact fin_c h s w (by rw [Rep]; rfl) q⟩
theorem dop_notInT {K : PySem.W.Frag} : DOp K (rIn K true) rNotInT := by
  intro J B H d e k x y Q h s w tx ty q
  unfold rNotInT at h
  cases d <;> try exact h.elim
  cases e <;> try exact h.elim
  obtain ⟨ns, rfl, h⟩ := h
  cases tx.int
  obtain ⟨a, xs, rfl, aB, aH, ra⟩ := ty.tup s
  have : xs = ns.map V.int := reps_ints_eq ra
  subst this
  exact ⟨a, _, rfl, .inr aH, rfl, flat_ints ns, by rw [inV_ints]; exact fin_c h s w (by rw [Rep]; rfl) q⟩
def rInA : R2D := fun d e k => match e with
  | .lst es => okD d ∧ okD (.lst es) ∧ k (.c (.bl (es.any fun z => eqD z d)))
  | .tup es => ∃ i, ∃ ns : List Int, d = .int i ∧ es = ns.map .int ∧ k (.c (.bl (decide (i ∈ ns))))
  | _ => False
def rNotInA : R2D := fun d e k => match e with
  | .lst es => okD d ∧ okD (.lst es) ∧ k (.c (.bl (!es.any fun z => eqD z d)))
  | .tup es => ∃ i, ∃ ns : List Int, d = .int i ∧ es = ns.map .int ∧ k (.c (.bl (!decide (i ∈ ns))))
  | _ => False
theorem dop_inA {K : PySem.W.Frag} : DOp K (fun x y H Q => rInD K x y H Q ∨ rIn K false x y H Q) rInA := by
  refine (dop_inL.or dop_inT).imp fun d e k h => ?_
  unfold rInA at h
  split at h
  · exact .inl h
  · obtain ⟨i, ns, rfl, h⟩ := h
    exact .inr ⟨ns, h⟩
  · exact h.elim
theorem dop_notInA {K : PySem.W.Frag} : DOp K (fun x y H Q => rNotInD K x y H Q ∨ rIn K true x y H Q) rNotInA := by
  refine (dop_notInL.or dop_notInT).imp fun d e k h => ?_
  unfold rNotInA at h
  split at h
  · exact .inl h
  · obtain ⟨i, ns, rfl, h⟩ := h
    exact .inr ⟨ns, h⟩
  · exact h.elim
theorem hu65 {k : Nat} {A : Around} (r : Room k A) : A.units + 65 < cLine := by have := r.un; omega
theorem de_in {wa wb : DE} (hu : X.A.units + 65 < cLine) (ha : De X a wa) (hb : De X b wb) (hm : behindInMarks .In b = false := by with_unfolding_all rfl) : De X (.Compare a [.In] [b] pos) (wOp rInA wa wb) := de_cmp (OpR.or (op_inD hu) op_in_seq) dop_inA ha hb hm
theorem de_notIn {wa wb : DE} (hu : X.A.units + 65 < cLine) (ha : De X a wa) (hb : De X b wb) (hm : behindInMarks .NotIn b = false := by with_unfolding_all rfl) : De X (.Compare a [.NotIn] [b] pos) (wOp rNotInA wa wb) := de_cmp (OpR.or (op_notInD hu) op_notIn_seq) dop_notInA ha hb hm
theorem dt_in {wa wb : DE} (hu : X.A.units + 65 < cLine) (ha : De X a wa) (hb : De X b wb) (hm : behindInMarks .In b = false := by with_unfolding_all rfl) : Dt X (.Compare a [.In] [b] pos) (wB (wOp rInA wa wb)) := dt_cmp (OpR.or (op_inD hu) op_in_seq) dop_inA ha hb hm
theorem dt_notIn {wa wb : DE} (hu : X.A.units + 65 < cLine) (ha : De X a wa) (hb : De X b wb) (hm : behindInMarks .NotIn b = false := by with_unfolding_all rfl) : Dt X (.Compare a [.NotIn] [b] pos) (wB (wOp rNotInA wa wb)) := dt_cmp (OpR.or (op_notInD hu) op_notIn_seq) dop_notInA ha hb hm

/-! ### list(range(..)) -/
theorem reps_rg {K : PySem.W.Frag} {B : Hp} {i j : Int} : Reps K B (rangeD i (j - i).toNat) (rgV i j) := by
  unfold rangeD rgV
  generalize List.range (j - i).toNat = l
  induction l with
  | nil => exact .nil
  | cons m l ih => exact .cons (by rw [Rep]) ih
def wLstR2 (wa wb : DE) : DE := fun δ k => wa δ fun x => wb δ fun y => ∃ i j, x = .c (.int i) ∧ y = .c (.int j) ∧ small62 i ∧ small62 j ∧ k (.f (rangeD i (j - i).toNat))
theorem rgOk_of {i j : Int} (hi : small62 i) (hj : small62 j) : RgOk i j := by
  obtain ⟨h1, h2⟩ := hi
  obtain ⟨h3, h4⟩ := hj
  exact ⟨by omega, by omega, by omega, by omega, by omega⟩
theorem de_lstR2 {wa wb : DE} {p q pos pos2 : Pos} (hc : X.calm = true) (hg : Gl X "list") (hm : X.mg "list" = none) (hg2 : Gl X "range") (hm2 : X.mg "range" = none) (ha : De X a wa) (hb : De X b wb)
    (na : starEach [a, b] X.env = (false, eval a X.env) :: starEach [b] X.env := by rfl) (nb : starEach [b] X.env = (false, eval b X.env) :: starEach [] X.env := by rfl) (hp : (backTo pos (starEach [b] X.env)).any (·.1) = false := by rfl)
    (nc : starEach [.Call (.Name "range" p) [a, b] [] pos] X.env = (false, eval (.Call (.Name "range" p) [a, b] [] pos) X.env) :: starEach [] X.env := by rfl) :
    De X (.Call (.Name "list" q) [.Call (.Name "range" p) [a, b] [] pos] [] pos2) (wLstR2 wa wb) := by
  obtain ⟨ta, pa, va⟩ := ha.ex
  obtain ⟨tb, pb, vb⟩ := hb.ex
  refine ⟨_, pe_listRg hc hg hm (prg_2 hg2 hm2 pa pb na nb hp) nc, ?_⟩
  intro J B0 H0 B H σ δ e k h Q q
  refine va e _ h _ fun x v B1 H1 h1 g1 w1 r1 => ?_
  have e1 := e.step g1 w1
  refine vb e1 _ h1 _ fun y u B2 H2 h2 g2 w2 r2 => ?_
  obtain ⟨i, j, rfl, rfl, hi, hj, h2⟩ := h2
  cases rv_int r1
  cases rv_int r2
  have G := g1.trans g2
  exact ⟨i, j, rfl, rfl, rgOk_of hi hj, fun p hp => fin_lst hp h2 (e1.step g2 w2).bh w2 reps_rg fun z v B' H' kz g w r => q z v B' H' kz (G.trans g) w ((r σ δ).back G.ne)⟩
def wLstR1 (wa : DE) : DE := fun δ k => wa δ fun x => ∃ j, x = .c (.int j) ∧ small62 j ∧ k (.f (rangeD 0 j.toNat))
theorem de_lstR1 {wa : DE} {p q pos pos' : Pos} (hc : X.calm = true) (hg : Gl X "list") (hm : X.mg "list" = none) (hg2 : Gl X "range") (hm2 : X.mg "range" = none) (ha : De X a wa)
    (na : starEach [a] X.env = (false, eval a X.env) :: starEach [] X.env := by rfl) (nc : starEach [.Call (.Name "range" p) [a] [] pos] X.env = (false, eval (.Call (.Name "range" p) [a] [] pos) X.env) :: starEach [] X.env := by rfl) :
    De X (.Call (.Name "list" q) [.Call (.Name "range" p) [a] [] pos] [] pos') (wLstR1 wa) := by
  obtain ⟨ta, pa, va⟩ := ha.ex
  refine ⟨_, pe_listRg hc hg hm (prg_1 hg2 hm2 pa na) nc, ?_⟩
  intro J B0 H0 B H σ δ e k h Q q
  refine va e _ h _ fun x v B1 H1 h1 g1 w1 r1 => ?_
  obtain ⟨j, rfl, hj, h1⟩ := h1
  cases rv_int r1
  have rr : Reps X.K B1 (rangeD 0 j.toNat) (rgV 0 j) := by
    have := reps_rg (K := X.K) (B := B1) (i := 0) (j := j)
    rw [Int.sub_zero] at this
    exact this
  exact ⟨j, rfl, rgOk_of ⟨by omega, by omega⟩ hj, fun p hp => fin_lst hp h1 (e.step g1 w1).bh w1 rr fun z v B' H' kz g w r => q z v B' H' kz (g1.trans g) w ((r σ δ).back g1.ne)⟩

/-! ### repr of bools -/
theorem call_repr_bl : CallR X (.builtin "repr") (fun xs H Q => ∃ b, xs = [.bl b] ∧ Q (.str (if b then "True" else "False")) H) := by
  intro pins s σ H xs us Q I r h
  obtain ⟨b, rfl, q⟩ := h
  obtain ⟨u, rfl, rx⟩ := vals1 r
  cases rx
  exact PySem.P.repr_of_bool ⟨.str _, H, I.tok _, ⟨_, rfl⟩, q⟩
def cRepr : RcD := fun ds k => match ds with
  | [.bl b] => k (.c (.str (if b then "True" else "False")))
  | _ => False
theorem dc_repr {K : PySem.W.Frag} : DCall K (fun xs H Q => ∃ b, xs = [.bl b] ∧ Q (.str (if b then "True" else "False")) H) cRepr := by
  intro J B H ds k vs Q h s w t q
  unfold cRepr at h
  split at h
  · obtain ⟨v, rfl, t1⟩ := ts1 t
    cases t1.bl
    exact ⟨_, rfl, fin_c h s w (by rw [Rep]) q⟩
  · exact h.elim
end

/-! ### t[::-1] -/
section
open HT
variable {prog : Program} {w : World} {A : Around} {E : Value → Shared → Prop} {s : Shared}
theorem sliceApplied_rev {sl : Addr} {vs : Value} {n : Nat} {Q : Int × Int × Nat → Shared → Prop} (hs : s.heap.IsSliceOf sl .none .none vs) (ps : IsPart vs (some (-1)))
    (h : Q ((n : Int) - 1, -1, n) s) : wpAny (model prog w) A (Builtin.Slice.sliceApplied (.ref sl) (pure (n : Int))) Q E s := by
  obtain ⟨os, hos, hcs, hds⟩ := id hs
  unfold Builtin.Slice.sliceApplied Builtin.Slice.sliceFields
  refine wpAny_bind (wpAny_bind (wpAny_field hos hds (x := .none) rfl (wpAny_bind (wpAny_field hos hds (x := .none) rfl (wpAny_bind (wpAny_field hos hds (x := vs) rfl (wpAny_pure ?_)))))))
  refine wpAny_bind (slicePart_ ps ?_)
  show wpAny _ _ (if ((-1 : Int) == 0) = true then _ else _) _ _ s
  rw [if_neg (by decide)]
  refine wpAny_bind (slicePart_none (wpAny_bind (slicePart_none (wpAny_bind (wpAny_pure ?_)))))
  have e1 : Builtin.Slice.sliceAdjust none none (-1) (n : Int) = ((n : Int) - 1, -1) := rfl
  have e2 : Builtin.Slice.slicePlaces ((n : Int) - 1) (-1) (-1) = n := by
    unfold Builtin.Slice.slicePlaces
    rw [if_neg (by decide)]
    by_cases hn : ((n : Int) - 1) > -1
    · rw [if_pos hn]
      have : ((n : Int) - 1 - -1 - 1) / (- -1) = (n : Int) - 1 := by
        have e : ((n : Int) - 1 - -1 - 1) = (n : Int) - 1 := by omega
        rw [e]
        show ((n : Int) - 1) / 1 = _
        rw [Int.ediv_one]
      rw [this]; omega
    · rw [if_neg hn]; omega
  show wpAny _ _ (match Builtin.Slice.sliceAdjust none none (-1) (n : Int) with | (lo, hi) => pure (lo, (-1 : Int), Builtin.Slice.slicePlaces lo hi (-1))) _ _ s
  rw [e1]
  show wpAny _ _ (pure ((n : Int) - 1, (-1 : Int), Builtin.Slice.slicePlaces ((n : Int) - 1) (-1) (-1))) _ _ s
  rw [e2]
  exact wpAny_pure h
theorem pick_rev (xs : Array Value) : ((List.range xs.size).filterMap fun (k : Nat) => xs[(((xs.size : Nat) : Int) - 1 + (k : Int) * -1).toNat]?).toArray = xs.toList.reverse.toArray := by
  have e : (fun (k : Nat) => xs[(((xs.size : Nat) : Int) - 1 + (k : Int) * -1).toNat]?) = (fun i => xs[i]?) ∘ fun k => xs.size - 1 - k := by
    funext k
    show _ = xs[xs.size - 1 - k]?
    have : (((xs.size : Nat) : Int) - 1 + (k : Int) * -1).toNat = xs.size - 1 - k := by omega
    rw [this]
  rw [e, ← List.filterMap_map, PySem.W.krv_range, List.filterMap_reverse, PySem.W.krv_all]
theorem getItem_tuple_rev {t sl : Addr} {items : Array Value} {vs : Value} {Q : Value → Shared → Prop} (ht : IsTup s.heap t items) (hs : s.heap.IsSliceOf sl .none .none vs) (ps : IsPart vs (some (-1)))
    (h : Q (.ref s.heap.objs.size) { s with heap := s.heap.push { cls := .type "tuple", data := .seq items.toList.reverse.toArray } })
    (hsz : items.size ≤ sizeLine) : wpAny (model prog w) A (getItem (.ref t) (.ref sl)) Q E s := by
  have hrev : sizeOk (.seq items.toList.reverse.toArray) := by
    show items.toList.reverse.toArray.size ≤ sizeLine
    rw [List.size_toArray, List.length_reverse, Array.length_toList]
    exact hsz
  obtain ⟨os, hos, hcs, hds⟩ := id hs
  have hTs : s.TypeIs (.ref sl) "slice" := ⟨os, hos, hcs⟩
  unfold getItem
  try with_reducible refine wpAny_holding ?_
  first | refine wpAny_bind (wpAny_pure ?_) | skip
  refine wpAny_bind (wpAny_sequenceKey ht.typeIs (by decide) ?_)
  refine wpAny_bind (wpAny_callSpecial?_slot (name := Str.ofString "__getitem__") ht.typeIs PyProof.Rows.slot_tuple_getitem
    (wpAny_call_entry PyProof.Rows.slot_tuple_getitem ht.typeIs entry_tuple_getitem ?_ (args_tuple_getitem _ _)))
  show wpAny _ _ (Builtin.Tuple.tupleItemsOf (.ref t) >>= _) _ _ s
  refine wpAny_bind (tupleItemsOf_ ht ?_)
  refine wpAny_bind (wpAny_typeOf hTs ?_)
  rw [if_pos (by decide)]
  refine wpAny_bind (sliceApplied_rev hs ps ?_)
  show wpAny _ _ (if ((((items.size : Nat) : Int) - 1 == 0) && ((-1 : Int) == 1) && (items.size == items.size)) = true then _ else _) _ _ s
  rw [if_neg (by
    intro q
    rw [Bool.and_eq_true, Bool.and_eq_true] at q
    exact absurd q.1.2 (by decide)), pick_rev]
  first
    | exact wpAny_bind (m := Builtin.Tuple.tupleExact _) (wpAny_newObj_type (wpAny_pure ⟨_, rfl, wpAny_pure h⟩) hrev)
    | exact wpAny_bind (m := Builtin.Tuple.tupleExact _) (wpAny_newObj_type (wpAny_bind (wpAny_pure (wpAny_pure ⟨_, rfl, wpAny_pure h⟩))) hrev)
    | exact wpAny_bind (wpAny_bind (m := Builtin.Tuple.tupleExact _) (wpAny_newObj_type (wpAny_pure (wpAny_pure ⟨_, rfl, wpAny_pure h⟩)) hrev))
    | exact wpAny_bind (wpAny_bind (m := Builtin.Tuple.tupleExact _) (wpAny_newObj_type (wpAny_pure ⟨_, rfl, wpAny_pure h⟩) hrev))
end
section
variable {X : Cx} {e a b c tg iter elt : Expr} {es ifs : List Expr} {pos p : Pos} {st : Stmt} {rest body : List Stmt}
def tRevT (K : PySem.W.Frag) (te : TE) : TE := fun σ H Q => te σ H fun x H1 => ∃ a xs, x = .ref a ∧ SqT K H1 a xs ∧ ∀ p, H1 p = none → Q (.ref p) (upd H1 p (.tup xs.reverse))
theorem pe_revT {te : TE} {k : Nat} {p1 p2 p3 : Pos} (he : PE X e te) : PE X (.Subscript e (.Slice none none (some (.UnaryOp .USub (.Constant (.int 1) k p1) p2)) p3) pos) (tRevT X.K te) := by
  refine ⟨fun pins s σ H Q I h => ?_⟩
  refine Subscript_ (thn (he.run pins s σ H _ I h) fun v s1 ⟨x, H1, I1, r1, q1⟩ => ?_)
  obtain ⟨a, xs, ex, hx, q⟩ := q1
  subst ex
  cases r1
  have hst : PO X (some (.UnaryOp .USub (.Constant (.int 1) k p1) p2)) (tPart (tUn (rU fun i => .int (-i)) (tC (.int 1)))) := po_some (pe_un un_neg pe_int)
  refine wpAny_Slice (thn (po_none.run pins s1 σ H1 (fun o H2 => o = none ∧ H2 = H1) I1 ⟨rfl, rfl⟩) fun vl s2 ⟨l, H2, I2, pl, el, e2⟩ => ?_)
  subst el e2
  refine thn (po_none.run pins s2 σ H2 (fun o H3 => o = none ∧ H3 = H2) I2 ⟨rfl, rfl⟩) fun vu s3 ⟨u, H3, I3, pu, eu, e3⟩ => ?_
  subst eu e3
  refine thn (hst.run pins s3 σ H3 (fun o H4 => o = some (-1) ∧ H4 = H3) I3 ⟨1, rfl, -1, rfl, rfl, rfl⟩) fun vs s4 ⟨o, H4, I4, ps, eo, e4⟩ => ?_
  subst eo e4
  cases pl
  cases pu
  have I5 : Inv X pins σ H4 { s4 with heap := s4.heap.push { cls := .type "slice", data := .fields #[.none, .none, vs] } } := I4.kept (t' := s4.toks) fun b ob q => Heap.get?_push_of_some _ q
  obtain ⟨its, r, ht, hz⟩ := I5.tuple hx
  have hlen := r.length
  show wpAny (model X.prog X.w) X.A (subscriptTail e (.Slice none none (some (.UnaryOp .USub (.Constant (.int 1) k p1) p2)) p3) (.ref a) (.ref s4.heap.objs.size)) (EP X pins σ Q) X.xe { s4 with heap := s4.heap.push { cls := .type "slice", data := .fields #[.none, .none, vs] } }
  refine tail_any (ops := [.ref a, .ref s4.heap.objs.size]) ht.typeIs (PyProof.Rows.slot_tuple_getitem.lookup) ?_ (by with_unfolding_all rfl)
  refine getItem_tuple_rev ht (Heap.IsSliceOf.new _ .none .none vs) ps ?_ (by rw [List.size_toArray]; omega)
  refine ⟨.ref _, _, I5.laid (t' := s4.toks) (o := .tup xs.reverse) (fun b ob q => Heap.get?_push_of_some _ q) (Nat.le_refl _) ?_, rfl, q _ (I5.hok.fresh (Nat.le_refl _))⟩
  exact ⟨by rw [List.length_reverse]; exact hz, _, r.reverse, _, Heap.get?_push_size _ rfl, rfl, _, rfl⟩
def wRevT (wa : DE) : DE := fun δ k => wa δ fun x => ∃ ds, x = .c (.tup ds) ∧ k (.c (.tup ds.reverse))
theorem de_revT {wa : DE} {k : Nat} {p1 p2 p3 : Pos} (ha : De X a wa) : De X (.Subscript a (.Slice none none (some (.UnaryOp .USub (.Constant (.int 1) k p1) p2)) p3) pos) (wRevT wa) := by
  obtain ⟨ta, pa, va⟩ := ha.ex
  refine ⟨_, pe_revT pa, ?_⟩
  intro J B0 H0 B H σ δ e k h Q q
  refine va e _ h _ fun x v B1 H1 h1 g1 w1 r1 => ?_
  obtain ⟨ds, rfl, h1⟩ := h1
  have r1 : Rep X.K B1 (.tup ds) v := r1
  have e1 := e.step g1 w1
  rw [Rep] at r1
  obtain ⟨a, xs, rfl, aB, ra⟩ := r1
  exact ⟨a, xs, rfl, same_sqT e1.bh aB, fun p hp => fin_tup hp h1 e1.bh w1 ra.reverse fun z v B' H' kz g w r => q z v B' H' kz (g1.trans g) w ((r σ δ).back g1.ne)⟩

/-! ### x.append(y.pop()) -/
def wAppPop (i j : Nat) : DS := fun R δ => i ≠ j ∧ ∃ ds es d, δ[i]? = some (.own ds) ∧ δ[j]? = some (.own es) ∧ ds.length < 100000 ∧ es[es.length - 1]? = some d ∧ R.nx ((δ.set j (.own es.dropLast)).set i (.own (ds ++ [d])))
theorem ds_appPop {i j : Nat} {x y : Str} {px py apos cpos apos2 cpos2 : Pos} (hN : X.N[i]? = some x) (hv : Vis X.env.scope x) (hN2 : X.N[j]? = some y) (hv2 : Vis X.env.scope y)
    (hd : (x == ("__debug__" : Str)) = false := by decide) (hcd : (x == ("__classdict__" : Str)) = false := by decide) (hd2 : (y == ("__debug__" : Str)) = false := by decide) (hcd2 : (y == ("__classdict__" : Str)) = false := by decide)
    (hbase : attributeBase (.Name x px) "append" X.env (eval (.Name x px) X.env) = eval (.Name x px) X.env := by rfl)
    (hbase2 : attributeBase (.Name y py) "pop" X.env (eval (.Name y py) X.env) = eval (.Name y py) X.env := by rfl)
    (hfew : ((backTo cpos (starEach [.Call (.Attribute (.Name y py) "pop" apos2) [] [] cpos2] X.env)).all (fun x => !x.1) && (backToKw cpos (keywordEach [] X.env)).all (fun x => x.1.isSome)
      && decide (([.Call (.Attribute (.Name y py) "pop" apos2) [] [] cpos2] : List Expr).length + ([] : List Keyword).length + (if ([] : List Keyword).isEmpty then 0 else 1) < 30)) = true := by rfl)
    (hline : (apos.endLine == cpos.line) = true := by rfl) (hline2 : (apos2.endLine == cpos2.line) = true := by rfl) (hs : starEach [.Call (.Attribute (.Name y py) "pop" apos2) [] [] cpos2] X.env = (false, eval (.Call (.Attribute (.Name y py) "pop" apos2) [] [] cpos2) X.env) :: starEach [] X.env := by rfl) (hplain : (backTo cpos (starEach [] X.env)).any (·.1) = false := by rfl)
    (hsw : swapsWith (.Call (.Attribute (.Name x px) "append" apos) [.Call (.Attribute (.Name y py) "pop" apos2) [] [] cpos2] [] cpos) none pos.line X.env = pure false := by rfl) :
    Ds X (.Expr (.Call (.Attribute (.Name x px) "append" apos) [.Call (.Attribute (.Name y py) "pop" apos2) [] [] cpos2] [] cpos) pos) (wAppPop i j) := by
  refine ⟨_, ps_expr (pe_bm PySem.F.plainAttrs_list PySem.F.slot_list_append PySem.F.type_list_append mt_append (pv i hN hv hd hcd) (pa_cons (pe_bm0 PySem.F.plainAttrs_list PySem.F.slot_list_pop PySem.F.type_list_pop mt_pop (pv j hN2 hv2 hd2 hcd2) hbase2 hline2) pa_nil hs) hbase hfew hline hs hplain) hsw, ?_⟩
  intro J B0 H0 B H σ δ e R h En F
  obtain ⟨nij, ds, es, d, hi, hj, hl, hlast, h⟩ := h
  obtain ⟨a, xs, h1, h2, h3, h4, h5, h6⟩ := e.ownJ hi
  obtain ⟨b, ys, k1, k2, k3, k4, k5, k6⟩ := e.ownJ hj
  have nab : a ≠ b := fun z => e.ap i j ds es a nij hi hj h1 (by rw [z]; exact k1)
  obtain ⟨v, hv, rv⟩ := k5.get hlast
  refine ⟨_, h1, .inl ⟨rfl, _, SqL.of h4⟩, _, k1, .inl ⟨rfl, _, SqL.of k4⟩, b, ys, v, rfl, rfl, k4, by rw [k5.len]; exact hv, ?_⟩
  have e2 := e.change hj k1 k4 k5.dropLast
  have hH1 : upd H b (.lst ys.dropLast) a = some (.lst xs) := by rw [upd_ne nab]; exact h4
  refine ⟨a, xs, v, rfl, rfl, hH1, Nat.lt_of_lt_of_le (by rw [h5.len]; exact hl) (by decide : 100000 ≤ sizeLine), F.nx (B := B) h ?_⟩
  exact e2.change (by rw [List.getElem?_set_ne (Ne.symm nij)]; exact hi) h1 hH1 (h5.append (.cons rv .nil))
end
end Dl
/-! calls without arguments; x, y, z = a, b, c -/
namespace Dl
open PySem PySem.Spec PyProof.Rows L2
section
variable {X : Cx} {e a b c tg iter elt : Expr} {es ifs : List Expr} {pos p : Pos} {st : Stmt} {rest body : List Stmt}
theorem da_none : EvA X.K tNil waNil := by
  intro J B0 H0 B H σ δ e k h Q q
  exact q [] [] B H h (.refl e.bh) e.ow rfl
theorem de_call0 {CX : CXT} {k : Nat} {f : Addr} {fd : FuncData} {ps : List Str} {pre : List S → Prop} {post : List S → DV → Prop} {x : Str} {p : Pos} {E : XK}
    (F : FnOk X.prog X.w X.K X.mg X.base CX k f fd ps (SpD X.K 0 pre post)) (hr : Room k X.A) (hg : Gl X x) (hm : X.mg x = some (.ref f)) (hk : PySem.W.keepIn X.K (.ref f) = true) (hb : Binds X.K fd ps []) (hx : Passes CX X E)
    (hdb : (x == ("__debug__" : Str)) = false := by decide) : De X (.Call (.Name x p) [] [] pos) (wCall 0 pre post waNil) := by
  refine ⟨_, pe_call0 F hr hg hm hk hb .nil hx hdb, ?_⟩
  intro J B0 H0 B H σ δ e k h Q q
  refine da_none e _ h _ fun xs vs B1 H1 h1 g1 w1 r1 => ?_
  obtain ⟨ss, hs, hn, hp, h1⟩ := h1
  obtain ⟨B2, g2, w2, _, r2, _⟩ := r1.args e.nod g1 w1 hs
  show SpD _ _ _ _ (vs ++ []) H1 Q _
  rw [List.append_nil]
  exact ⟨J, B2, ss, hn, r2, ⟨g2.bh, e.jl.2⟩, w2, hp, fun r v B' H' po g w rr => q r v B' H' (h1 r po).2 (g2.trans g) w ((rv_any rr (h1 r po).1 σ δ).back g2.ne)⟩
end
section
variable {K : PySem.W.Frag} {J : JT} {B0 H0 B H B1 H1 : Hp} {σ σ' : L2.St} {δ δ' : List S}
/-- own lists are older than H, or told by N -/
def OldOr (H : Hp) (σ : L2.St) (δ : List S) (N : Addr → Prop) : Prop := ∀ (k : Nat) es a, δ[k]? = some (.own es) → σ[k]? = some (some (.ref a)) → H a ≠ none ∨ N a
theorem Env.oldOr (e : Env K J B0 H0 B H σ δ) : OldOr H σ δ fun _ => False := fun k es a hk hs => by
  obtain ⟨a', xs, h1, _, _, h4, _⟩ := e.ownJ hk
  rw [hs] at h1; cases h1
  exact .inl (by rw [h4]; simp)
theorem Env.putN {N : Addr → Prop} {y : DV} {u : V} {t : S} {Hs : Hp} (e1 : Env K J B0 H0 B1 H1 σ δ) (hN : OldOr Hs σ δ N) (q : RepV K J Hs B1 H1 σ' δ' y u) (hy : sv y = some t) (hf : ∀ ds a, y = .f ds → u = .ref a → ¬ N a) (h0 : ∀ b, H0 b ≠ none → Hs b ≠ none) (j : Nat) :
    Env K J B0 H0 B1 H1 (σ.set j (some u)) (δ.set j t) ∧ OldOr Hs (σ.set j (some u)) (δ.set j t) (fun a => N a ∨ ∃ ds, y = .f ds ∧ u = .ref a) := by
  refine ⟨Env.put2 e1 (x := y) q hy j (fun ds hds a hva k es hk hsk => ?_) h0, fun k es a hk hs => ?_⟩
  · subst hds
    obtain ⟨a', _, ea, nS, _⟩ := q
    rw [hva] at ea; cases ea
    rcases hN k es a hk hsk with h | h
    · exact h nS
    · exact hf ds a rfl hva h
  · rw [List.getElem?_set] at hk hs
    by_cases hjk : j = k
    · subst hjk
      have hlt : j < δ.length := by
        by_cases z : j < δ.length
        · exact z
        · simp [z] at hk
      have hlt2 : j < σ.length := by rw [← e1.ln]; exact hlt
      simp [hlt] at hk
      simp [hlt2] at hs
      subst hk
      cases y with
      | c d => cases hy
      | f ds => exact .inr (.inr ⟨ds, rfl, hs⟩)
      | o i => cases hy
      | j => cases hy
    · rw [if_neg hjk] at hk hs
      rcases hN k es a hk hs with h | h
      · exact .inl h
      · exact .inr (.inl h)
end
section
variable {X : Cx} {a b c : Expr} {pos : Pos}
def wPar3 (i j l : Nat) (wa : DA) : DS := fun R δ => wa δ fun xs => ∃ x y z s t r, xs = [x, y, z] ∧ sv x = some s ∧ sv y = some t ∧ sv z = some r ∧ R.nx (((δ.set i s).set j t).set l r)
theorem ds_par3 {i j l : Nat} {x y z : Str} {px py pz pt : Pos} {kt k2 pt2} {wa : DA} (hc : X.calm = true) (hN : X.N.Nodup) (hi : X.N[i]? = some x) (hj : X.N[j]? = some y) (hl : X.N[l]? = some z) (hij : i ≠ j) (hil : i ≠ l) (hjl : j ≠ l)
    (hx : X.env.scope.names.lookup x = some .local) (hy : X.env.scope.names.lookup y = some .local) (hz : X.env.scope.names.lookup z = some .local) (ha : Da X [a, b, c] wa)
    (hw : swappedStores [.Tuple [.Name x px, .Name y py, .Name z pz] kt pt] (.Tuple [a, b, c] k2 pt2) X.env = pure (some [x, y, z]) := by rfl)
    (hs : swapsWithSole [.Tuple [.Name x px, .Name y py, .Name z pz] kt pt] (.Tuple [a, b, c] k2 pt2) pos.line X.env = pure false := by rfl) :
    Ds X (.Assign [.Tuple [.Name x px, .Name y py, .Name z pz] kt pt] (.Tuple [a, b, c] k2 pt2) pos) (wPar3 i j l wa) := by
  obtain ⟨ta, pa, va⟩ := ha.ex
  refine ⟨_, ps_par3 hc hN hi hj hl hij hil hjl hx hy hz pa hw hs, ?_⟩
  intro J B0 H0 B H σ δ e R h En F
  refine va e _ h _ fun xs vs B1 H1 h1 g1 w1 r1 => ?_
  obtain ⟨x, y, z, s, t, r, rfl, hx, hy, hz, h1⟩ := h1
  obtain ⟨v, _, rfl, q1, ⟨u, _, rfl, q2, ⟨o, _, rfl, q3, q4, _⟩, ap2⟩, ap⟩ := r1
  cases (show _ = [] from q4)
  refine ⟨v, u, o, rfl, F.nx (B := B1) h1 ?_⟩
  have old : OldOr H σ δ fun _ => False := e.oldOr
  obtain ⟨e1, n1⟩ := (e.step g1 w1).putN old q1 hx (fun _ _ _ _ h => h) e.gr.ne i
  obtain ⟨e2, n2⟩ := e1.putN n1 q2 hy (fun ds a hd hv h => by
    rcases h with h | ⟨ds', hx', hv'⟩
    · exact h
    · exact ap ds' hx' 0 ds (by simp [hd]) (by rw [hv, hv']; rfl)) e.gr.ne j
  exact (e2.putN n2 q3 hz (fun ds a hd hv h => by
    rcases h with (h | ⟨ds', hx', hv'⟩) | ⟨ds', hy', hv'⟩
    · exact h
    · exact ap ds' hx' 1 ds (by simp [hd]) (by rw [hv, hv']; rfl)
    · exact ap2 ds' hy' 0 ds (by simp [hd]) (by rw [hv, hv']; rfl)) e.gr.ne l).1
end
end Dl
/-! enumerate(zip(a, b)) -/
namespace Dl
open PySem PySem.Spec PyProof.Rows L2

/-- the two first fields of a zip within an enumerate -/
def Ff (f0 f1 : Value) : Prop := (f0 = .none ∨ ∃ T : Nat, f0 = rawInt T) ∧ ∃ b, f1 = .bool b
abbrev IsZipF (h : Heap) (z TI TO : Addr) (f0 f1 : Value) : Prop := h.get? z = some { cls := .type "zip", dict := none, data := .fields #[f0, f1, .bool false, .ref TI, .ref TO], slots := #[] }
section
variable {prog : Program} {w : World} {A : Around} {E : Value → Shared → Prop} {s : Shared} {z TI TO i1 i2 : Addr} {fp1 fp2 : List Addr} {n1 n2 i : Nat} {P1 P2 : Nat → Value → Prop} {St1 St2 : Nat → Heap → Prop} {a1 a2 f0 f1 : Value}
theorem alive_any {a : Addr} {Q : Option Obj → Shared → Prop} (h : Q (s.heap.get? a) s) : wpAny (model prog w) A (loadIfAlive a) Q E s := by
  intro Γ p hΓ
  unfold loadIfAlive
  rw [Sem.wp_loadIfAlive]
  exact wpAny_pure h Γ p hΓ
theorem free_or {Q : Bool → Shared → Prop} (hz : IsZipF s.heap z TI TO f0 f1) (hf : Ff f0 f1) (hT : Q true s)
    (hF : ∀ h' f0' f1', IsZipF h' z TI TO f0' f1' → Ff f0' f1' → Heap.SameBut z s.heap h' → Q false { s with heap := h' }) : wpAny (model prog w) A (Builtin.SmallTypes.ownedTupleIsFree (.ref z)) Q E s := by
  obtain ⟨hf0, b, rfl⟩ := hf
  unfold Builtin.SmallTypes.ownedTupleIsFree
  refine wpAny_bind (wpAny_field hz rfl (x := f0) rfl ?_)
  rcases hf0 with rfl | ⟨T, rfl⟩
  · exact wpAny_pure hT
  · show wpAny _ _ (loadIfAlive ((T : Int).toNat) >>= _) _ _ _
    rw [Int.toNat_natCast]
    refine wpAny_bind (alive_any ?_)
    cases hT' : s.heap.get? T with
    | none => exact wpAny_pure hT
    | some oT =>
      simp only [Option.isNone_some, Bool.false_eq_true, if_false]
      refine wpAny_bind (wpAny_field hz rfl (x := .bool b) rfl ?_)
      cases b with
      | true =>
        rw [if_neg (show ¬ ((Value.bool true != Value.bool true) = true) from Bool.false_ne_true)]
        exact wpAny_pure (hF s.heap _ _ hz ⟨.inr ⟨T, rfl⟩, true, rfl⟩ (Heap.SameBut.refl _ _))
      | false =>
        rw [if_pos (show (Value.bool false != Value.bool true) = true from rfl)]
        exact wpAny_bind (wpAny_setField_rec hz (by simp) fun h₁ hz₁ hs₁ => wpAny_pure (hF h₁ _ _ hz₁ ⟨.inr ⟨T, rfl⟩, true, rfl⟩ hs₁))

theorem zipF_item {Q : Value → Shared → Prop} (S : ZipSep2 z TI TO i1 i2 fp1 fp2) (D1 : Draws prog w A i1 fp1 n1 P1 St1) (D2 : Draws prog w A i2 fp2 n2 P2 St2)
    (hz : IsZipF s.heap z TI TO f0 f1) (hf : Ff f0 f1) (hTI : IsTupOf2 s.heap TI (.ref i1) (.ref i2)) (hTO : IsTupOf2 s.heap TO a1 a2) (st1 : St1 i s.heap) (st2 : St2 i s.heap) (hlt1 : i < n1) (hlt2 : i < n2)
    (hQ : ∀ x1 x2 h' tk, P1 i x1 → P2 i x2 → (∃ f0 f1, IsZipF h' z TI TO f0 f1 ∧ Ff f0 f1) → (∃ b1 b2, IsTupOf2 h' TO b1 b2) → St1 (i + 1) h' → St2 (i + 1) h' → IsTupOf2 h' s.heap.objs.size x1 x2 → h'.objs.size = s.heap.objs.size + 1 →
      (∀ c o, c ≠ z → c ≠ TO → c ≠ i1 → c ≠ i2 → s.heap.get? c = some o → h'.get? c = some o) → Q (.ref s.heap.objs.size) { s with heap := h', toks := tk }) :
    wpAny (model prog w) A (Builtin.«zip.__next__» ⟨[.ref z], []⟩) (fun fin s' => ∃ v, fin = .done (.ret v) ∧ Q v s') E s := by
  obtain ⟨hp, g, d, tk0, os⟩ := s
  show wpAny _ _ (field (.ref z) 2 >>= _) _ _ _
  refine wpAny_bind (wpAny_field hz rfl (x := .bool false) rfl ?_)
  show wpAny _ _ (field (.ref z) 3 >>= _) _ _ _
  refine wpAny_bind (wpAny_field hz rfl (x := .ref TI) rfl ?_)
  refine wpAny_bind (wpAny_seqItems hTI rfl ?_)
  show wpAny _ _ (Builtin.SmallTypes.ownedTupleIsFree (.ref z) >>= _) _ _ _
  refine wpAny_bind (free_or hz hf ?_ ?_)
  · -- the kept tuple again
    simp only [if_true]
    refine wpAny_bind (wpAny_rule ?_)
    refine wpAny_bind (wpAny_field hz rfl (x := .ref TO) rfl ?_)
    refine wpAny_bind (wpAny_setField_rec hz (by simp) fun g0 hz0 hs0 => ?_)
    replace hz0 : IsZipF g0 z TI TO .ellipsis f1 := hz0
    replace hs0 : Heap.SameBut z hp g0 := hs0
    refine wpAny_bind ?_
    simp only [List.zipIdx_cons, List.zipIdx_nil, List.forIn_cons, List.forIn_nil]
    refine wpAny_bind (wpAny_bind (wpAny_onRaise ?_))
    show wpAny _ _ (Builtin.SmallTypes.nextOf (.ref i1) >>= _) _ _ ⟨g0, g, d, tk0, os⟩
    refine wpAny_bind (D1.item i _ _ _ hlt1 (D1.over st1 hs0 S.zf1) fun x1 p1 tk1 hx1 sn1 hp1 => wpAny_pure ?_)
    replace hp1 : Heap.SameBut i1 g0 p1 := hp1
    have hU1 : IsTupOf2 p1 TO a1 a2 := hp1.extBut _ _ S.Ti1 (hs0.extBut _ _ S.TOz hTO)
    refine wpAny_bind (wpAny_seqItems (s := ⟨p1, g, d, tk1, os⟩) hU1 rfl ?_)
    refine wpAny_bind (updateSeq_IsTupOf2 (s := ⟨p1, g, d, tk1, os⟩) hU1 fun g1 hT1 hs1 => ?_)
    replace hT1 : IsTupOf2 g1 TO x1 a2 := hT1
    replace hs1 : Heap.SameBut TO p1 g1 := hs1
    refine wpAny_bind (wpAny_letGo (wpAny_pure ?_))
    refine wpAny_bind (wpAny_bind (wpAny_onRaise ?_))
    show wpAny _ _ (Builtin.SmallTypes.nextOf (.ref i2) >>= _) _ _ ⟨g1, g, d, tk1, os⟩
    refine wpAny_bind (D2.item i _ _ _ hlt2 (D2.over (D2.over (D2.over st2 hs0 S.zf2) hp1 S.sep1_2) hs1 S.Tf2) fun x2 p2 tk2 hx2 sn2 hp2 => wpAny_pure ?_)
    replace hp2 : Heap.SameBut i2 g1 p2 := hp2
    have hU2 : IsTupOf2 p2 TO x1 a2 := hp2.extBut _ _ S.Ti2 hT1
    refine wpAny_bind (wpAny_seqItems (s := ⟨p2, g, d, tk2, os⟩) hU2 rfl ?_)
    refine wpAny_bind (updateSeq_IsTupOf2 (s := ⟨p2, g, d, tk2, os⟩) hU2 fun g2 hT2 hs2 => ?_)
    replace hT2 : IsTupOf2 g2 TO x1 x2 := hT2
    replace hs2 : Heap.SameBut TO p2 g2 := hs2
    refine wpAny_bind (wpAny_letGo (wpAny_pure (wpAny_pure ?_)))
    refine wpAny_bind (wpAny_seqItems (s := ⟨g2, g, d, tk2, os⟩) hT2 rfl ?_)
    refine wpAny_bind (wpAny_newTuple ?_)
    have hsz : g2.objs.size = hp.objs.size := by rw [hs2.1, hp2.1, hs1.1, hp1.1, hs0.1]
    have hzz : IsZipF g2 z TI TO .ellipsis f1 := (hs2.extBut _ _ S.TOz.symm (hp2.extBut _ _ S.zi2 (hs1.extBut _ _ S.TOz.symm (hp1.extBut _ _ S.zi1 hz0))))
    have hkk : ∀ c o, c ≠ z → c ≠ TO → c ≠ i1 → c ≠ i2 → hp.get? c = some o → g2.get? c = some o := fun c o cz cT c1 c2 e =>
      (hs2.extBut _ _ cT (hp2.extBut _ _ c2 (hs1.extBut _ _ cT (hp1.extBut _ _ c1 (hs0.extBut _ _ cz e)))))
    have hj1 : St1 (i + 1) g2 := (D1.over (D1.over (D1.over sn1 hs1 S.Tf1) hp2 S.sep2_1) hs2 S.Tf1)
    have hj2 : St2 (i + 1) g2 := (D2.over sn2 hs2 S.Tf2)
    have hzlt : z < g2.objs.size := Heap.lt_size hzz
    show wpAny _ _ (Builtin.SmallTypes.ownedTupleHandOut (.ref z) (.ref g2.objs.size) >>= _) _ _ ⟨g2.push { cls := .type "tuple", data := .seq #[x1, x2] }, g, d, tk2, os⟩
    refine wpAny_bind ?_
    unfold Builtin.SmallTypes.ownedTupleHandOut
    have hz₆ : IsZipF (g2.push { cls := .type "tuple", data := .seq #[x1, x2] }) z TI TO .ellipsis f1 := Heap.get?_push_of_some _ hzz
    refine wpAny_bind (wpAny_setField_rec hz₆ (by simp) fun h₇ hz₇ hs₇ => ?_)
    replace hz₇ : IsZipF h₇ z TI TO (rawInt g2.objs.size) f1 := hz₇
    refine wpAny_setField_rec hz₇ (by simp) fun h₈ hz₈ hs₈ => ?_
    replace hz₈ : IsZipF h₈ z TI TO (rawInt g2.objs.size) (.bool false) := hz₈
    replace hs₇ : Heap.SameBut z (g2.push { cls := .type "tuple", data := .seq #[x1, x2] }) h₇ := hs₇
    replace hs₈ : Heap.SameBut z h₇ h₈ := hs₈
    have up : ∀ c o, c ≠ z → g2.get? c = some o → h₈.get? c = some o := fun c o c1 e => hs₈.extBut _ _ c1 (hs₇.extBut _ _ c1 (Heap.get?_push_of_some _ e))
    have hT₈ : IsTupOf2 h₈ g2.objs.size x1 x2 := hs₈.extBut _ _ (Nat.ne_of_gt hzlt) (hs₇.extBut _ _ (Nat.ne_of_gt hzlt) (Heap.get?_push_size _ rfl))
    have hz8 : h₈.objs.size = g2.objs.size + 1 := by rw [hs₈.1, hs₇.1, Heap.size_push]
    rw [hsz] at hz₈ hT₈ hz8
    refine wpAny_pure ⟨_, rfl, ?_⟩
    show Q (.ref g2.objs.size) ⟨h₈, g, d, tk2, os⟩
    rw [hsz]
    exact hQ x1 x2 h₈ tk2 hx1 hx2 ⟨_, _, hz₈, .inr ⟨_, rfl⟩, false, rfl⟩ ⟨x1, x2, up _ _ S.TOz hT2⟩ (D1.frame _ _ _ hj1 fun b hb o e => up b o (fun q => S.zf1 (q ▸ hb)) e) (D2.frame _ _ _ hj2 fun b hb o e => up b o (fun q => S.zf2 (q ▸ hb)) e) hT₈ hz8 fun c o cz cT c1 c2 e => up c o cz (hkk c o cz cT c1 c2 e)
  · -- it is still out
    intro h₁ f0' f1' hz₁ hf₁ hs₁
    replace hs₁ : Heap.SameBut z hp h₁ := hs₁
    simp only [Bool.false_eq_true, if_false]
    refine wpAny_bind ?_
    rw [← Array.forIn_toList]
    simp only [List.forIn_cons, List.forIn_nil]
    refine wpAny_bind (wpAny_bind (wpAny_holding ?_))
    show wpAny _ _ (Builtin.SmallTypes.nextOf (.ref i1) >>= _) _ _ _
    refine wpAny_bind (D1.item i _ _ _ hlt1 (D1.over st1 hs₁ S.zf1) fun x1 h₂ tk1 hx1 sn1 hs₂ => wpAny_pure ?_)
    replace hs₂ : Heap.SameBut i1 h₁ h₂ := hs₂
    refine wpAny_pure ?_
    refine wpAny_bind (wpAny_bind (wpAny_holding ?_))
    show wpAny _ _ (Builtin.SmallTypes.nextOf (.ref i2) >>= _) _ _ _
    refine wpAny_bind (D2.item i ⟨h₂, g, d, tk1, os⟩ _ _ hlt2 (D2.over (D2.over st2 hs₁ S.zf2) hs₂ S.sep1_2) fun x2 h₃ tk2 hx2 sn2 hs₃ => wpAny_pure ?_)
    replace hs₃ : Heap.SameBut i2 h₂ h₃ := hs₃
    refine wpAny_pure (wpAny_pure ?_)
    show wpAny _ _ (newTuple [x1, x2] >>= _) _ _ _
    refine wpAny_bind (wpAny_newTuple ?_)
    have hsz : h₃.objs.size = hp.objs.size := by rw [hs₃.1, hs₂.1, hs₁.1]
    have hz₃ : IsZipF h₃ z TI TO f0' f1' := hs₃.extBut _ _ S.zi2 (hs₂.extBut _ _ S.zi1 hz₁)
    have hk : ∀ c o, c ≠ z → c ≠ i1 → c ≠ i2 → hp.get? c = some o → h₃.get? c = some o := fun c o c1 c2 c3 e => hs₃.extBut _ _ c3 (hs₂.extBut _ _ c2 (hs₁.extBut _ _ c1 e))
    have hj1 : St1 (i + 1) h₃ := D1.over sn1 hs₃ S.sep2_1
    refine wpAny_pure ⟨_, rfl, ?_⟩
    show Q (.ref h₃.objs.size) _
    have hpr : IsTupOf2 (h₃.push { cls := .type "tuple", data := .seq #[x1, x2] }) h₃.objs.size x1 x2 := Heap.get?_push_size _ rfl
    have hz4 : (h₃.push { cls := .type "tuple", data := .seq #[x1, x2] }).objs.size = h₃.objs.size + 1 := Heap.size_push ..
    rw [hsz] at hpr hz4 ⊢
    exact hQ x1 x2 _ tk2 hx1 hx2 ⟨_, _, Heap.get?_push_of_some _ hz₃, hf₁⟩ ⟨a1, a2, Heap.get?_push_of_some _ (hk _ _ S.TOz S.Ti1 S.Ti2 hTO)⟩ (D1.frame _ _ _ hj1 fun b hb o e => Heap.get?_push_of_some _ e) (D2.frame _ _ _ sn2 fun b hb o e => Heap.get?_push_of_some _ e) hpr hz4
      fun c o cz cT c1 c2 e => Heap.get?_push_of_some _ (hk c o cz c1 c2 e)
end
end Dl
/-! enumerate(zip(a, b)), the walk -/
namespace Dl
open PySem PySem.Spec PyProof.Rows L2
section
variable {prog : Program} {w : World} {A : Around} {E : Value → Shared → Prop} {s : Shared} {z TI TO i1 i2 : Addr} {fp1 fp2 : List Addr} {n1 n2 i : Nat} {P1 P2 : Nat → Value → Prop} {St1 St2 : Nat → Heap → Prop} {a1 a2 f0 f1 : Value}
theorem zipF_end {Q : Fin → Shared → Prop} (S : ZipSep2 z TI TO i1 i2 fp1 fp2) (D1 : Draws prog w A i1 fp1 n1 P1 St1) (D2 : Draws prog w A i2 fp2 n2 P2 St2)
    (hz : IsZipF s.heap z TI TO f0 f1) (hf : Ff f0 f1) (hTI : IsTupOf2 s.heap TI (.ref i1) (.ref i2)) (hTO : IsTupOf2 s.heap TO a1 a2) (st1 : St1 i s.heap) (st2 : St2 i s.heap) (hle1 : i ≤ n1) (hle2 : i ≤ n2) (hend : i = n1 ∨ i = n2)
    (hE : ∀ h' tk e, (∀ c o, c ≠ z → c ≠ TO → c ≠ i1 → c ≠ i2 → s.heap.get? c = some o → h'.get? c = some o) → (∃ o, h'.get? e = some o ∧ o.cls = .type "StopIteration") → E (.ref e) { s with heap := h', toks := tk }) :
    wpAny (model prog w) A (Builtin.«zip.__next__» ⟨[.ref z], []⟩) Q E s := by
  obtain ⟨hp, g, d, tk0, os⟩ := s
  show wpAny _ _ (field (.ref z) 2 >>= _) _ _ _
  refine wpAny_bind (wpAny_field hz rfl (x := .bool false) rfl ?_)
  show wpAny _ _ (field (.ref z) 3 >>= _) _ _ _
  refine wpAny_bind (wpAny_field hz rfl (x := .ref TI) rfl ?_)
  refine wpAny_bind (wpAny_seqItems hTI rfl ?_)
  show wpAny _ _ (Builtin.SmallTypes.ownedTupleIsFree (.ref z) >>= _) _ _ _
  refine wpAny_bind (free_or hz hf ?_ ?_)
  · simp only [if_true]
    refine wpAny_bind (wpAny_rule ?_)
    refine wpAny_bind (wpAny_field hz rfl (x := .ref TO) rfl ?_)
    refine wpAny_bind (wpAny_setField_rec hz (by simp) fun g0 hz0 hs0 => ?_)
    replace hz0 : IsZipF g0 z TI TO .ellipsis f1 := hz0
    replace hs0 : Heap.SameBut z hp g0 := hs0
    refine wpAny_bind ?_
    simp only [List.zipIdx_cons, List.zipIdx_nil, List.forIn_cons, List.forIn_nil]
    refine wpAny_bind (wpAny_bind (wpAny_onRaise ?_))
    show wpAny _ _ (Builtin.SmallTypes.nextOf (.ref i1) >>= _) _ _ ⟨g0, g, d, tk0, os⟩
    by_cases hlt1 : i < n1
    · refine wpAny_bind (D1.item i _ _ _ hlt1 (D1.over st1 hs0 S.zf1) fun x1 p1 tk1 hx1 sn1 hp1 => wpAny_pure ?_)
      replace hp1 : Heap.SameBut i1 g0 p1 := hp1
      have hU1 : IsTupOf2 p1 TO a1 a2 := hp1.extBut _ _ S.Ti1 (hs0.extBut _ _ S.TOz hTO)
      refine wpAny_bind (wpAny_seqItems (s := ⟨p1, g, d, tk1, os⟩) hU1 rfl ?_)
      refine wpAny_bind (updateSeq_IsTupOf2 (s := ⟨p1, g, d, tk1, os⟩) hU1 fun g1 hT1 hs1 => ?_)
      replace hT1 : IsTupOf2 g1 TO x1 a2 := hT1
      replace hs1 : Heap.SameBut TO p1 g1 := hs1
      refine wpAny_bind (wpAny_letGo (wpAny_pure ?_))
      have hi2 : i = n2 := by omega
      refine wpAny_bind (wpAny_bind (wpAny_onRaise ?_))
      show wpAny _ _ (Builtin.SmallTypes.nextOf (.ref i2) >>= _) _ _ ⟨g1, g, d, tk1, os⟩
      refine wpAny_bind (D2.done ⟨g1, g, d, tk1, os⟩ _ _ (by rw [← hi2]; exact (D2.over (D2.over (D2.over st2 hs0 S.zf2) hp1 S.sep1_2) hs1 S.Tf2)) fun q e hq he => ?_)
      replace hq : Heap.ExtBut i2 g1 q := hq
      obtain ⟨oe, hoe, hce⟩ := he
      replace hoe : q.get? e = some oe := hoe
      have hzq : IsZipF q z TI TO .ellipsis f1 := hq _ _ S.zi2 (hs1.extBut _ _ S.TOz.symm (hp1.extBut _ _ S.zi1 hz0))
      have hez : e ≠ z := fun x => by subst x; rw [hzq] at hoe; cases hoe; simp at hce
      refine wpAny_setField_rec (s := ⟨q, g, d, tk1, os⟩) hzq (by simp) fun q' _ hq' => ?_
      replace hq' : Heap.SameBut z q q' := hq'
      exact hE q' tk1 e (fun c o cz cT c1 c2 x => hq'.extBut _ _ cz (hq _ _ c2 (hs1.extBut _ _ cT (hp1.extBut _ _ c1 (hs0.extBut _ _ cz x))))) ⟨oe, hq'.extBut _ _ hez hoe, hce⟩
    · have hi1 : i = n1 := by omega
      refine wpAny_bind (D1.done ⟨g0, g, d, tk0, os⟩ _ _ (by rw [← hi1]; exact (D1.over st1 hs0 S.zf1)) fun q e hq he => ?_)
      replace hq : Heap.ExtBut i1 g0 q := hq
      obtain ⟨oe, hoe, hce⟩ := he
      replace hoe : q.get? e = some oe := hoe
      have hzq : IsZipF q z TI TO .ellipsis f1 := hq _ _ S.zi1 hz0
      have hez : e ≠ z := fun x => by subst x; rw [hzq] at hoe; cases hoe; simp at hce
      refine wpAny_setField_rec (s := ⟨q, g, d, tk0, os⟩) hzq (by simp) fun q' _ hq' => ?_
      replace hq' : Heap.SameBut z q q' := hq'
      exact hE q' tk0 e (fun c o cz cT c1 c2 x => hq'.extBut _ _ cz (hq _ _ c1 (hs0.extBut _ _ cz x))) ⟨oe, hq'.extBut _ _ hez hoe, hce⟩
  · intro h₁ f0' f1' hz₁ hf₁ hs₁
    replace hs₁ : Heap.SameBut z hp h₁ := hs₁
    simp only [Bool.false_eq_true, if_false]
    refine wpAny_bind ?_
    rw [← Array.forIn_toList]
    simp only [List.forIn_cons, List.forIn_nil]
    refine wpAny_bind (wpAny_bind (wpAny_holding ?_))
    show wpAny _ _ (Builtin.SmallTypes.nextOf (.ref i1) >>= _) _ _ ⟨h₁, g, d, tk0, os⟩
    by_cases hlt1 : i < n1
    · refine wpAny_bind (D1.item i _ _ _ hlt1 (D1.over st1 hs₁ S.zf1) fun x1 h₂ tk1 hx1 sn1 hs₂ => wpAny_pure ?_)
      replace hs₂ : Heap.SameBut i1 h₁ h₂ := hs₂
      have hi2 : i = n2 := by omega
      refine wpAny_pure ?_
      refine wpAny_bind (wpAny_bind (wpAny_holding ?_))
      show wpAny _ _ (Builtin.SmallTypes.nextOf (.ref i2) >>= _) _ _ ⟨h₂, g, d, tk1, os⟩
      refine wpAny_bind (D2.done ⟨h₂, g, d, tk1, os⟩ _ _ (by rw [← hi2]; exact (D2.over (D2.over st2 hs₁ S.zf2) hs₂ S.sep1_2)) fun q e hq he => ?_)
      replace hq : Heap.ExtBut i2 h₂ q := hq
      exact hE q tk1 e (fun c o cz _ c1 c2 x => hq _ _ c2 (hs₂.extBut _ _ c1 (hs₁.extBut _ _ cz x))) he
    · have hi1 : i = n1 := by omega
      refine wpAny_bind (D1.done ⟨h₁, g, d, tk0, os⟩ _ _ (by rw [← hi1]; exact (D1.over st1 hs₁ S.zf1)) fun q e hq he => ?_)
      replace hq : Heap.ExtBut i1 h₁ q := hq
      exact hE q tk0 e (fun c o cz _ c1 _ x => hq _ _ c1 (hs₁.extBut _ _ cz x)) he

/-! #### enumerate over an iterator of any kind -/
theorem enumA_item {e it : Addr} {i : Int} {old : Value} {R : Value → Heap → Prop} {Q : Value → Shared → Prop} (he : IsEnum s.heap e it i old)
    (hnext : ∀ (Q : Value → Shared → Prop) (E : Value → Shared → Prop), (∀ x h₁ tk, R x h₁ → Q x { s with heap := h₁, toks := tk }) → wpAny (model prog w) A (Builtin.SmallTypes.nextOf (.ref it)) Q E s)
    (hR : ∀ x h₁, R x h₁ → IsEnum h₁ e it i old)
    (hQ : ∀ x h₁ h' tk, R x h₁ → IsEnumOut h' e it (i + 1) x h₁.objs.size → h'.get? h₁.objs.size = some { cls := .type "tuple", data := .seq #[.int i tk, x] } →
      (∀ b o, b ≠ e → h₁.get? b = some o → h'.get? b = some o) → Q (.ref h₁.objs.size) { s with heap := h', toks := tk + 1 }) :
    wpAny (model prog w) A (Builtin.«enumerate.__next__» ⟨[.ref e], []⟩) (fun fin s' => ∃ v, fin = .done (.ret v) ∧ Q v s') E s := by
  obtain ⟨hp, g, d, tk₀, os⟩ := s
  show wpAny _ _ (field (.ref e) 2 >>= _) _ _ _
  refine wpAny_bind (wpAny_field he rfl (x := .ref it) rfl ?_)
  refine wpAny_bind (hnext _ _ fun x h₁ tk hr => ?_)
  have he₁ : IsEnum h₁ e it i old := hR x h₁ hr
  have hel : e < h₁.objs.size := Heap.lt_size he₁
  show wpAny _ _ (field (.ref e) 3 >>= _) _ _ ⟨h₁, g, d, tk, os⟩
  refine wpAny_bind (wpAny_field he₁ rfl (x := rawInt i) rfl ?_)
  show wpAny _ _ (field (.ref e) 4 >>= _) _ _ ⟨h₁, g, d, tk, os⟩
  refine wpAny_bind (wpAny_field he₁ rfl (x := .none) rfl ?_)
  show wpAny _ _ (mkInt i >>= _) _ _ ⟨h₁, g, d, tk, os⟩
  refine wpAny_bind (wpAny_mkInt ?_)
  show wpAny _ _ (setField (.ref e) 3 (rawInt (i + 1)) >>= _) _ _ ⟨h₁, g, d, tk + 1, os⟩
  refine wpAny_bind (wpAny_setField_rec he₁ (by simp) fun h₂ he₂ hs₂ => ?_)
  replace hs₂ : Heap.SameBut e h₁ h₂ := hs₂
  replace he₂ : IsEnum h₂ e it (i + 1) old := he₂
  show wpAny _ _ (setField (.ref e) 4 .none >>= _) _ _ ⟨h₂, g, d, tk + 1, os⟩
  refine wpAny_bind (wpAny_setField_rec he₂ (by simp) fun h₃ he₃ hs₃ => ?_)
  replace hs₃ : Heap.SameBut e h₂ h₃ := hs₃
  replace he₃ : IsEnum h₃ e it (i + 1) old := he₃
  show wpAny _ _ (newTuple [.int i tk, x] >>= _) _ _ ⟨h₃, g, d, tk + 1, os⟩
  refine wpAny_bind (wpAny_newTuple ?_)
  have he₄ : IsEnum (h₃.push { cls := .type "tuple", data := .seq #[.int i tk, x] }) e it (i + 1) old := Heap.get?_push_of_some _ he₃
  generalize hh₄ : h₃.push { cls := .type "tuple", data := .seq #[.int i tk, x] } = h₄ at he₄
  have hsz : h₃.objs.size = h₁.objs.size := by rw [hs₃.1, hs₂.1]
  have ht₄ : h₄.get? h₁.objs.size = some { cls := .type "tuple", data := .seq #[.int i tk, x] } := by rw [← hh₄, ← hsz]; exact Heap.get?_push_size _ rfl
  have hk₄ : ∀ b o, b ≠ e → h₁.get? b = some o → h₄.get? b = some o := fun b o hbe hb => by
    rw [← hh₄]; exact Heap.get?_push_of_some _ (hs₃.extBut b o hbe (hs₂.extBut b o hbe hb))
  show wpAny _ _ (Builtin.SmallTypes.ownedTupleIsFree (.ref e) >>= _) _ _ ⟨h₄, g, d, tk + 1, os⟩
  rw [hsz]
  clear hh₄ he₃ hs₃ he₂ hs₂ hsz h₃ h₂
  refine wpAny_bind ?_
  · unfold Builtin.SmallTypes.ownedTupleIsFree
    refine wpAny_bind (wpAny_field he₄ rfl (x := .none) rfl (wpAny_pure ?_))
    simp only [if_true]
    refine wpAny_bind (wpAny_rule ?_)
    refine wpAny_bind (wpAny_field he₄ rfl (x := old) rfl ?_)
    refine wpAny_bind (wpAny_setField_rec he₄ (by simp) fun h₅ he₅ hs₅ => ?_)
    replace hs₅ : Heap.SameBut e h₄ h₅ := hs₅
    replace he₅ : IsEnum h₅ e it (i + 1) x := he₅
    show wpAny _ _ (Builtin.SmallTypes.ownedTupleHandOut (.ref e) (.ref h₁.objs.size) >>= _) _ _ ⟨h₅, g, d, tk + 1, os⟩
    refine wpAny_bind ?_
    · unfold Builtin.SmallTypes.ownedTupleHandOut
      refine wpAny_bind (wpAny_setField_rec he₅ (by simp) fun h₆ he₆ hs₆ => ?_)
      replace hs₆ : Heap.SameBut e h₅ h₆ := hs₆
      replace he₆ : IsEnumOut h₆ e it (i + 1) x h₁.objs.size := he₆
      refine wpAny_setField_rec he₆ (by simp) fun h₇ he₇ hs₇ => ?_
      replace hs₇ : Heap.SameBut e h₆ h₇ := hs₇
      replace he₇ : IsEnumOut h₇ e it (i + 1) x h₁.objs.size := he₇
      refine wpAny_bind (wpAny_letGo (wpAny_pure ⟨_, rfl, hQ x h₁ h₇ tk hr he₇ ?_ ?_⟩))
      · exact hs₇.extBut _ _ (Nat.ne_of_gt hel) (hs₆.extBut _ _ (Nat.ne_of_gt hel) (hs₅.extBut _ _ (Nat.ne_of_gt hel) ht₄))
      · exact fun b o hbe hb => hs₇.extBut b o hbe (hs₆.extBut b o hbe (hs₅.extBut b o hbe (hk₄ b o hbe hb)))
theorem pyNext_enumA {e it : Addr} {i : Int} {old : Value} {R : Value → Heap → Prop} {Q : Option Value → Shared → Prop} (he : IsEnum s.heap e it i old)
    (hnext : ∀ (Q : Value → Shared → Prop) (E : Value → Shared → Prop), (∀ x h₁ tk, R x h₁ → Q x { s with heap := h₁, toks := tk }) → wpAny (model prog w) A.in1 (Builtin.SmallTypes.nextOf (.ref it)) Q E s)
    (hR : ∀ x h₁, R x h₁ → IsEnum h₁ e it i old)
    (hQ : ∀ x h₁ h' tk, R x h₁ → IsEnumOut h' e it (i + 1) x h₁.objs.size → h'.get? h₁.objs.size = some { cls := .type "tuple", data := .seq #[.int i tk, x] } →
      (∀ b o, b ≠ e → h₁.get? b = some o → h'.get? b = some o) → Q (some (.ref h₁.objs.size)) { s with heap := h', toks := tk + 1 }) : wpAny (model prog w) A (pyNext (.ref e)) Q E s := by
  have hT : s.TypeIs (.ref e) "enumerate" := ⟨_, he, rfl⟩
  unfold pyNext
  exact wpAny_bind (wpAny_attempt (wpAny_callSpecial?_slot (name := Str.ofString "__next__") hT F.slot_enumerate_next
    (wpAny_call_entry F.slot_enumerate_next hT F.entry_enumerate_next
      (enumA_item he hnext hR fun x h₁ h' tk a b c d => wpAny_pure (hQ x h₁ h' tk a b c d)) (F.args_enumerate_next_1 _))))
theorem pyNext_enumA_end {e it : Addr} {i : Int} {old : Value} {Ex : Heap → Prop} {Q : Option Value → Shared → Prop} (he : IsEnum s.heap e it i old)
    (hdone : ∀ (Q : Value → Shared → Prop) (E : Value → Shared → Prop), (∀ h' tk x, Ex h' → (∃ o, h'.get? x = some o ∧ o.cls = .type "StopIteration") → E (.ref x) { s with heap := h', toks := tk }) → wpAny (model prog w) A.in1 (Builtin.SmallTypes.nextOf (.ref it)) Q E s)
    (hQ : ∀ h' tk, Ex h' → Q none { s with heap := h', toks := tk }) : wpAny (model prog w) A (pyNext (.ref e)) Q E s := by
  have hT : s.TypeIs (.ref e) "enumerate" := ⟨_, he, rfl⟩
  unfold pyNext
  refine wpAny_bind (wpAny_attempt (wpAny_callSpecial?_slot (name := Str.ofString "__next__") hT F.slot_enumerate_next
    (wpAny_call_entry F.slot_enumerate_next hT F.entry_enumerate_next ?_ (F.args_enumerate_next_1 _))))
  show wpAny _ _ (field (.ref e) 2 >>= _) _ _ _
  refine wpAny_bind (wpAny_field he rfl (x := .ref it) rfl ?_)
  refine wpAny_bind (hdone _ _ fun h' tk x he' hx' => ?_)
  obtain ⟨o, ho, hc⟩ := hx'
  refine wpAny_bind (wpAny_isInstance (T := "StopIteration") (b := true) ⟨o, ho, hc⟩ isSubtype_stop ?_)
  exact wpAny_pure (hQ _ _ he')
theorem nextOf_zipF {Q : Value → Shared → Prop} (S : ZipSep2 z TI TO i1 i2 fp1 fp2) (D1 : Draws prog w A.in1 i1 fp1 n1 P1 St1) (D2 : Draws prog w A.in1 i2 fp2 n2 P2 St2)
    (hz : IsZipF s.heap z TI TO f0 f1) (hf : Ff f0 f1) (hTI : IsTupOf2 s.heap TI (.ref i1) (.ref i2)) (hTO : IsTupOf2 s.heap TO a1 a2) (st1 : St1 i s.heap) (st2 : St2 i s.heap) (hlt1 : i < n1) (hlt2 : i < n2)
    (hQ : ∀ x1 x2 h' tk, P1 i x1 → P2 i x2 → (∃ f0 f1, IsZipF h' z TI TO f0 f1 ∧ Ff f0 f1) → (∃ b1 b2, IsTupOf2 h' TO b1 b2) → St1 (i + 1) h' → St2 (i + 1) h' → IsTupOf2 h' s.heap.objs.size x1 x2 → h'.objs.size = s.heap.objs.size + 1 →
      (∀ c o, c ≠ z → c ≠ TO → c ≠ i1 → c ≠ i2 → s.heap.get? c = some o → h'.get? c = some o) → Q (.ref s.heap.objs.size) { s with heap := h', toks := tk }) :
    wpAny (model prog w) A (Builtin.SmallTypes.nextOf (.ref z)) Q E s := by
  have hT : s.TypeIs (.ref z) "zip" := ⟨_, hz, rfl⟩
  unfold Builtin.SmallTypes.nextOf
  exact wpAny_bind (wpAny_callSpecial?_slot (name := Str.ofString "__next__") hT F.slot_zip_next
    (wpAny_call_entry F.slot_zip_next hT F.entry_zip_next
      (zipF_item S D1 D2 hz hf hTI hTO st1 st2 hlt1 hlt2 fun x1 x2 h' tk a b c d e f g h i => wpAny_pure (hQ x1 x2 h' tk a b c d e f g h i)) (F.args_zip_next_1 _)))
theorem nextOf_zipF_end {Q : Value → Shared → Prop} (S : ZipSep2 z TI TO i1 i2 fp1 fp2) (D1 : Draws prog w A.in1 i1 fp1 n1 P1 St1) (D2 : Draws prog w A.in1 i2 fp2 n2 P2 St2)
    (hz : IsZipF s.heap z TI TO f0 f1) (hf : Ff f0 f1) (hTI : IsTupOf2 s.heap TI (.ref i1) (.ref i2)) (hTO : IsTupOf2 s.heap TO a1 a2) (st1 : St1 i s.heap) (st2 : St2 i s.heap) (hle1 : i ≤ n1) (hle2 : i ≤ n2) (hend : i = n1 ∨ i = n2)
    (hE : ∀ h' tk e, (∀ c o, c ≠ z → c ≠ TO → c ≠ i1 → c ≠ i2 → s.heap.get? c = some o → h'.get? c = some o) → (∃ o, h'.get? e = some o ∧ o.cls = .type "StopIteration") → E (.ref e) { s with heap := h', toks := tk }) :
    wpAny (model prog w) A (Builtin.SmallTypes.nextOf (.ref z)) Q E s := by
  have hT : s.TypeIs (.ref z) "zip" := ⟨_, hz, rfl⟩
  unfold Builtin.SmallTypes.nextOf
  exact wpAny_bind (wpAny_callSpecial?_slot (name := Str.ofString "__next__") hT F.slot_zip_next
    (wpAny_call_entry F.slot_zip_next hT F.entry_zip_next
      (zipF_end S D1 D2 hz hf hTI hTO st1 st2 hle1 hle2 hend hE) (F.args_zip_next_1 _)))
end
end Dl
/-! enumerate(zip(a, b)) as a walk over data -/
namespace Dl
open PySem PySem.Spec PyProof.Rows L2
def ItezB (K : PySem.W.Frag) (t t2 : Bool) (a b : Addr) : It :=
  ⟨fun i H => ∃ (xs ys : List V) (x y : V), SqB K t H a xs ∧ SqB K t2 H b ys ∧ xs[i]? = some x ∧ ys[i]? = some y,
    fun i H v H' => ∃ T T2 x y, v = .ref T2 ∧ H T = none ∧ H T2 = none ∧ T2 ≠ T ∧ H' = upd (upd H T (.tup [x, y])) T2 (.tup [.int (i : Nat), .ref T]) ∧ (∀ xs, SqB K t H a xs → xs[i]? = some x) ∧ ∀ ys, SqB K t2 H b ys → ys[i]? = some y,
    fun i H => ∃ xs ys : List V, SqB K t H a xs ∧ SqB K t2 H b ys ∧ i ≤ xs.length ∧ i ≤ ys.length ∧ (i = xs.length ∨ i = ys.length)⟩
theorem turn_ezipB {P : Program} {w : World} {K : PySem.W.Frag} {elts : List Expr} {kk : Nat} {tpos : Pos} {t t2 : Bool} {a b e z TI TO i1 i2 : Addr} (D : ZipSep2 z TI TO i1 i2 [i1, a] [i2, b]) (ha1 : a ≠ i1) (hb2 : b ≠ i2) (ez : e ≠ z) (eTI : e ≠ TI) (eTO : e ≠ TO) (e1 : e ≠ i1) (e2 : e ≠ i2) :
    Turn P w K (.Tuple elts kk tpos) (ItezB K t t2 a b) [e, z, TI, TO, i1, i2] e (fun i h => (∃ old, IsEnum h e z ((i : Nat) : Int) old) ∧ (∃ f0 f1, IsZipF h z TI TO f0 f1 ∧ Ff f0 f1) ∧ IsTupOf2 h TI (.ref i1) (.ref i2) ∧ (∃ x y, IsTupOf2 h TO x y) ∧ IsIt t h i1 a i ∧ IsIt t2 h i2 b i) where
  mem := by simp
  obj := fun i h st c hc => by
    obtain ⟨⟨old, he⟩, ⟨f0, f1, hz, _⟩, hTI, ⟨x, y, hTO⟩, h1, h2⟩ := st
    have e' : c = e ∨ c = z ∨ c = TI ∨ c = TO ∨ c = i1 ∨ c = i2 := by simpa using hc
    rcases e' with q | q | q | q | q | q
    · rw [q]; exact ⟨_, he, fun v q => nomatch q⟩
    · rw [q]; exact ⟨_, hz, fun v q => nomatch q⟩
    · rw [q]; exact ⟨_, hTI, fun v q => nomatch q⟩
    · rw [q]; exact ⟨_, hTO, fun v q => nomatch q⟩
    · rw [q]; exact h1.get
    · rw [q]; exact h2.get
  keep := fun i h h' st k => by
    obtain ⟨⟨old, he⟩, ⟨f0, f1, hz, hf⟩, hTI, ⟨x, y, hTO⟩, h1, h2⟩ := st
    exact ⟨⟨old, k e (by simp) _ he⟩, ⟨f0, f1, k z (by simp) _ hz, hf⟩, k TI (by simp) _ hTI, ⟨x, y, k TO (by simp) _ hTO⟩, h1.at fun o q => k i1 (by simp) o q, h2.at fun o q => k i2 (by simp) o q⟩
  item := by
    intro X hP hw hK hc i pins s σ H E I hf st hg
    subst hP hw hK
    obtain ⟨⟨old, he⟩, ⟨f0, f1, hz, hff⟩, hTI, ⟨x0, y0, hTO⟩, h1, h2⟩ := st
    obtain ⟨xs, ys, x, y, hqx, hqy, hx, hy⟩ := hg
    obtain ⟨its, rv, p, _⟩ := inv_sq I hqx
    obtain ⟨its2, rv2, p2, _⟩ := inv_sq I hqy
    obtain ⟨u, hu, ru⟩ := rv.get hx
    obtain ⟨u2, hu2, ru2⟩ := rv2.get hy
    have hu' : its.toArray[i]? = some u := by simpa using hu
    have hu2' : its2.toArray[i]? = some u2 := by simpa using hu2
    have hh : X.A.in1.in1.handled = none := I.ok.hd hc
    have hel : e < s.heap.objs.size := Heap.lt_size he
    let R : Value → Heap → Prop := fun v h₁ => v = .ref s.heap.objs.size ∧ (∃ f0 f1, IsZipF h₁ z TI TO f0 f1 ∧ Ff f0 f1) ∧ (∃ b1 b2, IsTupOf2 h₁ TO b1 b2) ∧ IsIt t h₁ i1 a (i + 1) ∧ IsIt t2 h₁ i2 b (i + 1) ∧ IsTupOf2 h₁ s.heap.objs.size u u2 ∧ h₁.objs.size = s.heap.objs.size + 1 ∧
      ∀ c o, c ≠ z → c ≠ TO → c ≠ i1 → c ≠ i2 → s.heap.get? c = some o → h₁.get? c = some o
    refine pyNext_enumA (R := R) he (fun Q E hQ => ?_) (fun v h₁ hr => hr.2.2.2.2.2.2.2 e _ ez eTO e1 e2 he) fun v h₁ h' tk hr ho hT' hk => ?_
    · refine nextOf_zipF D (draws_sq t hh i1 a ha1 its.toArray) (draws_sq t2 hh i2 b hb2 its2.toArray) hz hff hTI hTO ⟨h1, p⟩ ⟨h2, p2⟩ (Array.getElem?_eq_some_iff.mp hu').1 (Array.getElem?_eq_some_iff.mp hu2').1 fun x1 x2 h₁ tk hx1 hx2 c1 c2 c3 c4 c5 c6 c7 => hQ _ h₁ tk ⟨rfl, c1, c2, c3.1, c4.1, ?_, c6, c7⟩
      have q1 : its.toArray[i]? = some x1 := hx1
      have q2 : its2.toArray[i]? = some x2 := hx2
      rw [hu'] at q1; cases q1
      rw [hu2'] at q2; cases q2
      exact c5
    · obtain ⟨rfl, c1, c2, c3, c4, c5, c6, c7⟩ := hr
      refine ⟨_, rfl, wpAny_letOwnedTupleGo_enum (s := { s with heap := h', toks := tk + 1 }) ho fun h'' he' sb => ?_⟩
      replace sb : Heap.SameBut e h' h'' := sb
      have hlt2 : e < h₁.objs.size := by rw [c6]; exact Nat.lt_succ_of_lt hel
      have hT2 : h''.get? h₁.objs.size = some { cls := .type "tuple", data := .seq #[.int i tk, .ref s.heap.objs.size] } := (sb.2 _ (Nat.ne_of_gt hlt2)).trans hT'
      have new1 : ObjOk X.prog X.w (upd H s.heap.objs.size (.tup [x, y])) h₁ s.heap.objs.size (.tup [x, y]) :=
        ⟨by show 2 ≤ sizeLine; decide, [u, u2], .cons ru (.cons ru2 .nil), ⟨_, c5, rfl, _, rfl⟩⟩
      have I1 : Inv X pins σ (upd H s.heap.objs.size (.tup [x, y])) { s with heap := h₁, toks := s.toks } :=
        I.turnedNew (t' := s.toks) (ch := [z, TO, i1, i2]) (fun c o hb q => c7 c o (fun q' => hb (by simp [q'])) (fun q' => hb (by simp [q'])) (fun q' => hb (by simp [q'])) (fun q' => hb (by simp [q'])) q) (fun c hcm => hf c (by
          have e' : c = z ∨ c = TO ∨ c = i1 ∨ c = i2 := by simpa using hcm
          rcases e' with q | q | q | q <;> simp [q])) (Nat.le_refl _) new1
      have new2 : ObjOk X.prog X.w (upd (upd H s.heap.objs.size (.tup [x, y])) h₁.objs.size (.tup [.int (i : Nat), .ref s.heap.objs.size])) h'' h₁.objs.size (.tup [.int (i : Nat), .ref s.heap.objs.size]) :=
        ⟨by show 2 ≤ sizeLine; decide, [.int i tk, .ref s.heap.objs.size], .cons ⟨_, rfl⟩ (.cons rfl .nil), ⟨_, hT2, rfl, _, rfl⟩⟩
      have I2 : Inv X pins σ (upd (upd H s.heap.objs.size (.tup [x, y])) h₁.objs.size (.tup [.int (i : Nat), .ref s.heap.objs.size])) { s with heap := h'', toks := tk + 1 } :=
        I1.turnedNew (t' := tk + 1) (ch := [e]) (fun c o hb q => (sb.2 c (fun q' => hb (by simp [q']))).trans (hk c o (fun q' => hb (by simp [q'])) q)) (fun c hcm => by
          have e' : c = e := by simpa using hcm
          subst e'
          have := hf c (by simp)
          exact ⟨by rw [upd_ne (Nat.ne_of_lt hel)]; exact this.1, this.2⟩) (Nat.le_refl _) new2
      have fr1 : H h₁.objs.size = none := I.hok.fresh (by rw [c6]; exact Nat.le_succ _)
      have up : ∀ c o, c ≠ e → h₁.get? c = some o → h''.get? c = some o := fun c o ce q => (sb.2 c ce).trans (hk c o ce q)
      obtain ⟨g0, g1, hz1, hff1⟩ := c1
      obtain ⟨b1, b2, hTO1⟩ := c2
      refine ⟨.ref h₁.objs.size, _, I2, rfl, ⟨s.heap.objs.size, h₁.objs.size, x, y, rfl, I.hok.fresh (Nat.le_refl _), fr1, by rw [c6]; exact Nat.succ_ne_self _, rfl, fun l hl => by rw [sq_inj I hl hqx]; exact hx, fun l hl => by rw [sq_inj I hl hqy]; exact hy⟩,
        ⟨⟨.ref s.heap.objs.size, ?_⟩, ⟨g0, g1, up _ _ (Ne.symm ez) hz1, hff1⟩, up _ _ (Ne.symm eTI) (c7 _ _ D.TIz D.TITO D.TIi1 D.TIi2 hTI), ⟨b1, b2, up _ _ (Ne.symm eTO) hTO1⟩, c3.at fun o q => up _ _ (Ne.symm e1) q, c4.at fun o q => up _ _ (Ne.symm e2) q⟩, fun c hcm => ?_⟩
      · have e1 : ((i + 1 : Nat) : Int) = (i : Int) + 1 := by omega
        rw [e1]; exact he'
      · have hlt : c < s.heap.objs.size := by
          have e' : c = e ∨ c = z ∨ c = TI ∨ c = TO ∨ c = i1 ∨ c = i2 := by simpa using hcm
          rcases e' with q | q | q | q | q | q
          · rw [q]; exact hel
          · rw [q]; exact Heap.lt_size hz
          · rw [q]; exact Heap.lt_size hTI
          · rw [q]; exact Heap.lt_size hTO
          · rw [q]; obtain ⟨_, e1, _⟩ := h1.get; exact Heap.lt_size e1
          · rw [q]; obtain ⟨_, e2, _⟩ := h2.get; exact Heap.lt_size e2
        rw [upd_ne (Nat.ne_of_lt (by rw [c6]; exact Nat.lt_succ_of_lt hlt)), upd_ne (Nat.ne_of_lt hlt)]
        exact (hf c hcm).1
  done := by
    intro X hP hw hK hc i pins s σ H E I hf st hg
    subst hP hw hK
    obtain ⟨⟨old, he⟩, ⟨f0, f1, hz, hff⟩, hTI, ⟨x0, y0, hTO⟩, h1, h2⟩ := st
    obtain ⟨xs, ys, hqx, hqy, l1, l2, hend⟩ := hg
    obtain ⟨its, rv, p, _⟩ := inv_sq I hqx
    obtain ⟨its2, rv2, p2, _⟩ := inv_sq I hqy
    have e1 : its.toArray.size = xs.length := by simp [rv.length]
    have e2 : its2.toArray.size = ys.length := by simp [rv2.length]
    have hh : X.A.in1.in1.handled = none := I.ok.hd hc
    exact pyNext_enumA_end (Ex := fun h' => ∀ c o, c ≠ z → c ≠ TO → c ≠ i1 → c ≠ i2 → s.heap.get? c = some o → h'.get? c = some o) he
      (fun Q E hE => nextOf_zipF_end D (draws_sq t hh i1 a ha1 its.toArray) (draws_sq t2 hh i2 b hb2 its2.toArray) hz hff hTI hTO ⟨h1, p⟩ ⟨h2, p2⟩ (by omega) (by omega) (by omega) fun h' tk x hk hx => hE h' tk x hk hx)
      fun h' tk hk => ⟨rfl, I.turnedL (t' := tk) (ch := [z, TO, i1, i2]) (fun c o hb q => hk c o (fun q' => hb (by simp [q'])) (fun q' => hb (by simp [q'])) (fun q' => hb (by simp [q'])) (fun q' => hb (by simp [q'])) q) fun c hcm => hf c (by
          have e' : c = z ∨ c = TO ∨ c = i1 ∨ c = i2 := by simpa using hcm
          rcases e' with q | q | q | q <;> simp [q])⟩
  self := fun A i s Q E st h => let ⟨⟨_, he⟩, _⟩ := st; wpAny_pyIter_enum he h

set_option maxHeartbeats 1000000 in
theorem meets_enumZ {z TI TO : Addr} :
    Meets (Builtin.«enumerate.__new__» ⟨[.type "enumerate", .ref z], []⟩) (fun _ R s => IsZip s.heap z TI TO .none ∧
      R (.ok (.ret (.ref s.heap.objs.size))) { s with heap := s.heap.push { cls := .type "enumerate", data := .fields #[.none, .bool false, .ref z, rawInt 0, .none, .none] } }) :=
  .of_wp fun prog w A R s h => by
    obtain ⟨hp, g, d, tk, os⟩ := s; obtain ⟨h1, h⟩ := h
    have hsub := sub_enumerate
    have q1 : ∀ {A' : Around} {E : Value → Shared → Prop} {Q : Value → Shared → Prop}, Q (.ref z) ⟨hp, g, d, tk, os⟩ → wpAny (model prog w) A' (pyIter (.ref z)) Q E ⟨hp, g, d, tk, os⟩ :=
      fun q => wpAny_pyIter_zip h1 q
    wp_walk using q1
    refine wpAny_stack_any fun st => wpAny_pure ?_
    split
    · rename_i c _ _ _ _ _
      cases (c == Value.type "enumerate")
      · wp_walk using q1
        exact ⟨_, rfl, h⟩
      · wp_walk using q1
        exact ⟨_, rfl, h⟩
    · wp_walk using q1
      exact ⟨_, rfl, h⟩
theorem call_enumZ {prog : Program} {w : World} {A : Around} {E : Value → Shared → Prop} {s : Shared} {z TI TO : Addr} {Q : Value → Shared → Prop} (hz : IsZip s.heap z TI TO .none)
    (h : ∀ h', IsEnum h' s.heap.objs.size z 0 .none → h'.objs.size = s.heap.objs.size + 1 → (∀ b o, s.heap.get? b = some o → h'.get? b = some o) → Q (.ref s.heap.objs.size) { s with heap := h' }) :
    wpAny (model prog w) A (call (.type "enumerate") [.ref z]) Q E s := by
  refine callType_new F.called_enumerate (by decide) (F.typeCall_enumerate_1 _) (F.newCall_enumerate_1 _) (fun obj => F.args_object_init_2 obj _) F.entry_enumerate_new
    (meets_enumZ (z := z)) ⟨hz, ?_⟩
  have he : IsEnum (s.heap.push { cls := .type "enumerate", data := .fields #[.none, .bool false, .ref z, rawInt 0, .none, .none] }) s.heap.objs.size z 0 .none := Heap.get?_push_size _ rfl
  exact ⟨⟨_, he, rfl⟩, h _ he (by rw [Heap.size_push]) fun b o x => Heap.get?_push_of_some _ x⟩
def iEzipB (K : PySem.W.Frag) (ta : TA) : TI := fun σ H R => ta σ H fun vs H1 => ∃ a b t t2 xs ys, vs = [.ref a, .ref b] ∧ SqB K t H1 a xs ∧ SqB K t2 H1 b ys ∧ R (ItezB K t t2 a b) H1
theorem pi_ezipB {X : Cx} {e e2 : Expr} {ta : TA} {p p2 pos pos2 tpos : Pos} {elts : List Expr} {kk : Nat} (hg : Gl X "enumerate") (hm : X.mg "enumerate" = none) (hg2 : Gl X "zip") (hm2 : X.mg "zip" = none) (ha : PA X [e, e2] ta)
    (hs : starEach [e, e2] X.env = (false, eval e X.env) :: starEach [e2] X.env := by rfl) (hpl : (backTo pos2 (starEach [e2] X.env)).any (·.1) = false := by rfl)
    (nc : starEach [.Call (.Name "zip" p2) [e, e2] [] pos2] X.env = (false, eval (.Call (.Name "zip" p2) [e, e2] [] pos2) X.env) :: starEach [] X.env := by rfl) :
    PI X (.Tuple elts kk tpos) (.Call (.Name "enumerate" p) [.Call (.Name "zip" p2) [e, e2] [] pos2] [] pos) (iEzipB X.K ta) := by
  refine ⟨fun pins s σ H R I h => ?_⟩
  refine Call_ (ld_blt I hg hm boot_enumerate (PyProof.Rows.callWith_type1 (args_cons (Call_ (ld_blt I hg2 hm2 PyProof.Rows.boot_zip (PyProof.Rows.callWith_type1 (thn (ha.run pos2 pins s σ H _ I h) fun us s1 ⟨vs, H1, I1, r1, q1⟩ => ?_) hs hpl))) nc) nc))
  obtain ⟨a, b, t, t2, xs, ys, ex, hqx, hqy, q⟩ := q1
  subst ex
  cases r1 with
  | cons r rr =>
    cases rr with
    | cons r' rr =>
      cases rr
      cases r
      cases r'
      obtain ⟨its, rv, p1, la⟩ := inv_sq I1 hqx
      obtain ⟨its2, rv2, p2, lb⟩ := inv_sq I1 hqy
      refine zip_begins2 (begins_sq t a its.toArray) (begins_sq t2 b its2.toArray) p1 p2 fun h' hz hTI hTO h1 h2 hsz hk => args_nil ?_
      refine call_enumZ (s := { s1 with heap := h' }) hz fun h'' he hsz2 hk2 => wpAny_pyIter_enum he ?_
      have I2 : Inv X pins σ H1 { s1 with heap := h'' } := I1.kept (t' := s1.toks) fun b o z => hk2 b o (hk b o z)
      have hN : h'.objs.size = s1.heap.objs.size + 5 := hsz
      refine ⟨h'.objs.size, [h'.objs.size, s1.heap.objs.size + 4, s1.heap.objs.size + 2, s1.heap.objs.size + 3, s1.heap.objs.size, s1.heap.objs.size + 1], _, _, H1, rfl, I2,
        turn_ezipB (sepB la lb) (Nat.ne_of_lt la) (Nat.ne_of_lt (Nat.lt_succ_of_lt lb)) ?_ ?_ ?_ ?_ ?_, ⟨⟨.none, he⟩, ⟨.none, .bool false, hk2 _ _ hz, .inl rfl, false, rfl⟩, hk2 _ _ hTI, ⟨_, _, hk2 _ _ hTO⟩, isIt_new (hk2 _ _ h1), isIt_new (hk2 _ _ h2)⟩, fun c hcm => ?_, q⟩
      · rw [hN]; exact Nat.succ_ne_self _
      · intro z; have z : (h'.objs.size : Nat) = s1.heap.objs.size + 2 := z; omega
      · intro z; have z : (h'.objs.size : Nat) = s1.heap.objs.size + 3 := z; omega
      · intro z; have z : (h'.objs.size : Nat) = s1.heap.objs.size := z; omega
      · intro z; have z : (h'.objs.size : Nat) = s1.heap.objs.size + 1 := z; omega
      have e' : c = h'.objs.size ∨ c = s1.heap.objs.size + 4 ∨ c = s1.heap.objs.size + 2 ∨ c = s1.heap.objs.size + 3 ∨ c = s1.heap.objs.size ∨ c = s1.heap.objs.size + 1 := by simpa using hcm
      have hle : s1.heap.objs.size ≤ c := by
        rcases e' with z | z | z | z | z | z
        · rw [z, hN]; exact Nat.le_add_right _ _
        · rw [z]; exact Nat.le_add_right _ _
        · rw [z]; exact Nat.le_add_right _ _
        · rw [z]; exact Nat.le_add_right _ _
        · rw [z]; exact Nat.le_refl _
        · rw [z]; exact Nat.le_add_right _ _
      exact I1.fpOk hle (I1.hok.fresh hle)

/-! ### over data -/
section
variable {K : PySem.W.Frag} {Jd : JT} {B H : Hp} {a b : Addr} {t t2 : Bool} {ds es : List D}
theorem itezB_at {xs ys : List V} (s : Same B H) (w : Own Jd B H) (hq : SqB K t H a xs) (r : Reps K B ds xs) (hq2 : SqB K t2 H b ys) (r2 : Reps K B es ys) (i : Nat) : ItAt K Jd (ItezB K t t2 a b) B H (enumD (zipD ds es)) i := by
  have hl := r.len
  have hl2 := r2.len
  refine ⟨fun e => ⟨xs, ys, hq, hq2, ?_, ?_, ?_⟩, fun d hd => ?_⟩
  · rw [enumD_len] at e; unfold zipD at e; rw [List.length_zipWith] at e; omega
  · rw [enumD_len] at e; unfold zipD at e; rw [List.length_zipWith] at e; omega
  · rw [enumD_len] at e; unfold zipD at e; rw [List.length_zipWith] at e; omega
  · rw [enumD_get] at hd
    unfold zipD at hd
    rw [List.getElem?_zipWith] at hd
    cases hd0 : ds[i]? with
    | none => rw [hd0] at hd; cases hd
    | some d0 =>
      cases he0 : es[i]? with
      | none => rw [hd0, he0] at hd; cases hd
      | some e0 =>
        rw [hd0, he0] at hd
        cases hd
        obtain ⟨v, hv, rv⟩ := r.get hd0
        obtain ⟨u, hu, ru⟩ := r2.get he0
        refine ⟨⟨xs, ys, v, u, hq, hq2, hv, hu⟩, fun x H2 y => ?_⟩
        obtain ⟨p, p2, x', y', rfl, n, n2, np, rfl, y1, y2⟩ := y
        have e1 := y1 xs hq
        rw [hv] at e1; cases e1
        have e2 := y2 ys hq2
        rw [hu] at e2; cases e2
        obtain ⟨B2, g2, w2, rp⟩ := pair_new (K := K) (d := d0) (e := e0) n s w rv ru
        have n3 : upd H p (.tup [v, u]) p2 = none := by rw [upd_ne np]; exact n2
        obtain ⟨B3, g3, w3, rp3⟩ := pair_new (K := K) (d := .int (i : Nat)) (e := .tup [d0, e0]) (x := .int (i : Nat)) n3 g2.bh w2 (by rw [Rep]) rp
        exact ⟨B3, g2.trans g3, w3, rp3⟩
end
section
variable {X : Cx} {e a b c tg iter elt : Expr} {es ifs : List Expr} {pos p : Pos} {st : Stmt} {rest body : List Stmt}
/-- for over enumerate(zip(x, y)): x known -/
def wfEzip (wa : DA) : DIF := fun δ k => wa δ fun xs => ∃ x d δ' ds es, ((xs = [.c d, x] ∧ itemsD d = some ds) ∧ items δ x = some (δ', es)) ∧ k δ' (enumD (zipD ds es))
theorem dif_ezip {wa : DA} {elts : List Expr} {kk : Nat} {tpos p2 pos2 : Pos} (hg : Gl X "enumerate") (hm : X.mg "enumerate" = none) (hg2 : Gl X "zip") (hm2 : X.mg "zip" = none) (ha : Da X [a, b] wa)
    (hs : starEach [a, b] X.env = (false, eval a X.env) :: starEach [b] X.env := by rfl) (hpl : (backTo pos2 (starEach [b] X.env)).any (·.1) = false := by rfl)
    (nc : starEach [.Call (.Name "zip" p2) [a, b] [] pos2] X.env = (false, eval (.Call (.Name "zip" p2) [a, b] [] pos2) X.env) :: starEach [] X.env := by rfl) :
    Dif X (.Tuple elts kk tpos) (.Call (.Name "enumerate" p) [.Call (.Name "zip" p2) [a, b] [] pos2] [] pos) (wfEzip wa) := by
  obtain ⟨ta, pa, va⟩ := ha.ex
  refine ⟨_, pi_ezipB hg hm hg2 hm2 pa hs hpl nc, ?_⟩
  intro J B0 H0 B H σ δ e k h R q
  refine va e _ h _ fun xs vs B1 H1 h1 g1 w1 r1 => ?_
  obtain ⟨x, d, δ', ds, es, ⟨⟨rfl, hi2⟩, hi⟩, h1⟩ := h1
  obtain ⟨v, r, rfl, q1, ⟨v2, r2, rfl, q3, q4, _⟩, _⟩ := r1
  cases (show r2 = [] from q4)
  have q1 : Rep X.K B1 d v := q1
  obtain ⟨b, t2, rfl, hb⟩ := rep_items q1 hi2
  obtain ⟨B2, a, xs, e2, rfl, hx, rr, sm⟩ := items_okS e g1 w1 q3 hi
  obtain ⟨t, hq⟩ : ∃ t, SqB X.K t B2 a xs := hx.elim (fun h => ⟨false, h⟩) fun h => ⟨true, h⟩
  obtain ⟨ys, hq2, rr2⟩ := hb.mono sm
  exact ⟨b, a, t2, t, ys, xs, rfl, hq2.mono e2.bh, hq.mono e2.bh, q _ _ _ B2 H1 h1 e2 fun B' H' s s' w i => itezB_at s' w ((hq2.mono s).mono s') (rr2.mono s) ((hq.mono s).mono s') (rr.mono s) i⟩
end
end Dl
/-! max of a tuple or a list of ints -/
namespace Dl
open PySem PySem.Spec PyProof.Rows L2
section
variable {prog : Program} {w : World} {A : Around} {E : Value → Shared → Prop} {s : Shared} {l : Addr} {xs : Array (Int × Tok)}
theorem max_intTuple {Q : Value → Shared → Prop} (hh : A.handled = none) (hl : s.heap.IsTuple l (intItems xs)) (hne : 0 < xs.size)
    (h : ∀ v h' tk, (intItems xs)[argBest (fun i j => decide (numAt xs i > numAt xs j)) (xs.size - 1)]? = some v → (∀ b o, s.heap.get? b = some o → h'.get? b = some o) → Q v { s with heap := h', toks := tk }) :
    wpAny (model prog w) A (call (.builtin "max") [.ref l]) Q E s := by
  have hlt : l < s.heap.objs.size := by obtain ⟨_, e, _⟩ := hl; exact Heap.lt_size e
  refine call_max_walk (wpAny_pyIter_tuple hl ?_)
  refine ⟨_, _, _, _, _, _, _, rfl, Walks.tuple (A := A.in1) hh _ l (Nat.ne_of_lt hlt) (intItems xs), ⟨⟨_, Heap.get?_push_size _ rfl, rfl, rfl⟩, hl.push _⟩, fun b hb => ?_, by simpa [intItems] using hne, CmpOf.ints_gt (numAt xs) (fun _ _ => intItems_at), fun v h' tk hP hk => ?_⟩
  · show b < (s.heap.push _).objs.size
    rw [Heap.size_push]
    rcases List.mem_cons.mp hb with rfl | hb
    · exact Nat.lt_succ_self _
    · rcases List.mem_cons.mp hb with rfl | hb
      · exact Nat.lt_succ_of_lt hlt
      · cases hb
  · refine h v h' tk (by simpa [intItems] using hP) fun b o e => hk b o (fun hm => ?_) (Heap.get?_push_of_some _ e)
    rcases List.mem_cons.mp hm with e1 | hm
    · exact absurd (e1 ▸ Heap.lt_size e) (Nat.lt_irrefl _)
    · cases hm
theorem max_rawT {its : List Value} {ns : List Int} {Q : Value → Shared → Prop} (hh : A.handled = none) (hl : s.heap.IsTuple l its.toArray) (hi : IntsAre its ns) (hne : 0 < ns.length)
    (h : ∀ h' tk M t', (∀ b o, s.heap.get? b = some o → h'.get? b = some o) → M ∈ ns → (∀ a, a ∈ ns → a ≤ M) → Q (.int M t') { s with heap := h', toks := tk }) : wpAny (model prog w) A (call (.builtin "max") [.ref l]) Q E s := by
  obtain ⟨xs, e⟩ := hi.allInts.items
  have hn : numsOf (intItems xs).toList = ns := by rw [← e]; exact hi.numsOf
  rw [nums_intItems] at hn
  subst hn
  rw [e] at hl
  have hsz : 0 < xs.size := by simpa using hne
  refine max_intTuple hh hl hsz fun v h' tk hv hk => ?_
  obtain ⟨t, rfl⟩ := intItems_at hv
  obtain ⟨h1, h2⟩ := argBest_gt (numAt xs) (xs.size - 1)
  refine h h' tk _ t hk ?_ fun a ha => ?_
  · rw [numAt_eq]; exact PySem.getD_mem (by rw [List.length_map, Array.length_toList]; omega)
  · obtain ⟨j, hj, rfl⟩ := mem_getD ha
    rw [List.length_map, Array.length_toList] at hj
    rw [← numAt_eq]; exact h2 j (by omega)
end
section
variable {X : Cx}
def rMaxT (K : PySem.W.Frag) : List V → Hp → VK → Prop := fun vs H Q => ∃ (a : Addr) (ns : List Int), vs = [V.ref a] ∧ SqT K H a (ns.map V.int) ∧ 0 < ns.length ∧ ∀ m, m ∈ ns → (∀ y, y ∈ ns → y ≤ m) → Q (.int m) H
theorem cr_maxT (hc : X.calm = true) : CallR X (.builtin "max") (rMaxT X.K) := by
  intro pins s σ H vs us Q I r h
  obtain ⟨a, ns, rfl, hs, hne, q⟩ := h
  obtain ⟨its, rv, hl, _⟩ := I.tuple hs
  rw [Vals.ref1 r]
  exact max_rawT (I.ok.hd hc) (show s.heap.IsTuple a its.toArray from hl) (intsAre_of rv) hne fun h' tk m t' hk h1 h2 => ⟨.int _, H, I.kept hk, ⟨_, rfl⟩, q m h1 h2⟩
/-- the greatest of some ints, told by what it is -/
def cMax1 : RcD := fun ds k => match ds with
  | [.tup xs] => ∃ ns : List Int, xs = ns.map .int ∧ ns ≠ [] ∧ ∀ m, m ∈ ns → (∀ y ∈ ns, y ≤ m) → k (.c (.int m))
  | _ => False
theorem dc_max1 {K : PySem.W.Frag} : DCall K (rMaxT K) cMax1 := by
  intro J B H ds k vs Q h s w t q
  unfold cMax1 at h
  split at h
  · obtain ⟨ns, rfl, hne, h⟩ := h
    obtain ⟨v, rfl, t1⟩ := ts1 t
    obtain ⟨a, xs, rfl, aB, aH, ra⟩ := t1.tup s
    have : xs = ns.map V.int := reps_ints_eq ra
    subst this
    exact ⟨a, ns, rfl, aH, List.length_pos_iff.mpr hne, fun m h1 h2 => fin_c (h m h1 h2) s w (by rw [Rep]) q⟩
  · exact h.elim
end
end Dl
/-! x.append(y.pop(e)); xs.count(k); len(set(xs)); sorted(xs) -/
namespace Dl
open PySem PySem.Spec PyProof.Rows L2
theorem Reps.eraseIdx {K : PySem.W.Frag} {B : Hp} : ∀ {ds : List D} {vs : List V} (k : Nat), Reps K B ds vs → Reps K B (ds.eraseIdx k) (vs.eraseIdx k)
  | [], _, _, h => by rw [Reps] at h; subst h; exact .nil
  | d :: ds, _, 0, h => by rw [Reps] at h; obtain ⟨x, r, rfl, h1, h2⟩ := h; exact h2
  | d :: ds, _, k + 1, h => by rw [Reps] at h; obtain ⟨x, r, rfl, h1, h2⟩ := h; exact .cons h1 (h2.eraseIdx k)
theorem seqIx {k n : Nat} (h : k < n) : seqIndex? (k : Int) n = some k := by
  unfold seqIndex?
  have h1 : ¬ (k : Int) < 0 := by omega
  have h2 : (k : Int) < (n : Int) := by omega
  simp only [h1, if_false]
  rw [if_pos (by simp [h2])]
  rfl
section
variable {X : Cx} {e a b c tg iter elt : Expr} {es ifs : List Expr} {pos p : Pos} {st : Stmt} {rest body : List Stmt}
/-- x.append(y.pop(e)), e from 0 on -/
def wAppPopAt (i j : Nat) (wa : DE) : DS := fun R δ => i ≠ j ∧ ∃ ds es, δ[i]? = some (.own ds) ∧ δ[j]? = some (.own es) ∧ ds.length < 100000 ∧ es.length ≤ 100000 ∧ wa δ fun y => ∃ k : Nat, ∃ d, y = .c (.int k) ∧ es[k]? = some d ∧ R.nx ((δ.set j (.own (es.eraseIdx k))).set i (.own (ds ++ [d])))
theorem ds_appPopAt {i j : Nat} {x y : Str} {px py apos cpos apos2 cpos2 : Pos} {wa : DE} (hN : X.N[i]? = some x) (hv : Vis X.env.scope x) (hN2 : X.N[j]? = some y) (hv2 : Vis X.env.scope y) (ha : De X e wa)
    (hd : (x == ("__debug__" : Str)) = false := by decide) (hcd : (x == ("__classdict__" : Str)) = false := by decide) (hd2 : (y == ("__debug__" : Str)) = false := by decide) (hcd2 : (y == ("__classdict__" : Str)) = false := by decide)
    (hbase : attributeBase (.Name x px) "append" X.env (eval (.Name x px) X.env) = eval (.Name x px) X.env := by rfl)
    (hbase2 : attributeBase (.Name y py) "pop" X.env (eval (.Name y py) X.env) = eval (.Name y py) X.env := by rfl)
    (hfew : ((backTo cpos (starEach [.Call (.Attribute (.Name y py) "pop" apos2) [e] [] cpos2] X.env)).all (fun x => !x.1) && (backToKw cpos (keywordEach [] X.env)).all (fun x => x.1.isSome)
      && decide (([.Call (.Attribute (.Name y py) "pop" apos2) [e] [] cpos2] : List Expr).length + ([] : List Keyword).length + (if ([] : List Keyword).isEmpty then 0 else 1) < 30)) = true := by rfl)
    (hfew2 : ((backTo cpos2 (starEach [e] X.env)).all (fun x => !x.1) && (backToKw cpos2 (keywordEach [] X.env)).all (fun x => x.1.isSome)
      && decide ([e].length + ([] : List Keyword).length + (if ([] : List Keyword).isEmpty then 0 else 1) < 30)) = true := by rfl)
    (hline : (apos.endLine == cpos.line) = true := by rfl) (hline2 : (apos2.endLine == cpos2.line) = true := by rfl) (hs : starEach [.Call (.Attribute (.Name y py) "pop" apos2) [e] [] cpos2] X.env = (false, eval (.Call (.Attribute (.Name y py) "pop" apos2) [e] [] cpos2) X.env) :: starEach [] X.env := by rfl)
    (hs2 : starEach [e] X.env = (false, eval e X.env) :: starEach [] X.env := by rfl) (hplain : (backTo cpos (starEach [] X.env)).any (·.1) = false := by rfl) (hplain2 : (backTo cpos2 (starEach [] X.env)).any (·.1) = false := by rfl)
    (hsw : swapsWith (.Call (.Attribute (.Name x px) "append" apos) [.Call (.Attribute (.Name y py) "pop" apos2) [e] [] cpos2] [] cpos) none pos.line X.env = pure false := by rfl) :
    Ds X (.Expr (.Call (.Attribute (.Name x px) "append" apos) [.Call (.Attribute (.Name y py) "pop" apos2) [e] [] cpos2] [] cpos) pos) (wAppPopAt i j wa) := by
  obtain ⟨ta, pa, va⟩ := ha.ex
  refine ⟨_, ps_expr (pe_bm PySem.F.plainAttrs_list PySem.F.slot_list_append PySem.F.type_list_append mt_append (pv i hN hv hd hcd) (pa_cons (pe_bm PySem.F.plainAttrs_list PySem.F.slot_list_pop PySem.F.type_list_pop mt_popAt (pv j hN2 hv2 hd2 hcd2) (pa_cons pa pa_nil hs2) hbase2 hfew2 hline2 hs2 hplain2) pa_nil hs) hbase hfew hline hs hplain) hsw, ?_⟩
  intro J B0 H0 B H σ δ e R h En F
  obtain ⟨nij, ds, es, hi, hj, hl, hl2, h⟩ := h
  obtain ⟨a, xs, h1, h2, h3, h4, h5, h6⟩ := e.ownJ hi
  obtain ⟨b, ys, k1, k2, k3, k4, k5, k6⟩ := e.ownJ hj
  have nab : a ≠ b := fun z => e.ap i j ds es a nij hi hj h1 (by rw [z]; exact k1)
  refine ⟨_, h1, .inl ⟨rfl, _, SqL.of h4⟩, _, k1, .inl ⟨rfl, _, SqL.of k4⟩, va e _ h _ fun z u B1 H1 q1 g1 w1 r1 => ?_⟩
  obtain ⟨k, d, rfl, hk, q1⟩ := q1
  cases rv_int r1
  have e1 := e.step g1 w1
  have hH4 : H1 a = some (.lst xs) := g1.hh a _ h6 h4
  have hK4 : H1 b = some (.lst ys) := g1.hh b _ k6 k4
  have k5' := k5.mono g1.bb
  have h5' := h5.mono g1.bb
  obtain ⟨v, hv, rv⟩ := k5'.get hk
  have hlt : k < ys.length := (List.getElem?_eq_some_iff.mp hv).1
  have hly : ys.length ≤ 100000 := by rw [k5.len]; exact hl2
  refine ⟨b, ys, (k : Int), k, v, rfl, rfl, hK4, by omega, by omega, ?_, hv, ?_⟩
  · exact seqIx hlt
  have e2 := e1.change hj k1 hK4 (k5'.eraseIdx k)
  have hH1 : upd H1 b (.lst (ys.eraseIdx k)) a = some (.lst xs) := by rw [upd_ne nab]; exact hH4
  refine ⟨a, xs, v, rfl, rfl, hH1, Nat.lt_of_lt_of_le (by rw [h5.len]; exact hl) (by decide : 100000 ≤ sizeLine), F.nx (B := B1) q1 ?_⟩
  exact e2.change (by rw [List.getElem?_set_ne (Ne.symm nij)]; exact hi) h1 hH1 (h5'.append (.cons rv .nil))
/-- xs.count(k), of ints -/
def wCount (wa wb : DE) : DE := fun δ k => wa δ fun x => ∃ ns : List Int, rd δ x = some (.lst (ns.map .int)) ∧ wb δ fun y => ∃ i : Int, y = .c (.int i) ∧ k (.c (.int (ns.count i : Nat)))
theorem de_count {wa wb : DE} {apos cpos : Pos} (ha : De X a wa) (hb : De X b wb)
    (hbase : attributeBase a "count" X.env (eval a X.env) = eval a X.env := by rfl)
    (hfew : ((backTo cpos (starEach [b] X.env)).all (fun x => !x.1) && (backToKw cpos (keywordEach [] X.env)).all (fun x => x.1.isSome)
      && decide ([b].length + ([] : List Keyword).length + (if ([] : List Keyword).isEmpty then 0 else 1) < 30)) = true := by rfl)
    (hline : (apos.endLine == cpos.line) = true := by rfl) (hs : starEach [b] X.env = (false, eval b X.env) :: starEach [] X.env := by rfl) (hplain : (backTo cpos (starEach [] X.env)).any (·.1) = false := by rfl) :
    De X (.Call (.Attribute a "count" apos) [b] [] cpos) (wCount wa wb) := by
  obtain ⟨ta, pa, va⟩ := ha.ex
  obtain ⟨tb, pb, vb⟩ := hb.ex
  refine ⟨_, pe_bm PySem.F.plainAttrs_list PySem.F.slot_list_count PySem.F.type_list_count mt_lcount pa (pa_cons pb pa_nil hs) hbase hfew hline hs hplain, ?_⟩
  intro J B0 H0 B H σ δ e k h Q q
  refine va e _ h _ fun x v B1 H1 h1 g1 w1 r1 => ?_
  have e1 := e.step g1 w1
  obtain ⟨ns, hr, h1⟩ := h1
  have tx := r1.toT e1 e.nod hr
  obtain ⟨l, xs, rfl, hH, rr⟩ := tx.lst e1.bh
  refine ⟨.inl ⟨rfl, _, SqL.of hH⟩, vb e1 _ h1 _ fun y u B2 H2 h2 g2 w2 r2 => ?_⟩
  obtain ⟨i, rfl, h2⟩ := h2
  cases rv_int r2
  have e2 := e1.step g2 w2
  obtain ⟨l', xs', el, hH2, rr2⟩ := (tx.step g2).lst e2.bh
  cases el
  have : xs' = ns.map V.int := reps_ints_eq rr2
  subst this
  exact ⟨l, ns, i, rfl, rfl, SqL.of hH2, q _ _ B2 H2 h2 (g1.trans g2) w2 (by show Rep _ _ _ _; rw [Rep])⟩
/-- len(set(xs)), xs ints, none twice -/
def wLenSet (wa : DE) : DE := fun δ k => wa δ fun x => ∃ ns : List Int, rd δ x = some (.lst (ns.map .int)) ∧ ns.Nodup ∧ ns.length ≤ 4000 ∧ k (.c (.int (ns.length : Nat)))
theorem de_lenSet {wa : DE} {p p2 q pos : Pos} (hg : Gl X "len") (hm : X.mg "len" = none) (hg2 : Gl X "set") (hm2 : X.mg "set" = none) (ha : De X a wa) (hc : X.calm = true := by rfl)
    (na : starEach [a] X.env = (false, eval a X.env) :: starEach [] X.env := by rfl) : De X (.Call (.Name "len" p) [.Call (.Name "set" p2) [a] [] q] [] pos) (wLenSet wa) := by
  obtain ⟨ta, pa, va⟩ := ha.ex
  refine ⟨_, RZ.pe_lenSetI hg hm hg2 hm2 pa hc na, ?_⟩
  intro J B0 H0 B H σ δ e k h Q q
  refine va e _ h _ fun x v B1 H1 h1 g1 w1 r1 => ?_
  obtain ⟨ns, hr, hnd, hl, h1⟩ := h1
  have e1 := e.step g1 w1
  obtain ⟨l, xs, rfl, hH, rr⟩ := (r1.toT e1 e.nod hr).lst e1.bh
  have : xs = ns.map V.int := reps_ints_eq rr
  subst this
  exact ⟨l, ns, rfl, SqL.of hH, hnd, hl, q _ _ B1 H1 h1 g1 w1 (by show Rep _ _ _ _; rw [Rep])⟩
/-- sorted(xs) of fewer than 64 ints -/
def cSorted : RcD := fun ds k => match ds with
  | [.lst xs] => ∃ ns : List Int, xs = ns.map .int ∧ ns.length < 64 ∧ ∀ ns' : List Int, ns'.Perm ns → ns'.Pairwise (· ≤ ·) → k (.f (ns'.map .int))
  | _ => False
theorem dc_sorted {K : PySem.W.Frag} : DCall K (rSorted K) cSorted := by
  intro J B H ds k vs Q h s w t q
  unfold cSorted at h
  split at h
  · obtain ⟨ns, rfl, hl, h⟩ := h
    obtain ⟨v, rfl, t1⟩ := ts1 t
    obtain ⟨a, xs, rfl, aH, ra⟩ := t1.lst s
    have : xs = ns.map V.int := reps_ints_eq ra
    subst this
    exact ⟨a, ns, rfl, SqL.of aH, hl, fun ns' p h1 h2 hp => fin_lst hp (h ns' h1 h2) s w (reps_ints ns') q⟩
  · exact h.elim
end
end Dl
/-! x is True, x is False -/
namespace Dl
open PySem PySem.Spec PyProof.Rows L2
def isV (b : Bool) : D → Bool
  | .bl c => c == b
  | _ => false
def rIsB : R2D := fun d e k => match e with
  | .bl b => k (.c (.bl (isV b d)))
  | .non => k (.c (.bl (isNone d)))
  | _ => False
theorem op_isB {X : Cx} : OpR X (compareOp .Is) (fun x y H Q => ∃ b, y = .bl b ∧ Q (.bl (decide (x = .bl b))) H) := by
  intro pins s σ H x y v u Q I rx ry h
  obtain ⟨b, rfl, q⟩ := h
  cases (show u = Value.bool b from ry)
  have go : ∀ {c : Bool}, plainIs v (.bool b) = true → (v == Value.bool b) = c → c = decide (x = .bl b) → wpAny (model X.prog X.w) X.A (compareOp .Is v (.bool b)) (EP X pins σ Q) X.xe s := by
    intro c hp e1 e2
    refine wpAny_is_plain hp ⟨.bl c, H, I, by rw [e1]; rfl, by rw [e2]; exact q⟩
  cases x with
  | ref a => cases rx; exact go rfl rfl (by simp)
  | non => cases rx; exact go rfl rfl (by simp)
  | bl c =>
    cases (show v = Value.bool c from rx)
    exact go (c := c == b) rfl (by cases c <;> cases b <;> rfl) (by cases c <;> cases b <;> rfl)
  | int i => obtain ⟨t, rfl⟩ := rx; exact go rfl rfl (by simp)
  | str x => obtain ⟨t, rfl⟩ := rx; exact go rfl rfl (by simp)
  | byt x => obtain ⟨t, rfl⟩ := rx; exact go rfl rfl (by simp)
  | flt x => obtain ⟨t, rfl⟩ := rx; exact go rfl rfl (by simp)
  | ty n => cases rx; exact go rfl rfl (by simp)
theorem isV_V {K : PySem.W.Frag} {J : JT} {B H : Hp} {d : D} {v : V} {b : Bool} (h : RepT K J B H d v) : decide (v = .bl b) = isV b d := by
  rcases h with h | ⟨ds, a, xs, rfl, rfl, _⟩
  · cases d <;> rw [Rep] at h
    case non => subst h; rfl
    case bl c => subst h; cases c <;> cases b <;> rfl
    case int => subst h; rfl
    case str => subst h; rfl
    case ty => subst h; rfl
    case lst => obtain ⟨a, xs, rfl, _⟩ := h; rfl
    case tup => obtain ⟨a, xs, rfl, _⟩ := h; rfl
    case frl => obtain ⟨a, xs, rfl, _⟩ := h; rfl
    case emp => obtain ⟨a, rfl, _⟩ := h; rfl
    case rng => obtain ⟨a, rfl, _⟩ := h; rfl
    case dct => obtain ⟨a, xs, rfl, _⟩ := h; rfl
  · rfl
theorem dop_isB {K : PySem.W.Frag} : DOp K (fun x y H Q => (y = .non ∧ Q (.bl (decide (x = .non))) H) ∨ ∃ b, y = .bl b ∧ Q (.bl (decide (x = .bl b))) H) rIsB := by
  intro J B H d e k x y Q h s w tx ty q
  unfold rIsB at h
  split at h
  · cases ty.bl
    exact .inr ⟨_, rfl, fin_c h s w (by rw [Rep, isV_V tx]) q⟩
  · cases ty.non
    exact .inl ⟨rfl, fin_c h s w (by rw [Rep, isNone_V tx]) q⟩
  · exact h.elim
theorem op_isA {X : Cx} : OpR X (compareOp .Is) (fun x y H Q => (y = .non ∧ Q (.bl (decide (x = .non))) H) ∨ ∃ b, y = .bl b ∧ Q (.bl (decide (x = .bl b))) H) := op_isN.or op_isB
end Dl
/-! set comprehensions of ints, sorted at once; sorted(set(xs)); ranges that are kept -/
namespace Dl
open PySem PySem.Spec PyProof.Rows L2
/-- one more, if it is not there -/
def addI (acc : List Int) (c : Int) : List Int := if c ∈ acc then acc else acc ++ [c]
abbrev SetI (w : World) (a : Addr) (acc : List Int) : HO := SetO w a (fun j => decide (j ∈ acc)) acc.length
/-- a heap of one kind of object -/
theorem some_heap (L : Addr) (vs : Array Value) : ∃ h : Heap, h.get? L = some { cls := .none, data := .fields vs } ∧ ∀ b x, h.get? b = some x → x = { cls := .none, data := .fields vs } := by
  refine ⟨{ objs := Array.replicate (L + 1) { cls := .none, data := .fields vs } }, ?_, fun b x hx => ?_⟩
  · unfold Heap.get?
    have e : (Array.replicate (L + 1) ({ cls := .none, data := .fields vs } : Obj))[L]? = some { cls := .none, data := .fields vs } := by simp
    rw [e]
  · unfold Heap.get? at hx
    by_cases hb : b < L + 1
    · have e : (Array.replicate (L + 1) ({ cls := .none, data := .fields vs } : Obj))[b]? = some { cls := .none, data := .fields vs } := by simp [hb]
      rw [e] at hx
      exact (Option.some.inj hx).symm
    · have e : (Array.replicate (L + 1) ({ cls := .none, data := .fields vs } : Obj))[b]? = none := Array.getElem?_eq_none (by rw [Array.size_replicate]; exact Nat.le_of_not_lt hb)
      rw [e] at hx
      cases hx
theorem pl0_set {w : World} {a : Addr} {acc : List Int} : Pl0 (SetI w a acc) := by
  refine ⟨fun _ z => (by cases z), fun c q z => ?_⟩
  unfold SetI SetO LamX.CodeO at z
  have z := HO.ext.inj z
  obtain ⟨h, hc, hall⟩ := some_heap c #[.none, .str q 0]
  have hs : SetR w h a (fun j => decide (j ∈ acc)) acc.length := by
    have e := congrFun z h
    rw [e]
    exact ⟨_, _, 0, hc, rfl, rfl⟩
  obtain ⟨o, es, ep, t, ho, _, hd, _⟩ := hs
  rw [hall a o ho] at hd
  cases hd
theorem mem_addI {acc : List Int} {c j : Int} : j ∈ addI acc c ↔ j ∈ acc ∨ j = c := by
  unfold addI
  split
  · exact ⟨.inl, fun h => h.elim id fun e => by rw [e]; assumption⟩
  · simp
theorem nodup_addI {acc : List Int} {c : Int} (h : acc.Nodup) : (addI acc c).Nodup := by
  unfold addI
  split
  · exact h
  · rw [List.nodup_append]
    exact ⟨h, by simp, fun a ha b hb => by
      simp at hb; subst hb
      intro e; subst e; contradiction⟩
theorem setI_step {w : World} {a : Addr} {acc : List Int} {c : Int} :
    SetO w a (fun j => decide (j ∈ acc) || decide (j = c)) (if decide (c ∈ acc) = true then acc.length else acc.length + 1) = SetI w a (addI acc c) := by
  unfold SetI
  congr 1
  · funext j
    rw [← Bool.decide_or]
    exact decide_eq_decide.mpr mem_addI.symm
  · unfold addI
    by_cases h : c ∈ acc
    · rw [if_pos (by simpa using h), if_pos h]
    · rw [if_neg (by simpa using h), if_neg h]; simp
section
variable {X : Cx}
theorem setI_new {w : World} {h : Heap} : SetR w (h.push { cls := .type "set", dict := none, data := .set #[] 0 (.fresh 0 0 (!w.params.followText "set-order")) }) h.objs.size (fun j => decide (j ∈ ([] : List Int))) 0 := by
  have z := setR_new_at (w := w) (h := h.push { cls := .type "set", dict := none, data := .set #[] 0 (.fresh 0 0 (!w.params.followText "set-order")) }) (a := h.objs.size) (ns := []) (Heap.get?_push_size _ rfl)
  simpa using z
theorem addI_runs {pins : List (Addr × Obj)} {σ : L2.St} {H : Hp} {s : Shared} {E : Value → Shared → Prop} {D : Addr} {acc : List Int} {c : Int} {t : Tok} {Q : Value → Shared → Prop}
    (iv : Inv X pins σ H s) (at_ : H D = some (SetI X.w D acc)) (few : acc.length + 1 < scanBound) (q : ∀ s', Inv X pins σ (upd H D (SetI X.w D (addI acc c))) s' → Q .none s') :
    wpAny (model X.prog X.w) X.A (call (.builtin "set.add") [.ref D, .int c t]) Q E s := by
  refine setR_add (setO_get iv at_) few fun h' but now => ?_
  refine q _ ?_
  rw [← setI_step]
  refine iv.write (e := D) (t' := s.toks + 1) (by rw [at_]; trivial) (.inl rfl) (fun b u nb hu => (but.2 b nb).trans hu) ?_ (setO_new now)
  obtain ⟨o, _, _, _, ho, _⟩ := now
  exact ⟨o, ho⟩
/-- the reading of {elt for target in iter if ..}, of ints -/
def tSi (w : World) (wi : TI) (g : TG) (tt : TT) (te : TE) (vs : List Nat) : TE := fun σ H Q => wi σ H fun It H1 => ∀ D, H1 D = none → ∃ W : Nat → Nat → Hp → Prop, (∃ m, W 0 m (upd H1 D (SetI w D []))) ∧
  ∀ i m H, W i m H → (It.stop i H ∧ Q (.ref D) H) ∨ (It.go i H ∧ ∃ Nx : Hp → Prop, (∀ H', Nx H' → ∃ m', m' < m ∧ W (i + 1) m' H') ∧
    ∀ x H', It.yld i H x H' → g x (wipe σ vs) H' fun σ2 H2 => wipe σ2 vs = wipe σ vs ∧ tt σ2 H2 fun b H3 =>
      if b = true then te σ2 H3 fun y H4 => ∃ c acc, y = .int c ∧ H4 D = some (SetI w D acc) ∧ acc.length + 1 < scanBound ∧ Nx (upd H4 D (SetI w D (addI acc c))) else Nx H3)
variable {elt tg iter : Expr} {ifs : List Expr} {scope : Scope} {own : List (Str × Nat)} {pos : Pos} {wi : TI} {g : TG} {tt : TT} {te : TE}
/-- what is known of the parts of a block, in whatever block -/
structure InBlk (X : Cx) (scope : Scope) (tg elt : Expr) (ifs : List Expr) (g : TG) (tt : TT) (te : TE) : Prop where
  tg : ∀ (s : Shared) (H : Hp) (C : Addr) (cl : List (Str × Addr)) (fp : List Addr), PG (X.blk s H scope (compEnvC scope cl C X.env) fp) tg g
  tt : ∀ (s : Shared) (H : Hp) (C : Addr) (cl : List (Str × Addr)) (fp : List Addr), PTs (X.blk s H scope (compEnvC scope cl C X.env) fp) ifs tt
  te : ∀ (s : Shared) (H : Hp) (C : Addr) (cl : List (Str × Addr)) (fp : List Addr), PE (X.blk s H scope (compEnvC scope cl C X.env) fp) elt te
theorem pe_setI (calm : X.calm = true) (nd : X.N.Nodup) (walk : PI X tg iter wi) (blk : BlkOk X.N X.env.scope scope own) (P : InBlk X scope tg elt ifs g tt te) (hs : ∀ x, foldedSetIterable iter X.env x = pure x := by intro _; rfl) :
    PE X (.SetComp elt [⟨tg, iter, ifs, 0⟩] scope pos) (tSi X.w wi g tt te (own.map (·.2))) := by
  refine ⟨fun pins s σ H Q iv h => ?_⟩
  rw [PpSet.eval_SetComp]
  have cells : ∀ y ∈ scope.names, y.2 = .free → ∃ c, X.env.cells.lookup y.1 = some c := fun y hy e => (blk.free y hy e).elim (fun z => iv.ok.has _ (.inl z)) (fun z => iv.ok.has _ (.inr z))
  refine wpAny_comprehension_free (use := none) rfl hs (closure_ok cells) blk.kind (fun y hy e => by rw [blk.uniq y hy, e]) (thn (walk.run pins s σ H _ iv h) fun xv s1 gone => thn gone fun itv s2 come => ?_)
  obtain ⟨it, fp, tn, It, H2, rfl, iv2, turns, tn2, fps, rest⟩ := come
  refine PpSet.newSet_ok (newEnv_comp ?_)
  -- the set is at D, the block's own names at C
  let o0 : Obj := { cls := .type "set", dict := none, data := .set #[] 0 (.fresh 0 0 (!X.w.params.followText "set-order")) }
  let s3 : Shared := { s2 with heap := s2.heap.push o0 }
  let D := s2.heap.objs.size
  let C := s3.heap.objs.size
  let H3 := upd H2 D (SetI X.w D [])
  obtain ⟨W, ⟨m0, w0⟩, each⟩ := rest D (iv2.hok.fresh (Nat.le_refl _))
  have iv3 : Inv X pins σ H3 s3 := iv2.laid (t' := s2.toks) (fun b o e => Heap.get?_push_of_some _ e) (Nat.le_refl _) (setO_new setI_new)
  have lower : ∀ b ∈ fp, b < D := fun b hb => by
    obtain ⟨o, e, _⟩ := turns.obj _ _ tn2 b hb
    exact Heap.lt_size e
  have off : ∀ b ∈ fp, H3 b = none := fun b hb => by
    show upd H2 D _ b = none
    rw [upd_ne (Nat.ne_of_lt (lower b hb))]
    exact (fps b hb).1
  have fps3 : ∀ b ∈ fp, FpOk X pins H3 b ∧ b < C := fun b hb => by
    refine ⟨⟨off b hb, (fps b hb).2⟩, ?_⟩
    show b < (s2.heap.push o0).objs.size
    rw [Heap.size_push]
    exact Nat.lt_succ_of_lt (lower b hb)
  have iv4 := block_start iv3 blk nd fps3
  have hC : (compEnvC scope (cellsFrom (C + 1) scope.names (cloFrom X.env.cells scope.names [])) C X.env).locals = C := rfl
  have pg := P.tg s3 H3 C (cellsFrom (C + 1) scope.names (cloFrom X.env.cells scope.names [])) fp
  have pt := P.tt s3 H3 C (cellsFrom (C + 1) scope.names (cloFrom X.env.cells scope.names [])) fp
  have pe := P.te s3 H3 C (cellsFrom (C + 1) scope.names (cloFrom X.env.cells scope.names [])) fp
  revert iv4 pg pt pe hC
  show _ → _ → _ → _ → _ → codeAny _ _ (.compStart (.SetComp elt [⟨tg, iter, ifs, 0⟩] scope pos) 0 (.ref it) (.ref D) (compEnvC scope (cellsFrom (C + 1) scope.names (cloFrom X.env.cells scope.names [])) C X.env)) (compPost (model X.prog X.w) X.A X.xe none (EP X pins σ Q) (.ref D) C) { s3 with heap := pushCells (s3.heap.push { cls := .type "dict", data := .dict #[] }) scope.names }
  generalize compEnvC scope (cellsFrom (C + 1) scope.names (cloFrom X.env.cells scope.names [])) C X.env = ce
  intro iv4 hC pg pt pe
  have tn4 : tn 0 ({ s3 with heap := pushCells (s3.heap.push { cls := .type "dict", data := .dict #[] }) scope.names } : Shared).heap := turns.keep _ _ _ tn2 fun b _ o e => pushCells_keeps _ _ _ _ (Heap.get?_push_of_some _ (Heap.get?_push_of_some _ e))
  revert iv4 tn4
  generalize ({ s3 with heap := pushCells (s3.heap.push { cls := .type "dict", data := .dict #[] }) scope.names } : Shared) = s4
  intro iv4 tn4
  have still : ∀ {τ : L2.St} {K : Hp} {r : Shared}, Inv (X.blk s3 H3 scope ce fp) [] τ K r → (∀ b ∈ fp, K b = none) → ∀ b ∈ fp, FpOk (X.blk s3 H3 scope ce fp) [] K b := fun iv' no b hb =>
    ⟨no b hb, (iv'.ok.exf b hb).1, iv'.ok.exfs b hb, .inl hb, fun x c e => (iv'.ok.exf b hb).2 x c e, fun p hp => by simp [Cx.blk] at hp⟩
  have whole : codeAny (model X.prog X.w) X.A (.compLoop (.SetComp elt [⟨tg, iter, ifs, 0⟩] scope pos) 0 (.ref it) (.ref D) ce) (compPost (model X.prog X.w) X.A X.xe none (EP X pins σ Q) (.ref D) C) s4 := by
    refine PpSet.compLoopS_any (fun n r => ∃ i K, W i n K ∧ (∀ b ∈ fp, K b = none) ∧ tn i r.heap ∧ Inv (X.blk s3 H3 scope ce fp) [] (wipe σ (own.map (·.2))) K r) ?_ m0 ⟨0, H3, w0, off, tn4, iv4⟩
    rintro n r ⟨i, K, wK, noK, tnK, ivK⟩
    rcases each i n K wK with ⟨stop, fin⟩ | ⟨go, Nx, less, one⟩
    · refine thnF (turns.done (X.blk s3 H3 scope ce fp) rfl rfl rfl calm i [] r _ K (fun _ _ => False) ivK (still ivK noK) tnK stop) fun res r2 ⟨eres, ivr⟩ => ?_
      subst eres
      have ivX : Inv X pins σ K r2 := iv3.call' (ch := fp) ivr.os ivr.base ivr.hok ivr.bare fun b hb => by
        obtain ⟨⟨_, z1, z2, z3, z4, z5⟩, _⟩ := fps3 b hb
        exact ⟨z3, z1, z4, z5⟩
      have noC : K C = none := by
        have z : K ce.locals = none := ivr.free
        rwa [hC] at z
      obtain ⟨m, nsC, _⟩ := ivr.loc
      have nsC : r2.heap.Ns C m := by
        have z : r2.heap.Ns ce.locals m := nsC
        rwa [hC] at z
      obtain ⟨y0, y1, y2, y3, y4, y5⟩ := iv3.fpOk (Nat.le_refl _) noC
      exact ⟨m, nsC, fun h'' but => ⟨.ref D, K, ivX.turned (t' := r2.toks) (fun b o hb e => (but.2 b hb).trans e) y0 y1 y3 y4 y5, rfl, fin⟩⟩
    · refine thnF (turns.item (X.blk s3 H3 scope ce fp) rfl rfl rfl calm i [] r _ K (fun _ _ => False) ivK (still ivK noK) tnK go) fun res r2 ⟨u, eres, next⟩ => ?_
      subst eres
      refine thnF next fun _ r3 ⟨x, K3, iv5, rx, yx, tn5, no5⟩ => ?_
      have iv5' := iv5.pinned (still iv5 no5) (turns.obj _ _ tn5)
      refine thnF (pg.run _ r3 _ K3 x u _ iv5' rx (one x K3 yx)) fun _ r4 ⟨σ4, K4, iv6, ew, q4⟩ => ?_
      refine thnF (pt.run _ r4 σ4 K4 _ iv6 q4) fun b r5 ⟨K5, iv7, q5⟩ => ?_
      have close : ∀ {r' : Shared} {K' : Hp}, Inv (X.blk s3 H3 scope ce fp) ([] ++ pinsAt fp r3.heap) σ4 K' r' → Nx K' → ∃ m, m < n ∧ ∃ i K, W i m K ∧ (∀ b ∈ fp, K b = none) ∧ tn i r'.heap ∧ Inv (X.blk s3 H3 scope ce fp) [] (wipe σ (own.map (·.2))) K r' := fun {r' K'} iv' nx => by
        obtain ⟨m, hm, wm⟩ := less K' nx
        have held : ∀ b ∈ fp, ∀ o, r3.heap.get? b = some o → r'.heap.get? b = some o ∧ K' b = none := fun b hb o e => by
          have z := iv'.pin (b, o) (List.mem_append_right _ (List.mem_append_right _ (mem_pinsAt hb e)))
          exact ⟨z.1, z.2.1⟩
        refine ⟨m, hm, i + 1, K', wm, fun b hb => ?_, turns.keep _ _ _ tn5 fun b hb o e => (held b hb o e).1, (iv'.unpinned (pins := [])).weak ?_ fun j v e => ?_⟩
        · obtain ⟨o, e, _⟩ := turns.obj _ _ tn5 b hb
          exact (held b hb o e).2
        · rw [← ew, wipe_length]
        · rw [← ew] at e
          exact (wipe_some e).1
      cases b with
      | false =>
        rw [if_neg Bool.false_ne_true] at q5 ⊢
        exact close iv7 q5
      | true =>
        rw [if_pos rfl] at q5 ⊢
        refine thnF (pe.run _ r5 σ4 K5 _ iv7 q5) fun z r6 ⟨y, K6, iv8, ry, c, acc, ey, atD, few, nx⟩ => ?_
        subst ey
        obtain ⟨t, rfl⟩ := ry
        exact addI_runs (X := X.blk s3 H3 scope ce fp) iv8 atD few fun r7 iv9 => close iv9 nx
  exact PpSet.codeAny_compStart_set whole (turns.self X.A 0 _ _ _ tn4 whole)
end

/-! ### set(xs) of a list of ints -/
/-- a new set, as a World makes it -/
abbrev eset (w : World) : Obj := { cls := .type "set", dict := none, data := .set #[] 0 (.fresh 0 0 (!w.params.followText "set-order")) }
section
variable {P : Program} {w : World} {A : Around} {E : Value → Shared → Prop} {s : Shared}
/-- what the filling of the new set has to say -/
abbrev Filled (w : World) (s : Shared) (ns : List Int) (E : Value → Shared → Prop) : Result → Shared → Prop :=
  wants (fun r s₂ => r = .none ∧ ∃ (g : Heap) (tk c : Nat), s₂ = { s with heap := g, toks := tk } ∧ SetR w g s.heap.objs.size (fun j => decide (j ∈ ns)) c ∧ c ≤ ns.length ∧ ∀ b o, s.heap.get? b = some o → g.get? b = some o) E
theorem fill_list {l : Addr} {its : Array Value} (ns : List Int) (hh : A.handled = none) (at_ : s.heap.IsList l its) (are : IntsAre its.toList ns) (few : ns.length + 1 < scanBound) :
    codeAny (model P w) A (.call (.builtin "set.__init__") ⟨[.ref s.heap.objs.size, .ref l], []⟩) (Filled w s ns E) { s with heap := s.heap.push (eset w) } := by
  have sizes : its.size = ns.length := by rw [← Array.length_toList]; exact IntsAre.length are
  have atD : (s.heap.push (eset w)).get? s.heap.objs.size = some (eset w) := Heap.get?_push_size _ rfl
  have tyD : Shared.TypeIs { s with heap := s.heap.push (eset w) } (.ref s.heap.objs.size) "set" := ⟨_, atD, rfl⟩
  have lows : l < s.heap.objs.size := by obtain ⟨o, e, _⟩ := at_; exact Heap.lt_size e
  have top : (s.heap.push (eset w)).objs.size = s.heap.objs.size + 1 := Heap.size_push ..
  refine codeAny_call_builtin F.called_set.init.plain F.entry_set_init (check_set_init_1 tyD ?_)
  have lists : (s.heap.push (eset w)).IsList l its := at_.push _
  obtain ⟨⟨oc, od, odt, osl⟩, e1, e2, en, e3⟩ := lists
  simp only at e2 e3
  subst e2 e3
  have lists : (s.heap.push (eset w)).IsList l its := ⟨_, e1, rfl, en, rfl⟩
  have f1 := F.sub_list_set
  have f2 := F.sub_list_frozenset
  have f3 : (Value.type "list" == Value.type "dict") = false := by decide
  unfold Builtin.«set.__init__» noKeywords Builtin.Frozenset.updateFrom
  generalize hIter : pyIter = It
  wp_walk
  subst hIter
  refine wpAny_pyIter_list lists (wpAny_bind (wpAny_runValue ?_))
  have apart : l ≠ (s.heap.push (eset w)).objs.size := by rw [top]; exact Nat.ne_of_lt (Nat.lt_succ_of_lt lows)
  refine set_update_ints ((Walks.list (by simp [hh]) _ l apart its).toS) s.heap.objs.size ?_ ns sizes few ?_ its.size 0 _ (by omega) (Nat.zero_le _) ⟨⟨_, Heap.get?_push_size _ rfl, rfl, rfl⟩, lists.push _⟩ ?_ ?_
  · rw [top]
    simp only [List.mem_cons, List.not_mem_nil, or_false, not_or]
    exact ⟨Nat.ne_of_lt (Nat.lt_succ_self _), Nat.ne_of_gt lows⟩
  · intro i v hv
    obtain ⟨t, e⟩ := PyProof.Rows.IntsAre.int_at are i v (by rw [Array.getElem?_toList]; exact hv)
    have hi : i < ns.length := by rw [← sizes]; exact (Array.getElem?_eq_some_iff.mp hv).1
    exact ⟨ns[i], t, List.getElem?_eq_getElem hi, by rw [e, List.getD_eq_getElem?_getD, List.getElem?_eq_getElem hi, Option.getD_some]⟩
  · exact ⟨0, Nat.zero_le _, setR_new_at (Heap.get?_push_of_some _ atD)⟩
  · intro s' c moved hc full
    obtain ⟨g, gs, dr, tk, os⟩ := s'
    obtain rfl : gs = s.gens := moved.gens
    obtain rfl : dr = s.drawn := moved.drawn
    obtain rfl : os = s.os := moved.os
    show wpAny _ _ _ _ _ _
    refine wpAny_pure ?_
    show wpAny _ _ (PySem.ret Value.none) _ _ _
    refine wpAny_pure ⟨rfl, g, tk, c, rfl, full, by omega, fun b o e => ?_⟩
    have hb : b < s.heap.objs.size := Heap.lt_size e
    refine moved.heap b o ?_ (Heap.get?_push_of_some _ (Heap.get?_push_of_some _ e))
    simp only [List.mem_cons, List.not_mem_nil, or_false, not_or]
    exact ⟨Nat.ne_of_lt hb, by rw [top]; exact Nat.ne_of_lt (Nat.lt_succ_of_lt hb)⟩
theorem set_of_list {l : Addr} {its : Array Value} (ns : List Int) {Q : Value → Shared → Prop} (hh : A.handled = none) (at_ : s.heap.IsList l its) (are : IntsAre its.toList ns) (few : ns.length + 1 < scanBound)
    (q : ∀ (g : Heap) (tk c : Nat), SetR w g s.heap.objs.size (fun j => decide (j ∈ ns)) c → c ≤ ns.length → (∀ b o, s.heap.get? b = some o → g.get? b = some o) → Q (.ref s.heap.objs.size) { s with heap := g, toks := tk }) :
    wpAny (model P w) A (call (.type "set") [.ref l]) Q E s := by
  have T := F.called_set
  obtain ⟨_, _, m0⟩ := T.mro
  have m1 := T.made; have m2 := T.sub; have m3 := T.notType; have m4 := T.canCreate; have m5 := F.typeCall_set_1 (.ref l)
  refine wpAny_call (codeAny_of_tree ?_)
  show wpAny _ _ (callAny (.type "set") _) _ _ _
  refine wpAny_pure ⟨Code.quiet_builtin _ (by decide +kernel), codeAny_builtin F.entry_type_call ?_⟩
  rw [Around.under_plain (weight_type_call_type _ [.ref l] []) rfl]
  repeat (any_goals (first | assumption | wp_step))
  refine codeAny_mono (code_set_led1 (.ref l) (E := E) (Q₁ := fun v s₁ => v = .ref s.heap.objs.size ∧ s₁ = { s with heap := s.heap.push (eset w) }) ⟨rfl, rfl⟩) fun r s₁ hr => ?_
  rcases r with e | fl
  · exact hr
  cases fl with
  | ret v =>
    obtain ⟨rfl, rfl⟩ := hr
    have ty : Shared.TypeIs { s with heap := s.heap.push (eset w) } (.ref s.heap.objs.size) "set" := ⟨_, Heap.get?_push_size _ rfl, rfl⟩
    have i1 := T.init.lookup; have i2 := T.init.bind (.ref s.heap.objs.size)
    repeat (any_goals (first | assumption | wp_step))
    refine codeAny_mono (fill_list (E := E) ns (by simp [hh]) at_ are few) fun r s₂ hr => ?_
    rcases r with e | fl
    · exact hr
    cases fl with
    | ret v =>
      obtain ⟨rfl, g, tk, c, rfl, full, hc, kept⟩ := hr
      repeat (any_goals (first | assumption | wp_step))
      exact q _ _ _ full hc kept
    | _ => exact hr.elim
  | _ => exact hr.elim
end
section
variable {X : Cx}
theorem nodup_le : ∀ {l L : List Int}, l.Nodup → (∀ x ∈ l, x ∈ L) → l.length ≤ L.length
  | [], _, _, _ => Nat.zero_le _
  | a :: l, L, nd, h => by
    obtain ⟨na, nd⟩ := List.nodup_cons.mp nd
    have ha := h a List.mem_cons_self
    have le := nodup_le (L := L.erase a) nd fun x hx => (List.mem_erase_of_ne fun e => na (by rw [← e]; exact hx)).mpr (h x (List.mem_cons_of_mem _ hx))
    rw [List.length_erase_of_mem ha] at le
    have := List.length_pos_of_mem ha
    simp only [List.length_cons]
    omega
/-- set(xs) by values: xs a list of ints -/
def rSetL (K : PySem.W.Frag) (w : World) : List V → Hp → VK → Prop := fun vs H Q => ∃ (l : Addr) (ns : List Int), vs = [V.ref l] ∧ SqL K H l (ns.map V.int) ∧ ns.length ≤ 4000 ∧
  ∀ p c, H p = none → (∀ L : List Int, (∀ x ∈ ns, x ∈ L) → c ≤ L.length) → Q (.ref p) (upd H p (SetO w p (fun j => decide (j ∈ ns)) c))
theorem cr_setL (calm : X.calm = true) : CallR X (.type "set") (rSetL X.K X.w) := by
  intro pins s σ H vs us Q iv r h
  obtain ⟨l, ns, rfl, hq, few, q⟩ := h
  obtain ⟨its, rv, pl, hz⟩ := iv.list hq
  rw [Vals.ref1 r]
  refine set_of_list ns (iv.ok.hd calm) pl.isList (by simpa using RZ.intsAre_vals rv) (by unfold scanBound; omega) fun g tk c full hc kept => ?_
  have le : ∀ L : List Int, (∀ x ∈ ns, x ∈ L) → c ≤ L.length := fun L sub => by
    obtain ⟨o, es, ep, t, _, _, _, _, nd, mem, _, _, en, _⟩ := full
    have z := nodup_le (L := L) nd fun x hx => sub x (by simpa using (mem x).mpr hx)
    rw [List.length_map, Array.length_toList, en] at z
    exact z
  exact ⟨.ref _, _, iv.laid (t' := tk) (fun b o e => kept b o e) (Nat.le_refl _) (setO_new full), rfl, q _ c (iv.hok.fresh (Nat.le_refl _)) le⟩
end

/-! ### over data -/
section
variable {X : Cx} {e a b c tg iter elt : Expr} {es ifs : List Expr} {pos p : Pos} {st : Stmt} {rest body : List Stmt}
/-- ascending, with just these members -/
def Asc (ns acc : List Int) : Prop := ns.Pairwise (· < ·) ∧ ∀ k, k ∈ ns ↔ k ∈ acc
/-- sorted(set(xs)) -/
def wSortSet (wa : DE) : DE := fun δ k => wa δ fun x => ∃ ns L : List Int, rd δ x = some (.lst (ns.map .int)) ∧ ns.length ≤ 4000 ∧ (∀ x ∈ ns, x ∈ L) ∧ L.length < 64 ∧ ∀ out, Asc out ns → k (.f (out.map .int))
theorem de_sortSet {wa : DE} {p p2 q pos : Pos} (hc : X.calm = true) (hg : Gl X "sorted") (hm : X.mg "sorted" = none) (hg2 : Gl X "set") (hm2 : X.mg "set" = none) (ha : De X a wa)
    (na : starEach [a] X.env = (false, eval a X.env) :: starEach [] X.env := by rfl) (nb : (backTo q (starEach [] X.env)).any (·.1) = false := by rfl)
    (nc : starEach [.Call (.Name "set" p2) [a] [] q] X.env = (false, eval (.Call (.Name "set" p2) [a] [] q) X.env) :: starEach [] X.env := by rfl) (nd : (backTo pos (starEach [] X.env)).any (·.1) = false := by rfl) :
    De X (.Call (.Name "sorted" p) [.Call (.Name "set" p2) [a] [] q] [] pos) (wSortSet wa) := by
  obtain ⟨ta, pa, va⟩ := ha.ex
  refine ⟨_, pe_callB (cr_sortedSet hc) hg hm (by decide +kernel) (pa_cons (pe_callTy (cr_setL hc) hg2 hm2 boot_set (pa_cons pa pa_nil na) (by decide) (by decide) na nb) pa_nil nc) (by decide) (by decide) nc nd, ?_⟩
  intro J B0 H0 B H σ δ e k h Q q
  refine va e _ h _ fun x v B1 H1 h1 g1 w1 r1 => ?_
  have e1 := e.step g1 w1
  obtain ⟨ns, L, hr, few, sub, hL, h1⟩ := h1
  obtain ⟨l, xs, rfl, hH, rr⟩ := (r1.toT e1 e.nod hr).lst e1.bh
  obtain rfl : xs = ns.map V.int := reps_ints_eq rr
  refine ⟨l, ns, rfl, SqL.of hH, few, fun p c hp hc => ?_⟩
  have le := hc L sub
  refine ⟨p, _, c, rfl, upd_same, by omega, fun out r asc mem _ hr' => ?_⟩
  have e2 := e1.bh
  have nj := w1.no hp
  have f1 : Grow J B1 H1 B1 (upd H1 p (SetO X.w p (fun j => decide (j ∈ ns)) c)) := .fresh e2 hp
  refine fin_lst (K := X.K) hr' (h1 out ⟨asc, fun k => by rw [mem]; simp⟩) f1.bh (w1.fresh hp) (reps_ints out) fun z v B' H' kz g w r => ?_
  exact q z v B' H' kz ((g1.trans f1).trans g) w ((r σ δ).back ((g1.trans f1).ne))
/-- sorted({elt for target in iter if ..}) -/
def wSortSc (wi : DIC) (vs : List Nat) (wg : DG) (wt : DT) (we : DE) : DE := fun δ k => wi δ fun ds => ∃ I : Nat → List Int → Prop, I 0 [] ∧
  (∀ (i : Nat) d acc, ds[i]? = some d → I i acc → acc.Nodup → acc.length ≤ i → wg d (wipeD δ vs) fun δ2 => wt δ2 fun b => if b = true then we δ2 fun y => ∃ c, y = .c (.int c) ∧ I (i + 1) (addI acc c) else I (i + 1) acc) ∧
  ds.length ≤ 4000 ∧ ∀ acc, I ds.length acc → acc.Nodup → acc.length < 64 ∧ ∀ out, Asc out acc → k (.f (out.map .int))
theorem addI_len {acc : List Int} {c : Int} : (addI acc c).length ≤ acc.length + 1 := by
  unfold addI
  split
  · omega
  · simp
theorem ev_sortSc {K : PySem.W.Frag} {w : World} {ti : TI} {g : TG} {tt : TT} {te : TE} {wi : DIC} {wg : DG} {wt : DT} {we : DE} {vs : List Nat} (hi : EvIC K ti wi) (hg : EvGv K vs g wg) (ht : EvT K tt wt) (he : EvE K te we) :
    EvE K (tCB (rSortedSet w) (tCons (tSi w ti g tt te vs) tNil)) (wSortSc wi vs wg wt we) := by
  intro J B0 H0 B H σ δ e k h Q q
  refine hi e _ h _ fun ds It B1 H1 h1 g1 w1 it => ?_
  obtain ⟨I, I0, hst, hsz, hend⟩ := h1
  intro L hL
  have e1 := e.step g1 w1
  have nj : J.a ≠ some L := w1.no hL
  have hB1 : B1 L = none := e1.bh.free hL
  let W : Nat → Hp → Prop := fun i H' => i ≤ ds.length ∧ ∃ B' acc, Grow J B1 H1 B' H' ∧ Own J B' H' ∧ B' L = none ∧ H' L = some (SetI w L acc) ∧ I i acc ∧ acc.Nodup ∧ acc.length ≤ i
  refine ⟨fun i m H' => m = ds.length - i ∧ W i H', ⟨ds.length, rfl, Nat.zero_le _, B1, [], .fresh e1.bh hL, w1.fresh hL, hB1, upd_same, I0, .nil, Nat.le_refl _⟩, ?_⟩
  rintro i m H' ⟨rfl, hi, B', acc, g', w', hB', hH', hI, hn, hl⟩
  obtain ⟨stop, go⟩ := it g' w' i
  by_cases hlt : i < ds.length
  · have hd : ds[i]? = some ds[i] := List.getElem?_eq_getElem hlt
    obtain ⟨go, yl⟩ := go _ hd
    refine .inr ⟨go, W (i + 1), fun H'' h => ⟨ds.length - (i + 1), by omega, rfl, h⟩, fun x H2 y => ?_⟩
    obtain ⟨B2, g2, w2, rx⟩ := yl x H2 y
    have G2 := g'.trans g2
    have e2 := (e1.step G2 w2).wiped vs
    have hB2 : B2 L = none := (g2.fr L (by rw [hH']; simp)).trans hB'
    have hH2 : H2 L = some (SetI w L acc) := g2.hh L _ nj hH'
    refine hg e2 _ x rx _ (hst i _ acc hd hI hn hl) _ fun σ3 δ3 h3 e3 ew => ?_
    refine ⟨ew.trans wipe_wipe, ?_⟩
    refine ht e3 _ h3 _ fun b B4 H4 h4 g4 w4 => ?_
    have G4 := G2.trans g4
    have hB4 : B4 L = none := (g4.fr L (by rw [hH2]; simp)).trans hB2
    have hH4 : H4 L = some (SetI w L acc) := g4.hh L _ nj hH2
    cases b with
    | false => exact ⟨hlt, B4, acc, G4, w4, hB4, hH4, h4, hn, by omega⟩
    | true =>
      have e4 := e3.step g4 w4
      refine he e4 _ h4 _ fun y v B5 H5 h5 g5 w5 r5 => ?_
      obtain ⟨c, rfl, h5⟩ := h5
      cases rv_int r5
      have G6 := G4.trans g5
      have hB6 : B5 L = none := (g5.fr L (by rw [hH4]; simp)).trans hB4
      have hH5 : H5 L = some (SetI w L acc) := g5.hh L _ nj hH4
      have le := addI_len (acc := acc) (c := c)
      refine ⟨c, acc, rfl, hH5, Nat.lt_of_lt_of_le (show acc.length + 1 < 4002 by omega) (by unfold scanBound; omega), hlt, B5, addI acc c, ?_, ?_, hB6, upd_same, h5, nodup_addI hn, by omega⟩
      · refine ⟨G6.bb, fun b o eb => ?_, G6.kp.put hL hH5 pl0_set, fun b eb => ?_, G6.fr⟩
        · rw [upd_ne (fun z => by rw [z, hB6] at eb; cases eb)]; exact G6.bh b o eb
        · by_cases hb : b = L
          · rw [hb, upd_same]; simp
          · rw [upd_ne hb]; exact G6.ne b eb
      · refine ⟨fun b z => ?_, tabs_put hH5 pl0_set w5.tb, w5.nt⟩
        obtain ⟨h1, l, m, c, h0, h2⟩ := w5.dc b z
        exact ⟨h1, l, m, c, h0, by rw [upd_ne (fun q => nj (by rw [z, q]))]; exact h2⟩
  · have ei : i = ds.length := by omega
    subst ei
    obtain ⟨few, fin⟩ := hend acc hI hn
    refine .inl ⟨stop rfl, L, _, acc.length, rfl, hH', few, fun out r asc mem _ hr => ?_⟩
    exact fin_lst (K := K) hr (fin out ⟨asc, fun k => by rw [mem]; simp⟩) g'.bh w' (reps_ints out) fun z v B' H' kz gg ww rr => q z v B' H' kz ((g1.trans g').trans gg) ww ((rr σ δ).back (g1.trans g').ne)
theorem de_sortSc {p pos q : Pos} {scope : Scope} {own : List (Str × Nat)} {wi : DIC} {wg : DG} {wt : DT} {we : DE} (hgl : Gl X "sorted") (hm : X.mg "sorted" = none) (hc : X.calm = true) (hN : X.N.Nodup) (hi : Dic X tg iter wi) (ok : BlkOk X.N X.env.scope scope own)
    (hg : Blk X scope fun Y => Dgv Y (own.map (·.2)) tg wg) (ht : Blk X scope fun Y => Dts Y ifs wt) (he : Blk X scope fun Y => De Y elt we) (hs : ∀ x, foldedSetIterable iter X.env x = pure x := by intro _; rfl)
    (nc : starEach [.SetComp elt [⟨tg, iter, ifs, 0⟩] scope q] X.env = (false, eval (.SetComp elt [⟨tg, iter, ifs, 0⟩] scope q) X.env) :: starEach [] X.env := by rfl) (nd : (backTo pos (starEach [] X.env)).any (·.1) = false := by rfl) :
    De X (.Call (.Name "sorted" p) [.SetComp elt [⟨tg, iter, ifs, 0⟩] scope q] [] pos) (wSortSc wi (own.map (·.2)) wg wt we) := by
  obtain ⟨ti, pi, vi⟩ := hi.ex
  obtain ⟨g, pg, vg⟩ := blk_g hg
  obtain ⟨t, pt, vt⟩ := blk_t ht
  obtain ⟨te, pe, ve⟩ := blk_e he
  exact ⟨_, pe_callB (cr_sortedSet hc) hgl hm (by decide +kernel) (pa_cons (pe_setI hc hN pi ok ⟨pg, pt, pe⟩ hs) pa_nil nc) (by decide) (by decide) nc nd, ev_sortSc vi vg vt ve⟩
/-- range(a, b), kept -/
def wRng2 (wa wb : DE) : DE := fun δ k => wa δ fun x => wb δ fun y => ∃ i j, x = .c (.int i) ∧ y = .c (.int j) ∧ k (.c (.rng i j))
theorem de_rng2 {wa wb : DE} {p pos : Pos} (hg : Gl X "range") (hm : X.mg "range" = none) (ha : De X a wa) (hb : De X b wb)
    (na : starEach [a, b] X.env = (false, eval a X.env) :: starEach [b] X.env := by rfl) (nb : starEach [b] X.env = (false, eval b X.env) :: starEach [] X.env := by rfl) (nc : (backTo pos (starEach [b] X.env)).any (·.1) = false := by rfl) :
    De X (.Call (.Name "range" p) [a, b] [] pos) (wRng2 wa wb) := by
  obtain ⟨ta, pa, va⟩ := ha.ex
  obtain ⟨tb, pb, vb⟩ := hb.ex
  refine ⟨_, pe_callTy cr_range2 hg hm boot_range (pa_cons pa (pa_cons pb pa_nil nb) na) (by decide) (by decide) na nc, ?_⟩
  intro J B0 H0 B H σ δ e k h Q q
  refine va e _ h _ fun x v B1 H1 h1 g1 w1 r1 => ?_
  have e1 := e.step g1 w1
  refine vb e1 _ h1 _ fun y u B2 H2 h2 g2 w2 r2 => ?_
  obtain ⟨i, j, rfl, rfl, h2⟩ := h2
  cases rv_int r1
  cases rv_int r2
  have e2 := e1.step g2 w2
  have G := g1.trans g2
  refine ⟨i, j, rfl, fun p hp => ?_⟩
  refine q (.c (.rng i j)) _ (upd B2 p (.rng i j)) _ h2 (G.trans (.new e2.bh hp)) (w2.new hp) ?_
  show Rep _ _ _ _
  rw [Rep]
  exact ⟨p, rfl, upd_same⟩
/-- over a range that is kept -/
def iRngO (tl : TE) : TI := fun σ H R => tl σ H fun x H1 => ∃ (a : Addr) (lo hi : Int), x = .ref a ∧ H1 a = some (.rng lo hi) ∧ -(2 ^ 62) ≤ lo ∧ lo < 2 ^ 62 ∧ -(2 ^ 62) ≤ hi ∧ hi < 2 ^ 62 ∧ R (Itr lo (hi - lo).toNat) H1
theorem pi_rngO {l : Expr} {tl : TE} (hl : PE X l tl) : PI X tg l (iRngO tl) := by
  refine ⟨fun pins s σ H R iv h => ?_⟩
  refine thn (hl.run pins s σ H _ iv h) fun v s1 ⟨x, H1, iv1, rx, a, lo, hi, ex, at_, l1, l2, l3, l4, go⟩ => ?_
  subst ex
  cases rx
  obtain ⟨t, u, w, ho⟩ := iv1.hok a _ at_
  refine wpAny_pyIter_range ho (small_one l1 l2 l3 l4) ?_
  refine ⟨s1.heap.objs.size, [s1.heap.objs.size], _, _, H1, rfl, iv1.kept (t' := s1.toks) fun b o e => Heap.get?_push_of_some _ e, turn_range _ lo (hi - lo).toNat, ?_, fun b hb => ?_, go⟩
  · have z1 : lo + ((0 : Nat) : Int) * 1 = lo := by simp
    have z2 : (((hi - lo).toNat : Nat) : Int) - ((0 : Nat) : Int) = Builtin.Range.rangeSize lo hi 1 := by
      rw [rangeSize_one]
      split <;> omega
    show IsRangeIter _ _ (lo + ((0 : Nat) : Int) * 1) ((((hi - lo).toNat : Nat) : Int) - ((0 : Nat) : Int)) 1
    rw [z1, z2]
    exact Heap.get?_push_size _ rfl
  · obtain rfl : b = s1.heap.objs.size := by simpa using hb
    exact iv1.fpOk (Nat.le_refl _) (iv1.hok.fresh (Nat.le_refl _))
def wcRng (wa : DE) : DIC := fun δ k => wa δ fun x => ∃ lo hi, rd δ x = some (.rng lo hi) ∧ small62 lo ∧ small62 hi ∧ k (rangeD lo (hi - lo).toNat)
theorem dic_rng {wa : DE} (ha : De X e wa) : Dic X tg e (wcRng wa) := by
  obtain ⟨ta, pa, va⟩ := ha.ex
  refine ⟨_, pi_rngO pa, ?_⟩
  intro J B0 H0 B H σ δ e k h R q
  refine va e _ h _ fun x v B1 H1 h1 g1 w1 r1 => ?_
  obtain ⟨lo, hi, hr, ⟨s1, s2⟩, ⟨s3, s4⟩, h1⟩ := h1
  have e1 := e.step g1 w1
  have t := (r1.toT e1 e.nod hr).rep (fun _ => by simp)
  rw [Rep] at t
  obtain ⟨a, rfl, hB⟩ := t
  exact ⟨a, lo, hi, rfl, e1.bh _ _ hB, by omega, by omega, by omega, by omega, q _ _ B1 H1 h1 g1 w1 fun B' H' g w i => itr_at g.bh w i⟩
end
end Dl
/-! a, b, c, d = ..: four names and more, by a tuple that is at once taken apart -/
namespace Dl
open PySem PySem.Spec PyProof.Rows L2
def svs : List DV → Option (List S)
  | [] => some []
  | x :: xs => match sv x, svs xs with
    | some s, some ss => some (s :: ss)
    | _, _ => none
def setAll (δ : List S) : List Nat → List S → List S
  | i :: is, s :: ss => setAll (δ.set i s) is ss
  | _, _ => δ
/-- the names' targets -/
def gNames : List Nat → TGs
  | [] => gNil
  | i :: is => fun vs σ H Q => ∃ v r, vs = v :: r ∧ gName i v σ H fun σ' H' => gNames is r σ' H' Q
section
variable {K : PySem.W.Frag} {J : JT} {B0 H0 B H B1 H1 Hs : Hp}
theorem put_all : ∀ {is : List Nat} {xs : List DV} {vs : List V} {ss : List S} {σ σ' : L2.St} {δ δ' : List S} {N : Addr → Prop} {Q : L2.St → Hp → Prop}, is.length = xs.length →
    Env K J B0 H0 B1 H1 σ δ → OldOr Hs σ δ N → RepVs K J Hs B1 H1 σ' δ' xs vs → (∀ (j : Nat) ds a, xs[j]? = some (.f ds) → vs[j]? = some (.ref a) → ¬ N a) → svs xs = some ss → (∀ b, H0 b ≠ none → Hs b ≠ none) →
    (∀ σ2, Env K J B0 H0 B1 H1 σ2 (setAll δ is ss) → Q σ2 H1) → gNames is vs σ H1 Q
  | [], [], vs, ss, σ, σ', δ, δ', N, Q, _, e, _, r, _, hs, _, q => by
    cases (show vs = [] from r)
    cases hs
    exact ⟨rfl, q σ e⟩
  | i :: is, x :: xs, vs, ss, σ, σ', δ, δ', N, Q, hl, e, old, r, hn, hs, h0, q => by
    obtain ⟨v, r', rfl, r1, r2, ap⟩ := r
    unfold svs at hs
    cases hx : sv x with
    | none => rw [hx] at hs; cases hs
    | some s =>
      cases hxs : svs xs with
      | none => rw [hx, hxs] at hs; cases hs
      | some ss' =>
        rw [hx, hxs] at hs; cases hs
        obtain ⟨e1, n1⟩ := e.putN old r1 hx (fun ds a hd hv => hn 0 ds a (by simp [hd]) (by simp [hv])) h0 i
        refine ⟨v, r', rfl, ?_⟩
        refine put_all (xs := xs) (ss := ss') (N := fun a => N a ∨ ∃ ds, x = .f ds ∧ v = .ref a) (by simpa using hl) e1 n1 r2 (fun j ds a hj hv => ?_) hxs h0 (fun σ2 e2 => q σ2 e2)
        rintro (h | ⟨ds', hx', hv'⟩)
        · exact hn (j + 1) ds a (by simpa using hj) (by simpa using hv) h
        · exact ap ds' hx' j ds hj (by rw [hv, hv'])
  | [], _ :: _, _, _, _, _, _, _, _, _, hl, _, _, _, _, _, _, _ => by simp at hl
  | _ :: _, [], _, _, _, _, _, _, _, _, hl, _, _, _, _, _, _, _ => by simp at hl
end
section
variable {X : Cx} {es : List Expr} {pos : Pos}
/-- the names are what they are: targets one by one -/
inductive Tgs (X : Cx) : List Expr → List Nat → Prop
  | nil : Tgs X [] []
  | cons {x : Str} {p : Pos} {es : List Expr} {i : Nat} {is : List Nat} (hi : X.N[i]? = some x) (hx : Loc X.env.scope x) (h : Tgs X es is)
      (hs : (assignEach (.Name x p :: es) X.env).map (·.2) = assign (.Name x p) X.env :: (assignEach es X.env).map (·.2)) (hf : X.fn x = true ∨ X.env.scope.names.lookup x = some .local) : Tgs X (.Name x p :: es) (i :: is)
theorem Tgs.pg (hN : X.N.Nodup) : ∀ {ts : List Expr} {is : List Nat}, Tgs X ts is → PGs X ts (gNames is)
  | _, _, .nil => pgs_nil
  | _, _, .cons hi hx h hs hf => pgs_cons (pg_name hN hi hx hf) (h.pg hN) hs
theorem tgs_cons {x : Str} {p : Pos} {es : List Expr} {i : Nat} {is : List Nat} (hi : X.N[i]? = some x) (hx : Loc X.env.scope x) (h : Tgs X es is)
    (hf : X.fn x = true ∨ X.env.scope.names.lookup x = some .local := by first | exact .inl rfl | exact .inr rfl)
    (hs : (assignEach (.Name x p :: es) X.env).map (·.2) = assign (.Name x p) X.env :: (assignEach es X.env).map (·.2) := by rfl) : Tgs X (.Name x p :: es) (i :: is) := .cons hi hx h hs hf
def wParN (is : List Nat) (wa : DA) : DS := fun R δ => wa δ fun xs => ∃ ss, svs xs = some ss ∧ is.length = xs.length ∧ xs.length ≤ 1000 ∧ R.nx (setAll δ is ss)
theorem ds_parN {ts : List Expr} {is : List Nat} {kt k2 : Nat} {pt pt2 : Pos} {wa : DA} (hc : X.calm = true) (hN : X.N.Nodup) (T : Tgs X ts is) (ha : Da X es wa) (hn : (assignEach ts X.env).length = is.length := by rfl) (hst : (assignEach ts X.env).findIdx? (·.1) = none := by rfl)
    (hs : swapsWithSole [.Tuple ts kt pt] (.Tuple es k2 pt2) pos.line X.env = pure false := by rfl) (hw : swappedStores [.Tuple ts kt pt] (.Tuple es k2 pt2) X.env = pure none := by rfl)
    (h1 : (assignEach [.Tuple ts kt pt] X.env).map (·.2) = [assign (.Tuple ts kt pt) X.env] := by rfl) : Ds X (.Assign [.Tuple ts kt pt] (.Tuple es k2 pt2) pos) (wParN is wa) := by
  obtain ⟨ta, pa, va⟩ := ha.ex
  refine ⟨_, ps_asg (pe_tup pa) (pg_tup hc (T.pg hN) hn hst) hs hw h1, ?_⟩
  intro J B0 H0 B H σ δ e R h En F
  refine va e _ h _ fun xs vs B1 H1 h1 g1 w1 r1 => ?_
  obtain ⟨ss, hss, hl, hsz, h1⟩ := h1
  have lens : ∀ {xs : List DV} {vs : List V}, RepVs X.K J H B1 H1 σ δ xs vs → vs.length = xs.length := by
    intro xs
    induction xs with
    | nil => intro vs r; cases (show vs = [] from r); rfl
    | cons x xs ih => intro vs r; obtain ⟨v, r', rfl, _, r2, _⟩ := r; simp [ih r2]
  have lv := lens r1
  refine ⟨sz5 (by omega), fun p hp => ⟨p, vs, rfl, .inl (.inl upd_same), by rw [lv, hl], ?_⟩⟩
  have e1 := e.step g1 w1
  have f1 : Grow J B1 H1 B1 (upd H1 p (.tup vs)) := .fresh e1.bh hp
  have e2 := e1.step f1 (w1.fresh hp)
  have r2 : RepVs X.K J H B1 (upd H1 p (.tup vs)) σ δ xs vs := by
    have go : ∀ {xs : List DV} {vs' : List V}, RepVs X.K J H B1 H1 σ δ xs vs' → RepVs X.K J H B1 (upd H1 p (.tup vs)) σ δ xs vs' := by
      intro xs
      induction xs with
      | nil => intro vs' r; exact r
      | cons x xs ih => intro vs' r; obtain ⟨v, r', rfl, r1, r2, ap⟩ := r; exact ⟨v, r', rfl, r1.step e.nod f1, ih r2, ap⟩
    exact go r1
  exact put_all (N := fun _ => False) (by rw [hl]) e2 e.oldOr r2 (fun _ _ _ _ _ h => h) hss e.gr.ne fun σ2 e3 => F.nx h1 e3
end
end Dl
/-! xs.extend(t), t a tuple -/
namespace Dl
open PySem PySem.Spec PyProof.Rows L2
theorem ext_tup (l : Addr) (its : Array Value) (n : Nat) (b : Addr) (its2 : Array Value) (n2 : Nat) (d2 : Option Addr) (sl2 : Array (Option Value)) (long : ¬(!its.isEmpty && Builtin.List.listTooLong (its.size + its2.size)) = true) (hz : its.size ≤ sizeLine) (hz2 : its.size + its2.size ≤ sizeLine + 1) :
    Meets (Builtin.«list.extend» ⟨[.ref l, .ref b], []⟩) (fun _ R s => s.heap.get? l = some { cls := .type "list", dict := none, data := .seq its n, slots := #[] } ∧ s.heap.get? b = some { cls := .type "tuple", dict := d2, data := .seq its2 n2, slots := sl2 } ∧
      R (.ok (.ret Value.none)) { s with heap := s.heap.update l (Obj.mapSeq fun x => x ++ its2), toks := s.toks }) := by
  refine .of_wp fun prog w A R s h => ?_
  obtain ⟨hp, g, d, tk, os⟩ := s
  obtain ⟨at1, at2, h⟩ := h
  have g1 := PySem.AutoSeq1.idx_int; have g2 := F.sub_tuple_tuple; have g3 := F.sub_list_list; have g4 := F.sub_tuple_list; have g5 := F.sub_list_tuple
  have fits : (its ++ its2).size ≤ sizeLine + 1 := by rw [Array.size_append]; exact hz2
  wp_walk using (wpAny_updateSeq at1 rfl (hz := hz) (_hz' := fits)), wpAny_loadPart' at1, wpAny_loadPart' at2
  exact ⟨_, rfl, h⟩
section
variable {X : Cx} {e : Expr} {pos p : Pos}
def rExtT (K : PySem.W.Frag) : V → List V → Hp → VK → Prop := fun x vs H Q => ∃ (l b : Addr) (xs zs : List V), x = .ref l ∧ vs = [.ref b] ∧ H l = some (.lst xs) ∧ ((H b = some (.lst zs)) ∨ SqT K H b zs) ∧ xs.length + zs.length ≤ sizeLine ∧ Q .non (upd H l (.lst (xs ++ zs)))
theorem mt_extT : MtM X "list.extend" (rExtT X.K) := by
  intro pins s σ H x vs v us Q I rx rv h
  obtain ⟨l, b, xs, zs, rfl, rfl, hH, hB | hB, hz, q⟩ := h
  · exact mt_extend pins s σ H _ _ v us Q I rx rv ⟨l, b, xs, zs, rfl, rfl, hH, hB, hz, q⟩
  cases rx
  obtain ⟨u, rfl, ru⟩ := rv.one
  cases ru
  obtain ⟨z, its, n, r, hl, e⟩ := I.lstM hH
  obtain ⟨its2, r2, ⟨⟨oc, od, odt, osl⟩, e2, c2, n2, d2⟩, z2⟩ := I.tuple hB
  simp only at c2 d2
  subst c2 d2
  have l1 := r.length
  have l2 := r2.length
  have fit : its.toArray.size + its2.toArray.size ≤ sizeLine := by rw [List.size_toArray, List.size_toArray]; omega
  have long : ¬ (!its.toArray.isEmpty && Builtin.List.listTooLong (its.toArray.size + its2.toArray.size)) = true := by
    rw [notLongL fit, Bool.and_false]
    exact Bool.false_ne_true
  refine call_meets F.slot_list_extend ⟨_, e, rfl⟩ F.entry_list_extend (F.args_list_extend_2 _ _) (ext_tup l its.toArray n b its2.toArray n2 od osl long (by rw [List.size_toArray]; omega) (by omega)) ⟨e, e2, ?_⟩
  exact ⟨.non, _, I.lset (its' := its ++ its2) hH e (by simp) (r.append r2) (by rw [List.length_append]; omega), rfl, q⟩
/-- a list's or a tuple's items -/
def seqOf : D → Option (List D)
  | .lst es => some es
  | .tup es => some es
  | _ => none
/-- x.extend(e), e a list or a tuple -/
def wExt2 (i : Nat) (wa : DE) : DS := fun R δ => ∃ ds, δ[i]? = some (.own ds) ∧ wa δ fun y => ∃ d es, rd δ y = some d ∧ seqOf d = some es ∧ ds.length + es.length ≤ 100000 ∧ R.nx (δ.set i (.own (ds ++ es)))
theorem ds_extend2 {i : Nat} {x : Str} {px apos cpos : Pos} {wa : DE} (hN : X.N[i]? = some x) (hv : Vis X.env.scope x) (ha : De X e wa)
    (hd : (x == ("__debug__" : Str)) = false := by decide) (hcd : (x == ("__classdict__" : Str)) = false := by decide)
    (hbase : attributeBase (.Name x px) "extend" X.env (eval (.Name x px) X.env) = eval (.Name x px) X.env := by rfl)
    (hfew : ((backTo cpos (starEach [e] X.env)).all (fun x => !x.1) && (backToKw cpos (keywordEach [] X.env)).all (fun x => x.1.isSome)
      && decide ([e].length + ([] : List Keyword).length + (if ([] : List Keyword).isEmpty then 0 else 1) < 30)) = true := by rfl)
    (hline : (apos.endLine == cpos.line) = true := by rfl) (hs : starEach [e] X.env = (false, eval e X.env) :: starEach [] X.env := by rfl) (hplain : (backTo cpos (starEach [] X.env)).any (·.1) = false := by rfl)
    (hsw : swapsWith (.Call (.Attribute (.Name x px) "extend" apos) [e] [] cpos) none pos.line X.env = pure false := by rfl) :
    Ds X (.Expr (.Call (.Attribute (.Name x px) "extend" apos) [e] [] cpos) pos) (wExt2 i wa) := by
  obtain ⟨ta, pa, va⟩ := ha.ex
  refine ⟨_, ps_expr (pe_bm PySem.F.plainAttrs_list PySem.F.slot_list_extend PySem.F.type_list_extend mt_extT (pv i hN hv hd hcd) (pa_cons pa pa_nil hs) hbase hfew hline hs hplain) hsw, ?_⟩
  intro J B0 H0 B H σ δ e R h En F
  obtain ⟨ds, hi, h⟩ := h
  obtain ⟨a, xs, h1, h2, h3, h4, h5, h6⟩ := e.ownJ hi
  refine ⟨_, h1, .inl ⟨rfl, _, SqL.of h4⟩, va e _ h _ fun y u B1 H1 q1 g1 w1 r1 => ?_⟩
  obtain ⟨d, es, hr, hd, hl, q1⟩ := q1
  have e1 := e.step g1 w1
  have hH1 : H1 a = some (.lst xs) := g1.hh a _ h6 h4
  have t := r1.toT e1 e.nod hr
  have hd : d = .lst es ∨ d = .tup es := by
    cases d <;> simp [seqOf] at hd <;> simp [hd]
  rcases hd with rfl | rfl
  · obtain ⟨b, ys, rfl, hb, rb⟩ := t.lst e1.bh
    refine ⟨a, b, xs, ys, rfl, rfl, hH1, .inl hb, sz5 (by rw [h5.len, rb.len]; exact hl), F.nx (B := B1) q1 ?_⟩
    exact e1.change hi h1 hH1 ((h5.mono g1.bb).append rb)
  · obtain ⟨b, ys, rfl, _, hb, rb⟩ := t.tup e1.bh
    refine ⟨a, b, xs, ys, rfl, rfl, hH1, .inr hb, sz5 (by rw [h5.len, rb.len]; exact hl), F.nx (B := B1) q1 ?_⟩
    exact e1.change hi h1 hH1 ((h5.mono g1.bb).append rb)
end
end Dl
namespace Dl
open PySem PySem.Spec PyProof.Rows L2
/-! ### values: whole numbers, places, terms -/
abbrev WE : Int := 1000000000000000000000000000000000000000000000000000000000000
abbrev c_WHOLE_END : Int := WE
abbrev c_MAX_PARTS : Int := 400
abbrev c_MAX_VARIABLE : Int := 1000
def isWhole : D → Bool
  | .int i => decide (-WE < i) && decide (i < WE)
  | _ => false
def within (d : D) (a b : Int) : Bool := match d with
  | .int i => (decide (-WE < i) && decide (i < WE)) && (decide (a ≤ i) && decide (i ≤ b))
  | _ => false
def pre_is_whole : List S → Prop
  | [.val d] => noTy d = true
  | _ => False
def post_is_whole : List S → DV → Prop
  | [.val d], r => r = .c (.bl (isWhole d))
  | _, _ => False
def pre_is_whole_within : List S → Prop
  | [.val d, .val (.int _), .val (.int _)] => noTy d = true
  | _ => False
def post_is_whole_within : List S → DV → Prop
  | [.val d, .val (.int a), .val (.int b)], r => r = .c (.bl (within d a b))
  | _, _ => False
def w_is_whole_1 : DS := wRet (wChain rLt rLt (wUn rNeg (wC (.int c_WHOLE_END))) (wVar 0) (wC (.int c_WHOLE_END)))
def w_is_whole : DS := wSeq (wIfS (wOrT (wNotT (wB (wCB cIsi (waCons (wVar 0) (waCons (wC (.ty "int")) (waNil)))))) (wOrT (wB (wOp rIsB (wVar 0) (wC (.bl true)))) (wB (wOp rIsB (wVar 0) (wC (.bl false)))))) (wRet (wC (.bl false))) ((fun R δ => R.nx δ))) (w_is_whole_1)
def w_is_whole_within : DS := wRet (wAnd (wCall 1 pre_is_whole post_is_whole (waCons (wVar 0) (waNil))) (wChain rLe rLe (wVar 1) (wVar 0) (wVar 2)))
theorem goal_is_whole : Goal w_is_whole ["value"] 1 pre_is_whole post_is_whole := by
  intro xs hl hp
  unfold pre_is_whole at hp
  split at hp
  · rename_i d
    unfold w_is_whole w_is_whole_1
    sleep 90000
    refine isi_int hp ?_
    sleep 90000
    cases d <;> simp only [isInt, isV, noTy] at hp ⊢ <;> try contradiction
    case int i =>
      sleep 90000
      simp only [post_is_whole, isWhole]
      sleep 90000
      by_cases h : -c_WHOLE_END < i
      · rw [if_pos h]; simp [h]
      · rw [if_neg h]; simp [h]
    case bl b =>
      cases b
      all_goals
        sleep 90000
        simp only [post_is_whole, isWhole]
        first
          | done
          | (simp; done)
          | sleep 90000
    all_goals
      sleep 90000
      simp only [post_is_whole, isWhole]
  · exact hp.elim
/-- a call whose answer is one value -/
theorem call_one {n : Nat} {pre : List S → Prop} {post : List S → DV → Prop} {ss : List S} {k : DV → Prop} {x : D} (hn : ss.length = n) (hp : pre ss) (h : ∀ r, post ss r → r = .c x) (hk : k (.c x)) : ss.length = n ∧ pre ss ∧ ∀ r, post ss r → r ≠ .j ∧ k r :=
  ⟨hn, hp, fun r q => by rw [h r q]; exact ⟨by simp, hk⟩⟩
theorem goal_is_whole_within : Goal w_is_whole_within ["value", "least", "most"] 3 pre_is_whole_within post_is_whole_within := by
  intro xs hl hp
  unfold pre_is_whole_within at hp
  split at hp
  · rename_i d a b
    unfold w_is_whole_within
    sleep 90000
    simp only [wCall]
    sleep 90000
    refine call_one (x := .bl (isWhole d)) rfl hp (fun r q => q) ?_
    sleep 90000
    cases d <;> simp only [isWhole] <;> (try sleep 90000) <;> (try simp only [post_is_whole_within, within])
    rename_i i
    cases h : (decide (-WE < i) && decide (i < WE)) with
    | false => simp
    | true =>
      rw [if_pos rfl]
      by_cases h2 : a ≤ i
      · rw [if_pos h2]; simp [h2]
      · rw [if_neg h2]; simp [h2]
  · exact hp.elim
end Dl
namespace Km
/-! terms as lists of ints: how many parts are due -/
def up (c : Int) (w : Nat) : Nat := if c = 0 then w + 1 else if 0 < c then w - 1 else w
/-- how many ints are read until w parts are told -/
def scn : Nat → List Int → Option Nat
  | 0, _ => some 0
  | _ + 1, [] => none
  | w + 1, c :: r => (scn (up c (w + 1)) r).map (· + 1)
def jI : Nat → List Int → Bool
  | w, [] => w == 0
  | w, c :: r => if w = 0 then false else jI (up c w) r
theorem scn_cons {w : Nat} {c : Int} {r : List Int} (h : 0 < w) : scn w (c :: r) = (scn (up c w) r).map (· + 1) := by
  cases w with
  | zero => omega
  | succ w => rfl
theorem jI_cons {w : Nat} {c : Int} {r : List Int} (h : jI w (c :: r) = true) : 0 < w ∧ jI (up c w) r = true := by
  unfold jI at h
  by_cases hw : w = 0
  · rw [if_pos hw] at h; cases h
  · rw [if_neg hw] at h; exact ⟨by omega, h⟩
theorem up_mono {c : Int} {v w : Nat} (h1 : 0 < v) (h2 : v ≤ w) : up c v ≤ up c w ∧ up c w - up c v = w - v := by
  unfold up
  split
  · omega
  · split <;> omega
/-- v parts of w -/
theorem part : ∀ {l : List Int} {v w : Nat}, jI w l = true → 0 < v → v ≤ w → ∃ n, scn v l = some n ∧ 0 < n ∧ n ≤ l.length ∧ jI v (l.take n) = true ∧ jI (w - v) (l.drop n) = true
  | [], v, w, h, h1, h2 => by
    unfold jI at h
    have : w = 0 := by simpa using h
    omega
  | c :: r, v, w, h, h1, h2 => by
    obtain ⟨hw, hj⟩ := jI_cons h
    obtain ⟨m1, m2⟩ := up_mono (c := c) h1 h2
    rw [scn_cons h1]
    by_cases h0 : up c v = 0
    · refine ⟨1, by rw [h0]; cases r <;> rfl, by omega, by simp, ?_, ?_⟩
      · show jI v [c] = true
        unfold jI
        rw [if_neg (by omega), h0]
        rfl
      · show jI (w - v) r = true
        rw [← m2, h0]
        exact hj
    · obtain ⟨n, e1, e2, e3, e4, e5⟩ := part (l := r) (v := up c v) (w := up c w) hj (by omega) m1
      refine ⟨n + 1, by rw [e1]; rfl, by omega, by simp; omega, ?_, ?_⟩
      · show jI v (c :: r.take n) = true
        unfold jI
        rw [if_neg (by omega)]
        exact e4
      · show jI (w - v) (r.drop n) = true
        rw [← m2]
        exact e5
theorem jI_drop : ∀ {l : List Int} {w k : Nat}, jI w l = true → k < l.length → ∃ w', 0 < w' ∧ jI w' (l.drop k) = true
  | [], _, _, _, h => by simp at h
  | c :: r, w, 0, h, _ => ⟨w, (jI_cons h).1, h⟩
  | c :: r, w, k + 1, h, hk => by
    have hk' : k < r.length := by simpa using hk
    exact jI_drop (l := r) (jI_cons h).2 hk'
theorem part_at {l : List Int} {k : Nat} (h : jI 1 l = true) (hk : k < l.length) : ∃ n, scn 1 (l.drop k) = some n ∧ 0 < n ∧ k + n ≤ l.length ∧ jI 1 ((l.drop k).take n) = true := by
  obtain ⟨w, hw, hj⟩ := jI_drop h hk
  obtain ⟨n, e1, e2, e3, e4, _⟩ := part hj (by omega : 0 < 1) hw
  refine ⟨n, e1, e2, ?_, e4⟩
  rw [List.length_drop] at e3
  omega
theorem scn_app : ∀ {l r : List Int} {w n : Nat}, scn w l = some n → scn w (l ++ r) = some n
  | _, _, 0, _, h => by
    unfold scn at h ⊢
    exact h
  | [], _, w + 1, _, h => by simp [scn] at h
  | c :: l, r, w + 1, n, h => by
    rw [scn_cons (by omega)] at h
    rw [List.cons_append, scn_cons (by omega)]
    cases hs : scn (up c (w + 1)) l with
    | none => rw [hs] at h; cases h
    | some m => rw [hs] at h; rw [scn_app hs]; exact h
theorem scn_add : ∀ {l : List Int} {a b n : Nat}, scn a l = some n → scn (a + b) l = (scn b (l.drop n)).map (n + ·)
  | l, 0, b, n, h => by
    have : n = 0 := by cases l <;> simpa [scn] using h.symm
    subst this
    rw [Nat.zero_add, List.drop_zero]
    cases scn b l <;> simp
  | [], a + 1, b, n, h => by simp [scn] at h
  | c :: l, a + 1, b, n, h => by
    rw [scn_cons (by omega)] at h
    rw [scn_cons (by omega)]
    cases hs : scn (up c (a + 1)) l with
    | none => rw [hs] at h; cases h
    | some m =>
      rw [hs] at h
      have e : n = m + 1 := by simpa using h.symm
      subst e
      have e2 : up c (a + 1 + b) = up c (a + 1) + b := by
        unfold up
        split
        · omega
        · split <;> omega
      rw [e2, scn_add hs, List.drop_succ_cons]
      cases scn b (l.drop m) with
      | none => rfl
      | some q => simp; omega
theorem scn_le : ∀ {l : List Int} {w n : Nat}, scn w l = some n → n ≤ l.length
  | l, 0, n, h => by
    have e : n = 0 := by
      have h' : scn 0 l = some 0 := by cases l <;> rfl
      rw [h'] at h; cases h; rfl
    omega
  | [], w + 1, _, h => by simp [scn] at h
  | c :: l, w + 1, n, h => by
    rw [scn_cons (by omega)] at h
    cases hs : scn (up c (w + 1)) l with
    | none => rw [hs] at h; cases h
    | some m =>
      rw [hs] at h
      have e : n = m + 1 := by simpa using h.symm
      have := scn_le hs
      simp; omega
theorem scn_whole {l : List Int} (h : jI 1 l = true) : scn 1 l = some l.length := by
  obtain ⟨n, e1, _, e3, _, e5⟩ := part h (by omega : 0 < 1) (Nat.le_refl 1)
  rw [e1]
  have : l.drop n = [] := by
    cases hd : l.drop n with
    | nil => rfl
    | cons c r => rw [hd] at e5; exact absurd (jI_cons e5).1 (by omega)
  have := congrArg List.length this
  rw [List.length_drop] at this
  simp at this
  congr 1
  omega
theorem scn_zero (l : List Int) : scn 0 l = some 0 := by cases l <;> rfl
/-- a call's end -/
theorem scn_call {r : List Int} {n m : Nat} (h1 : scn 1 r = some n) (h2 : scn 1 (r.drop n) = some m) : scn 1 (0 :: r) = some (1 + n + m) := by
  rw [scn_cons (by omega)]
  show (scn 2 r).map (· + 1) = _
  rw [scn_add (a := 1) (b := 1) h1, h2]
  simp; omega
theorem scn_call_inv {r : List Int} {k : Nat} (h : scn 1 (0 :: r) = some k) : ∃ n m, scn 1 r = some n ∧ scn 1 (r.drop n) = some m ∧ k = 1 + n + m := by
  rw [scn_cons (by omega)] at h
  have h : (scn 2 r).map (· + 1) = some k := h
  cases h1 : scn 1 r with
  | none =>
    exfalso
    have : ∀ (l : List Int) (w : Nat), 0 < w → scn w l = none → scn (w + 1) l = none := by
      intro l
      induction l with
      | nil => intro w _ _; rfl
      | cons c l ih =>
        intro w hw hn
        rw [scn_cons hw] at hn
        rw [scn_cons (by omega)]
        cases hs : scn (up c w) l with
        | some m => rw [hs] at hn; cases hn
        | none =>
          have hp : 0 < up c w := by
            apply Nat.pos_of_ne_zero
            intro z
            rw [z, scn_zero] at hs; cases hs
          have e2 : up c (w + 1) = up c w + 1 := by
            unfold up at hp ⊢
            split
            · omega
            · split
              · rename_i h1 h2; rw [if_neg h1, if_pos h2] at hp; omega
              · omega
          rw [e2, ih _ hp hs]
          rfl
    rw [this r 1 (by omega) h1] at h
    cases h
  | some n =>
    rw [scn_add (a := 1) (b := 1) h1] at h
    cases h2 : scn 1 (r.drop n) with
    | none => rw [h2] at h; cases h
    | some m => rw [h2] at h; exact ⟨n, m, rfl, h2, by simp at h; omega⟩
/-- terms that may be passed -/
structure Tm (ns : List Int) : Prop where
  len : ns.length ≤ 400
  rng : ∀ c ∈ ns, -1 ≤ c ∧ c ≤ 1000
  jd : jI 1 ns = true
theorem Tm.part {ns : List Int} {k n : Nat} (t : Tm ns) (h : scn 1 (ns.drop k) = some n) (hk : k < ns.length) : Tm ((ns.drop k).take n) := by
  obtain ⟨n', e1, _, e3, e4⟩ := part_at t.jd hk
  rw [h] at e1; cases e1
  refine ⟨?_, fun c hc => t.rng c (List.mem_of_mem_drop (List.mem_of_mem_take hc)), e4⟩
  rw [List.length_take, List.length_drop]
  have := t.len
  omega
theorem Tm.pos {ns : List Int} (t : Tm ns) : 0 < ns.length := by
  cases ns with
  | nil => have := t.jd; simp [jI] at this
  | cons c r => simp
end Km
-- second
namespace Dl
open PySem PySem.Spec PyProof.Rows L2 Km
/-! ### parts -/
def unI : D → List Int
  | .tup ds => ds.map fun d => match d with
    | .int i => i
    | _ => 0
  | _ => []
theorem unI_tI (ns : List Int) : unI (tI ns) = ns := by
  show List.map _ (List.map D.int ns) = ns
  rw [List.map_map]
  induction ns with
  | nil => rfl
  | cons n ns ih => rw [List.map_cons, ih]; rfl
/-- how many unI the part at k has -/
def sz (ns : List Int) (k : Nat) : Nat := (scn 1 (ns.drop k)).getD 0
def pre_end_behind : List S → Prop
  | [.val t, .val (.int p)] => ∃ (ns : List Int) (k n : Nat), t = tI ns ∧ p = k ∧ scn 1 (ns.drop k) = some n
  | _ => False
def post_end_behind : List S → DV → Prop
  | [.val t, .val (.int p)], r => r = .c (.int (p + sz (unI t) p.toNat))
  | _, _ => False
def w_end_behind_1 : DS := wRet (wOp rPlus (wOp rPlus (wVar 1) (wVar 3)) (wC (.int 1)))
def w_end_behind_2 : DS := wIfS (wB (wOp rEqq (wVar 2) (wC (.int 0)))) (w_end_behind_1) ((fun R δ => R.nx δ))
def w_end_behind_3 : DS := wSeq (wAug 2 rMinus (wC (.int 1))) (w_end_behind_2)
def w_end_behind_4 : DS := wAug 2 rAddI (wC (.int 1))
def w_end_behind_5 : DS := wIfS (wB (wOp rEqq (wVar 4) (wC (.int 0)))) (w_end_behind_4) ((fun R δ => R.nx δ))
def w_end_behind_6 : DS := wIfS (wB (wOp rGt (wVar 4) (wC (.int 0)))) (w_end_behind_3) (w_end_behind_5)
def w_end_behind_7 : DS := wRet (wCB cLen (waCons (wVar 0) (waNil)))
def w_end_behind_8 : DS := wSeq (wForW (wfEnum (waCons (wSl (wVar 0) (woSome (wVar 1)) (woNone)) (waNil))) (wgTup 2 (wgCons (wgName 3) (wgCons (wgName 4) (wgNil)))) (w_end_behind_6)) (w_end_behind_7)
def w_end_behind : DS := wSeq (wSet 2 (wC (.int 1))) (w_end_behind_8)
def inv_end_behind (ns : List Int) (k n : Nat) (i : Nat) (δ : List S) : Prop := ∃ (v m : Nat) (s3 s4 : S), δ = [.val (tI ns), .val (.int k), .val (.int v), s3, s4] ∧ 0 < v ∧ scn v (ns.drop (k + i)) = some m ∧ i + m = n
theorem goal_end_behind : Goal w_end_behind ["parts", "place", "wanted", "at", "part"] 2 pre_end_behind post_end_behind := by
  intro xs hl hp
  unfold pre_end_behind at hp
  split at hp
  · rename_i t p
    obtain ⟨ns, k, n, rfl, rfl, hs⟩ := hp
    unfold w_end_behind w_end_behind_8 wForW
    simp only [List.length_cons, List.length_nil]
    sleep 90000
    have hcut : cutD (ns.map D.int) (some (k : Int)) none = (ns.drop k).map D.int := by
      rw [cutD_map]
      have e1 : HT.sIx ns.length 0 (some (k : Int)) = min k ns.length := by rw [HT.sIx_nat]; try omega
      have e2 : HT.sIx ns.length ns.length (none : Option Int) = ns.length := rfl
      rw [e1, e2]
      by_cases hk : k ≤ ns.length
      · rw [show min k ns.length = k by omega, List.take_of_length_le (by rw [List.length_drop]; omega)]
      · rw [show min k ns.length = ns.length by omega, List.drop_eq_nil_of_le (show ns.length ≤ ns.length by omega), List.drop_eq_nil_of_le (show ns.length ≤ k by omega)]
        simp
    rw [hcut]
    have hk : k < ns.length := by
      apply Classical.byContradiction
      intro hge
      rw [List.drop_eq_nil_of_le (by omega)] at hs
      simp [scn] at hs
    refine ⟨inv_end_behind ns k n, ⟨1, n, .no, .no, rfl, by omega, hs, by omega⟩, ?_, ?_⟩
    · rintro i d δ hi ⟨v, m, s3, s4, rfl, hv, hs', he⟩
      rw [enumD_get, List.getElem?_map, List.getElem?_drop] at hi
      obtain ⟨c, rfl, hci⟩ : ∃ c, d = .tup [.int (i : Nat), .int c] ∧ ns[k + i]? = some c := by
        cases h : ns[k + i]? with
        | none => rw [h] at hi; cases hi
        | some c => rw [h] at hi; cases hi; exact ⟨c, rfl, rfl⟩
      have hlt := (List.getElem?_eq_some_iff.mp hci).1
      have hdr : ns.drop (k + i) = c :: ns.drop (k + i + 1) := by
        rw [List.drop_eq_getElem_cons hlt]
        congr 1
        exact (List.getElem?_eq_some_iff.mp hci).2
      rw [hdr, scn_cons hv] at hs'
      obtain ⟨m', hm', rfl⟩ : ∃ m', scn (up c v) (ns.drop (k + i + 1)) = some m' ∧ m = m' + 1 := by
        cases hq : scn (up c v) (ns.drop (k + i + 1)) with
        | none => rw [hq] at hs'; cases hs'
        | some m' => rw [hq] at hs'; exact ⟨m', rfl, by simpa using hs'.symm⟩
      refine ⟨_, rfl, rfl, _, _, rfl, _, _, rfl, rfl, ?_⟩
      unfold w_end_behind_6
      sleep 90000
      by_cases h1 : 0 < c
      · rw [if_pos h1]
        have hup : up c v = v - 1 := by unfold up; rw [if_neg (by omega), if_pos h1]
        unfold w_end_behind_3
        sleep 90000
        unfold w_end_behind_2
        sleep 90000
        by_cases hv1 : v = 1
        · subst hv1
          rw [if_pos (by omega)]
          unfold w_end_behind_1
          sleep 90000
          rw [hup, scn_zero] at hm'
          cases hm'
          simp only [post_end_behind, unI_tI, sz, Int.toNat_natCast, hs, Option.getD_some]
          rw [show (k : Int) + (i : Int) + 1 = (k : Int) + ((n : Nat) : Int) by omega]
        · rw [if_neg (by omega)]
          have ev : ((v : Int) - 1) = ((v - 1 : Nat) : Int) := by omega
          rw [ev]
          refine ⟨v - 1, m', _, _, rfl, by omega, ?_, by omega⟩
          rw [← hup]; exact hm'
      · rw [if_neg h1]
        unfold w_end_behind_5
        sleep 90000
        by_cases h0 : c = 0
        · rw [if_pos h0]
          unfold w_end_behind_4
          sleep 90000
          refine ⟨v + 1, m', _, _, rfl, by omega, ?_, by omega⟩
          rw [← hm']; unfold up; rw [if_pos h0]; rfl
        · rw [if_neg h0]
          refine ⟨v, m', _, _, rfl, by omega, ?_, by omega⟩
          rw [← hm']; unfold up; rw [if_neg h0, if_neg h1]; rfl
    · rintro δ ⟨v, m, s3, s4, rfl, hv, hs', he⟩
      exfalso
      rw [enumD_len, List.length_map, List.length_drop] at hs' he
      rw [List.drop_eq_nil_of_le (by omega)] at hs'
      obtain ⟨v', rfl⟩ : ∃ v', v = v' + 1 := ⟨v - 1, by omega⟩
      simp [scn] at hs'
  · exact hp.elim
end Dl
namespace Km
/-! how many functions are around each int, by a stack -/
def stk (d : Nat) (st : List Nat) (c : Int) : List Nat := if c = 0 then d :: d :: st else if c = -1 then (d + 1) :: st else st
def dep : List Nat → List Int → List Nat
  | _, [] => []
  | [], _ :: _ => []
  | d :: st, c :: r => d :: dep (stk d st c) r
theorem stk_up {d : Nat} {st : List Nat} {c : Int} (h : -1 ≤ c) : (stk d st c).length = up c (st.length + 1) := by
  unfold stk up
  by_cases h0 : c = 0
  · rw [if_pos h0, if_pos h0]; simp
  · rw [if_neg h0, if_neg h0]
    by_cases h1 : c = -1
    · rw [if_pos h1, if_neg (by omega)]; simp
    · rw [if_neg h1, if_pos (by omega)]; simp
theorem dep_cons (d : Nat) (st : List Nat) (c : Int) (r : List Int) : dep (d :: st) (c :: r) = d :: dep (stk d st c) r := rfl
theorem dep_len : ∀ {ns : List Int} {st : List Nat}, jI st.length ns = true → (∀ c ∈ ns, -1 ≤ c) → (dep st ns).length = ns.length
  | [], _, _, _ => by unfold dep; rfl
  | c :: r, [], h, _ => by have := (jI_cons h).1; simp at this
  | c :: r, d :: st, h, hc => by
    have hj := (jI_cons h).2
    have h1 := hc c List.mem_cons_self
    unfold dep
    rw [List.length_cons, List.length_cons, dep_len (by rw [stk_up h1]; exact hj) fun x hx => hc x (List.mem_cons_of_mem _ hx)]
end Km
namespace Dl
open PySem PySem.Spec PyProof.Rows L2 Km
abbrev nI (d : Nat) : D := .int (d : Int)
def pre_depths_in : List S → Prop
  | [.val t] => ∃ ns : List Int, t = tI ns ∧ jI 1 ns = true ∧ (∀ c ∈ ns, -1 ≤ c) ∧ ns.length ≤ 10000
  | _ => False
def post_depths_in : List S → DV → Prop
  | [.val t], r => r = .f ((dep [0] (unI t)).map nI)
  | _, _ => False
def w_depths_in_1 : DS := wApp 1 (wVar 4)
def w_depths_in_2 : DS := wSeq (wApp 1 (wVar 4)) (w_depths_in_1)
def w_depths_in_3 : DS := wApp 1 (wOp rPlus (wVar 4) (wC (.int 1)))
def w_depths_in_4 : DS := wIfS (wB (wOp rEqq (wVar 3) (wUn rNeg (wC (.int 1))))) (w_depths_in_3) ((fun R δ => R.nx δ))
def w_depths_in_5 : DS := wIfS (wB (wOp rEqq (wVar 3) (wC (.int 0)))) (w_depths_in_2) (w_depths_in_4)
def w_depths_in_6 : DS := wSeq (wApp 2 (wVar 4)) (w_depths_in_5)
def w_depths_in_7 : DS := wSeq (wPop 1 (wgName 4)) (w_depths_in_6)
def w_depths_in_8 : DS := wRet (wVar 2)
def w_depths_in_9 : DS := wSeq (wFor (wVar 0) (wgName 3) (w_depths_in_7)) (w_depths_in_8)
def w_depths_in_10 : DS := wSeq (wSet 2 (wLst (waNil))) (w_depths_in_9)
def w_depths_in : DS := wSeq (wSet 1 (wLst (waCons (wC (.int 0)) (waNil)))) (w_depths_in_10)
def inv_depths_in (ns : List Int) (i : Nat) (δ : List S) : Prop := ∃ (made st : List Nat) (s3 s4 : S), δ = [.val (tI ns), .own (st.reverse.map nI), .own (made.map nI), s3, s4] ∧ made.length = i ∧ dep [0] ns = made ++ dep st (ns.drop i) ∧ jI st.length (ns.drop i) = true ∧ st.length ≤ i + 1
theorem goal_depths_in : Goal w_depths_in ["term", "waiting", "depths", "part", "depth"] 1 pre_depths_in post_depths_in := by
  intro xs hl hp
  unfold pre_depths_in at hp
  split at hp
  · rename_i t
    obtain ⟨ns, rfl, hj, hc, hlen⟩ := hp
    unfold w_depths_in w_depths_in_10 w_depths_in_9
    simp only [List.length_cons, List.length_nil]
    sleep 90003
    refine ⟨by decide, by decide, ?_⟩
    unfold wFor
    sleep 90003
    refine ⟨inv_depths_in ns, ⟨[], [0], _, _, rfl, rfl, rfl, hj, Nat.le_refl _⟩, ?_, ?_⟩
    · rintro i d δ hi ⟨made, st, s3, s4, rfl, hm, hd, hs, hsl⟩
      obtain ⟨c, rfl, hci⟩ : ∃ c, d = .int c ∧ ns[i]? = some c := by
        rw [List.getElem?_map] at hi
        cases h : ns[i]? with
        | none => rw [h] at hi; cases hi
        | some c => rw [h] at hi; cases hi; exact ⟨c, rfl, rfl⟩
      have hlt := (List.getElem?_eq_some_iff.mp hci).1
      have hdr : ns.drop i = c :: ns.drop (i + 1) := by
        rw [List.drop_eq_getElem_cons hlt]
        congr 1
        exact (List.getElem?_eq_some_iff.mp hci).2
      have hc1 : -1 ≤ c := hc c (List.mem_of_getElem? hci)
      rw [hdr] at hd hs
      obtain ⟨hw, hs'⟩ := jI_cons hs
      cases st with
      | nil => simp at hw
      | cons e st =>
        have hd' : dep [0] ns = (made ++ [e]) ++ dep (stk e st c) (ns.drop (i + 1)) := by rw [hd, dep_cons]; simp
        have hs2 : jI (stk e st c).length (ns.drop (i + 1)) = true := by rw [stk_up hc1]; exact hs'
        have pop1 : ((e :: st).reverse.map nI)[((e :: st).reverse.map nI).length - 1]? = some (nI e) := by simp
        have pop2 : ((e :: st).reverse.map nI).dropLast = st.reverse.map nI := by simp
        unfold w_depths_in_7
        sleep 90003
        refine ⟨_, pop1, ?_⟩
        rw [pop2]
        unfold w_depths_in_6
        sleep 90003
        refine ⟨by simp; omega, ?_⟩
        have hst : st.length ≤ i := by simpa using hsl
        have fin : ∀ (δ : List S), δ = [.val (tI ns), .own ((stk e st c).reverse.map nI), .own (made.map nI ++ [nI e]), .val (.int c), .val (nI e)] → inv_depths_in ns (i + 1) δ := by
          rintro δ rfl
          refine ⟨made ++ [e], stk e st c, .val (.int c), .val (nI e), by simp, by simp [hm], hd', hs2, ?_⟩
          rw [stk_up hc1]
          unfold up
          split
          · omega
          · split <;> omega
        unfold w_depths_in_5 w_depths_in_2 w_depths_in_1
        sleep 90003
        by_cases h0 : c = 0
        · rw [if_pos h0]
          refine ⟨by simp; omega, by simp; omega, fin _ ?_⟩
          unfold stk
          rw [if_pos h0]
          simp
        · rw [if_neg h0]
          unfold w_depths_in_4 w_depths_in_3
          sleep 90003
          by_cases h1 : c = -1
          · rw [if_pos (by simpa using h1)]
            refine ⟨by simp; omega, fin _ ?_⟩
            unfold stk
            rw [if_neg h0, if_pos h1]
            simp
          · rw [if_neg (by simpa using h1)]
            refine fin _ ?_
            unfold stk
            rw [if_neg h0, if_neg h1]
    · rintro δ ⟨made, st, s3, s4, rfl, hm, hd, hs, hsl⟩
      unfold w_depths_in_8
      sleep 90003
      rw [List.length_map] at hm
      have : ns.drop ns.length = [] := by simp
      simp only [List.length_map, List.drop_length] at hd
      have he : dep st ([] : List Int) = [] := by unfold dep; rfl
      rw [he, List.append_nil] at hd
      simp only [post_depths_in, unI_tI, hd]
  · exact hp.elim
end Dl
namespace Km
/-! for each part the way to the root: holders and kinds, from inside -/
inductive Knd where
  | body | func | arg
deriving DecidableEq
abbrev Way := List (Nat × Knd)
/-- the parts that are due behind the int c at p, whose own way is a -/
def dueW (p : Nat) (a : Way) (st : List Way) (c : Int) : List Way := if c = 0 then ((p, .func) :: a) :: ((p, .arg) :: a) :: st else if c = -1 then ((p, .body) :: a) :: st else st
def ways : List Way → Nat → List Int → List Way
  | _, _, [] => []
  | [], _, _ :: _ => []
  | a :: st, p, c :: r => a :: ways (dueW p a st c) (p + 1) r
theorem ways_cons (a : Way) (st : List Way) (p : Nat) (c : Int) (r : List Int) : ways (a :: st) p (c :: r) = a :: ways (dueW p a st c) (p + 1) r := rfl
theorem ways_nil (st : List Way) (p : Nat) : ways st p [] = [] := by unfold ways; rfl
theorem dueW_len {p : Nat} {a : Way} {st : List Way} {c : Int} (h : -1 ≤ c) : (dueW p a st c).length = up c (st.length + 1) := by
  unfold dueW up
  by_cases h0 : c = 0
  · rw [if_pos h0, if_pos h0]; simp
  · rw [if_neg h0, if_neg h0]
    by_cases h1 : c = -1
    · rw [if_pos h1, if_neg (by omega)]; simp
    · rw [if_neg h1, if_pos (by omega)]; simp
theorem ways_len : ∀ {ns : List Int} {st : List Way} {p : Nat}, jI st.length ns = true → (∀ c ∈ ns, -1 ≤ c) → (ways st p ns).length = ns.length
  | [], _, _, _, _ => by unfold ways; rfl
  | c :: r, [], _, h, _ => by have := (jI_cons h).1; simp at this
  | c :: r, a :: st, p, h, hc => by
    have hj := (jI_cons h).2
    have h1 := hc c List.mem_cons_self
    unfold ways
    rw [List.length_cons, List.length_cons, ways_len (by rw [dueW_len h1]; exact hj) fun x hx => hc x (List.mem_cons_of_mem _ hx)]
/-- the pass, cut at i; what is due comes from ahead -/
theorem ways_at : ∀ {ns : List Int} {st : List Way} {p i : Nat}, jI st.length ns = true → (∀ c ∈ ns, -1 ≤ c) → i < ns.length → (∀ s ∈ st, ∀ x ∈ s, x.1 < p) →
    ∃ a st', (ways st p ns)[i]? = some a ∧ (ways st p ns).drop i = ways (a :: st') (p + i) (ns.drop i) ∧ jI (st'.length + 1) (ns.drop i) = true ∧ ∀ s ∈ a :: st', ∀ x ∈ s, x.1 < p + i
  | [], _, _, _, _, _, h, _ => by simp at h
  | c :: r, [], _, _, h, _, _, _ => by have := (jI_cons h).1; simp at this
  | c :: r, a :: st, p, 0, h, _, _, lo => ⟨a, st, rfl, rfl, h, lo⟩
  | c :: r, a :: st, p, i + 1, h, hc, hi, lo => by
    have hj := (jI_cons h).2
    have h1 := hc c List.mem_cons_self
    have lo' : ∀ s ∈ dueW p a st c, ∀ x ∈ s, x.1 < p + 1 := by
      have one : ∀ k : Knd, ∀ x ∈ ((p, k) :: a : Way), x.1 < p + 1 := fun k x hx => by
        rcases List.mem_cons.mp hx with rfl | hx
        · exact Nat.lt_succ_self _
        · exact Nat.lt_succ_of_lt (lo a List.mem_cons_self x hx)
      have old : ∀ s ∈ st, ∀ x ∈ s, x.1 < p + 1 := fun s hs x hx => Nat.lt_succ_of_lt (lo s (List.mem_cons_of_mem _ hs) x hx)
      intro s hs
      unfold dueW at hs
      split at hs
      · rcases List.mem_cons.mp hs with rfl | hs
        · exact one _
        · rcases List.mem_cons.mp hs with rfl | hs
          · exact one _
          · exact old s hs
      · split at hs
        · rcases List.mem_cons.mp hs with rfl | hs
          · exact one _
          · exact old s hs
        · exact old s hs
    obtain ⟨b, st', e1, e2, e3, e4⟩ := ways_at (ns := r) (st := dueW p a st c) (p := p + 1) (i := i) (by rw [dueW_len h1]; exact hj) (fun x hx => hc x (List.mem_cons_of_mem _ hx)) (by simpa using hi) lo'
    refine ⟨b, st', by rw [ways_cons]; simpa using e1, ?_, e3, fun s hs x hx => ?_⟩
    · rw [ways_cons, List.drop_succ_cons, e2, List.drop_succ_cons]
      congr 1
      omega
    · have := e4 s hs x hx
      omega
/-- what holds of all due ways, and is kept by a step down, holds of all parts of the block; behind the block others are due -/
theorem ways_block {P : Way → Prop} (cl : ∀ x a, P a → P (x :: a)) : ∀ {r : List Int} {A st : List Way} {p n : Nat}, (∀ x ∈ A, P x) → (∀ c ∈ r, -1 ≤ c) → scn A.length r = some n →
    (∀ i a, i < n → (ways (A ++ st) p r)[i]? = some a → P a) ∧ (ways (A ++ st) p r).drop n = ways st (p + n) (r.drop n)
  | r, [], st, p, n, _, _, h => by
    have : n = 0 := by rw [List.length_nil, scn_zero] at h; cases h; rfl
    subst this
    exact ⟨fun i a hi => by omega, by simp⟩
  | [], a :: A, st, p, n, _, _, h => by simp [scn] at h
  | c :: r, a :: A, st, p, n, hP, hc, h => by
    have h1 := hc c List.mem_cons_self
    rw [List.length_cons, scn_cons (by omega)] at h
    cases hs : scn (up c (A.length + 1)) r with
    | none => rw [hs] at h; cases h
    | some m =>
      rw [hs] at h
      have en : n = m + 1 := by simpa using h.symm
      subst en
      have Pa := hP a List.mem_cons_self
      have split : dueW p a (A ++ st) c = dueW p a A c ++ st := by
        unfold dueW
        split
        · rfl
        · split <;> rfl
      have PA : ∀ x ∈ dueW p a A c, P x := by
        intro x hx
        unfold dueW at hx
        split at hx
        · rcases List.mem_cons.mp hx with rfl | hx
          · exact cl _ _ Pa
          · rcases List.mem_cons.mp hx with rfl | hx
            · exact cl _ _ Pa
            · exact hP x (List.mem_cons_of_mem _ hx)
        · split at hx
          · rcases List.mem_cons.mp hx with rfl | hx
            · exact cl _ _ Pa
            · exact hP x (List.mem_cons_of_mem _ hx)
          · exact hP x (List.mem_cons_of_mem _ hx)
      obtain ⟨i1, i2⟩ := ways_block cl (r := r) (A := dueW p a A c) (st := st) (p := p + 1) (n := m) PA (fun x hx => hc x (List.mem_cons_of_mem _ hx)) (by rw [dueW_len h1]; exact hs)
      rw [List.cons_append, ways_cons, split]
      refine ⟨fun i b hi hb => ?_, ?_⟩
      · cases i with
        | zero => simp at hb; subst hb; exact Pa
        | succ i => exact i1 i b (by omega) (by simpa using hb)
      · rw [List.drop_succ_cons, i2, List.drop_succ_cons]
        congr 1
        omega
/-- all holders that turn up were due ahead, or come now -/
theorem ways_from : ∀ {r : List Int} {st : List Way} {p i : Nat} {a : Way}, (ways st p r)[i]? = some a → ∀ x ∈ a, (∃ s ∈ st, x ∈ s) ∨ p ≤ x.1
  | [], _, _, _, _, h => by simp [ways_nil] at h
  | c :: r, [], _, _, _, h => by simp [ways] at h
  | c :: r, b :: st, p, 0, a, h => by
    rw [ways_cons] at h; simp at h; subst h
    exact fun x hx => .inl ⟨b, List.mem_cons_self, hx⟩
  | c :: r, b :: st, p, i + 1, a, h => by
    rw [ways_cons] at h
    intro x hx
    rcases ways_from (r := r) (st := dueW p b st c) (p := p + 1) (i := i) (a := a) (by simpa using h) x hx with ⟨s, hs, hxs⟩ | h2
    · unfold dueW at hs
      have fin : ∀ k : Knd, s = (p, k) :: b → (∃ s ∈ b :: st, x ∈ s) ∨ p ≤ x.1 := fun k e => by
        subst e
        rcases List.mem_cons.mp hxs with rfl | hx
        · exact .inr (Nat.le_refl _)
        · exact .inl ⟨b, List.mem_cons_self, hx⟩
      split at hs
      · rcases List.mem_cons.mp hs with e | hs
        · exact fin _ e
        · rcases List.mem_cons.mp hs with e | hs
          · exact fin _ e
          · exact .inl ⟨s, List.mem_cons_of_mem _ hs, hxs⟩
      · split at hs
        · rcases List.mem_cons.mp hs with e | hs
          · exact fin _ e
          · exact .inl ⟨s, List.mem_cons_of_mem _ hs, hxs⟩
        · exact .inl ⟨s, List.mem_cons_of_mem _ hs, hxs⟩
    · exact .inr (by omega)
/-- the int that holds so -/
def fitsK (c : Int) : Knd → Prop
  | .body => c = -1
  | _ => c = 0
/-- each way is the root's, one that was due, or a step down from the way of an earlier part -/
theorem ways_step : ∀ {r : List Int} {st : List Way} {p i : Nat} {a : Way}, (ways st p r)[i]? = some a →
    a ∈ st ∨ ∃ j k b c, j < i ∧ (ways st p r)[j]? = some b ∧ r[j]? = some c ∧ fitsK c k ∧ a = (p + j, k) :: b
  | [], _, _, _, _, h => by simp [ways_nil] at h
  | c :: r, [], _, _, _, h => by simp [ways] at h
  | c :: r, b :: st, p, 0, a, h => by
    rw [ways_cons] at h; simp at h; subst h
    exact .inl List.mem_cons_self
  | c :: r, b :: st, p, i + 1, a, h => by
    rw [ways_cons] at h ⊢
    rcases ways_step (r := r) (st := dueW p b st c) (p := p + 1) (i := i) (a := a) (by simpa using h) with hs | ⟨j, k, b', c', h1, h2, h3, h4, h5⟩
    · unfold dueW at hs
      have fin : ∀ (k : Knd), a = (p, k) :: b → fitsK c k → a ∈ b :: st ∨ ∃ j k b' c', j < i + 1 ∧ (b :: ways (dueW p b st c) (p + 1) r)[j]? = some b' ∧ (c :: r)[j]? = some c' ∧ fitsK c' k ∧ a = (p + j, k) :: b' :=
        fun k e f => .inr ⟨0, k, b, c, by omega, rfl, rfl, f, e⟩
      split at hs
      · rename_i h0
        rcases List.mem_cons.mp hs with e | hs
        · exact fin _ e h0
        · rcases List.mem_cons.mp hs with e | hs
          · exact fin _ e h0
          · exact .inl (List.mem_cons_of_mem _ hs)
      · split at hs
        · rename_i h1
          rcases List.mem_cons.mp hs with e | hs
          · exact fin _ e h1
          · exact .inl (List.mem_cons_of_mem _ hs)
        · exact .inl (List.mem_cons_of_mem _ hs)
    · exact .inr ⟨j + 1, k, b', c', by omega, by simpa using h2, by simpa using h3, h4, by rw [h5]; congr 2; omega⟩
/-- the ways of a whole term -/
def wy (ns : List Int) : List Way := ways [[]] 0 ns
structure Ok (ns : List Int) : Prop where
  jd : jI 1 ns = true
  lo : ∀ c ∈ ns, -1 ≤ c
section
variable {ns : List Int}
theorem wy_len (o : Ok ns) : (wy ns).length = ns.length := ways_len o.jd o.lo
theorem wy_zero (o : Ok ns) : (wy ns)[0]? = some [] := by
  unfold wy
  cases ns with
  | nil => have := o.jd; simp [jI] at this
  | cons c r => rw [ways_cons]; rfl
/-- one step up -/
theorem wy_up (o : Ok ns) {k : Nat} {a : Way} (h : (wy ns)[k]? = some a) : a = [] ∨ ∃ j kd b c, j < k ∧ (wy ns)[j]? = some b ∧ ns[j]? = some c ∧ fitsK c kd ∧ a = (j, kd) :: b := by
  rcases ways_step h with hs | ⟨j, kd, b, c, h1, h2, h3, h4, h5⟩
  · exact .inl (by simpa using hs)
  · exact .inr ⟨j, kd, b, c, h1, h2, h3, h4, by rw [h5]; congr 2; omega⟩
/-- the holders on a way lie ahead -/
theorem wy_lt (o : Ok ns) : ∀ {k : Nat} {a : Way}, (wy ns)[k]? = some a → ∀ x ∈ a, x.1 < k := by
  intro k
  induction k using Nat.strongRecOn with
  | _ k ih =>
    intro a h x hx
    rcases wy_up o h with rfl | ⟨j, kd, b, c, hj, hb, _, _, rfl⟩
    · simp at hx
    · rcases List.mem_cons.mp hx with rfl | hx
      · exact hj
      · have := ih j hj hb x hx; omega
/-- behind a holder on a way stands the way of the holder -/
theorem wy_suffix (o : Ok ns) : ∀ {k : Nat} {a : Way}, (wy ns)[k]? = some a → ∀ {l : Way} {x : Nat × Knd} {b : Way}, a = l ++ x :: b → (wy ns)[x.1]? = some b ∧ ∃ c, ns[x.1]? = some c ∧ fitsK c x.2 := by
  intro k
  induction k using Nat.strongRecOn with
  | _ k ih =>
    intro a h l x b e
    rcases wy_up o h with rfl | ⟨j, kd, b', c, hj, hb, hc, hf, rfl⟩
    · simp at e
    · cases l with
      | nil =>
        simp at e
        obtain ⟨rfl, rfl⟩ := e
        exact ⟨hb, c, hc, hf⟩
      | cons y l =>
        simp at e
        exact ih j hj hb e.2
/-- p holds k, near or far, just if k lies within p -/
theorem wy_within (o : Ok ns) {p k n : Nat} {a : Way} (hp : p < ns.length) (hs : scn 1 (ns.drop p) = some n) (h : (wy ns)[k]? = some a) : (∃ kd, (p, kd) ∈ a) ↔ p < k ∧ k < p + n := by
  obtain ⟨b, st, e1, e2, e3, e4⟩ := ways_at (st := [[]]) (p := 0) o.jd o.lo hp (by simp)
  rw [Nat.zero_add] at e2 e4
  have hcs : ∀ c ∈ ns.drop p, -1 ≤ c := fun c hc => o.lo c (List.mem_of_mem_drop hc)
  have pos : 0 < n := by
    obtain ⟨n', e, pos, _⟩ := part_at o.jd hp
    rw [hs] at e; cases e; exact pos
  have hk : (ways [[]] 0 ns)[k]? = some a := h
  constructor
  · rintro ⟨kd, hm⟩
    have lt := wy_lt o h _ hm
    refine ⟨lt, Classical.byContradiction fun ge => ?_⟩
    obtain ⟨_, dr⟩ := ways_block (P := fun _ => True) (fun _ _ _ => trivial) (r := ns.drop p) (A := [b]) (st := st) (p := p) (n := n) (fun _ _ => trivial) hcs hs
    rw [List.singleton_append, ← e2, List.drop_drop, List.drop_drop] at dr
    have hk' : (ways st (p + n) (ns.drop (p + n)))[k - (p + n)]? = some a := by
      rw [← dr, List.getElem?_drop]
      rw [show p + n + (k - (p + n)) = k by omega]
      exact hk
    rcases ways_from hk' _ hm with ⟨s, hs', hx⟩ | ge2
    · have := e4 s (List.mem_cons_of_mem _ hs') _ hx
      simp at this
    · simp at ge2
      omega
  · rintro ⟨h1, h2⟩
    have hd : ns.drop p = ns[p] :: ns.drop (p + 1) := List.drop_eq_getElem_cons hp
    have hc1 : -1 ≤ ns[p] := o.lo _ (List.getElem_mem hp)
    rw [hd, scn_cons (by omega)] at hs
    cases hm : scn (up ns[p] 1) (ns.drop (p + 1)) with
    | none => rw [hm] at hs; cases hs
    | some m =>
      rw [hm] at hs
      have en : n = m + 1 := by simpa using hs.symm
      subst en
      have e5 : (ways [[]] 0 ns).drop (p + 1) = ways (dueW p b [] ns[p] ++ st) (p + 1) (ns.drop (p + 1)) := by
        have : (ways [[]] 0 ns).drop (p + 1) = ((ways [[]] 0 ns).drop p).drop 1 := by rw [List.drop_drop]
        rw [this, e2, hd, ways_cons, List.drop_succ_cons, List.drop_zero]
        congr 1
        unfold dueW
        split
        · rfl
        · split <;> rfl
      obtain ⟨inb, _⟩ := ways_block (P := fun x => ∃ kd, (p, kd) ∈ x) (fun x a ⟨kd, h⟩ => ⟨kd, List.mem_cons_of_mem _ h⟩) (r := ns.drop (p + 1)) (A := dueW p b [] ns[p]) (st := st) (p := p + 1) (n := m) (fun x hx => by
        unfold dueW at hx
        split at hx
        · rcases List.mem_cons.mp hx with rfl | hx
          · exact ⟨_, List.mem_cons_self⟩
          · rcases List.mem_cons.mp hx with rfl | hx
            · exact ⟨_, List.mem_cons_self⟩
            · simp at hx
        · split at hx
          · rcases List.mem_cons.mp hx with rfl | hx
            · exact ⟨_, List.mem_cons_self⟩
            · simp at hx
          · simp at hx) (fun c hc => o.lo c (List.mem_of_mem_drop hc)) (by rw [dueW_len hc1]; exact hm)
      refine inb (k - (p + 1)) a (by omega) ?_
      rw [← e5, List.getElem?_drop, show p + 1 + (k - (p + 1)) = k by omega]
      exact hk
end
end Km
/-! equality of data without truth values -/
namespace Dl
open PySem PySem.Spec PyProof.Rows L2
/-- no truth values, dicts, classes within; texts that can be laid; so deep at most -/
inductive Pl : Nat → D → Prop
  | non {n} : Pl n .non
  | int {n} (i : Int) : Pl n (.int i)
  | str {n} (x : Str) (h : PyData.canLay0 (.str x) = true) : Pl n (.str x)
  | tup {n} (ds : List D) (h : ∀ d ∈ ds, Pl n d) : Pl (n + 1) (.tup ds)
  | lst {n} (ds : List D) (h : ∀ d ∈ ds, Pl n d) : Pl (n + 1) (.lst ds)
theorem plains_of : ∀ {ds : List D}, (∀ d ∈ ds, plain d = true) → plains ds = true
  | [], _ => by rw [plains]
  | d :: ds, h => by rw [plains, h d List.mem_cons_self, plains_of fun x hx => h x (List.mem_cons_of_mem _ hx)]; rfl
theorem layAll_of : ∀ {ds : List D}, (∀ d ∈ ds, (py d).canLay0 = true) → PyData.canLayAll0 (pys ds) = true
  | [], _ => by rw [pys, PyData.canLayAll0]
  | d :: ds, h => by rw [pys, PyData.canLayAll0, h d List.mem_cons_self, layAll_of fun x hx => h x (List.mem_cons_of_mem _ hx)]; rfl
theorem depthAll_of {n : Nat} : ∀ {ds : List D}, (∀ d ∈ ds, (py d).depth ≤ n) → PyData.depthAll (pys ds) ≤ n
  | [], _ => by rw [pys, PyData.depthAll]; omega
  | d :: ds, h => by
    have h1 := h d List.mem_cons_self
    have h2 := depthAll_of fun x hx => h x (List.mem_cons_of_mem _ hx)
    rw [pys, PyData.depthAll]; omega
theorem Pl.facts : ∀ {n : Nat} {d : D}, Pl n d → plain d = true ∧ (py d).canLay0 = true ∧ (py d).depth ≤ n := by
  intro n d h
  induction h with
  | non => refine ⟨by rw [plain], by rw [py]; rfl, by rw [py, PyData.depth]; omega⟩
  | int i => refine ⟨by rw [plain], by rw [py]; rfl, by rw [py, PyData.depth]; omega⟩
  | str x h => refine ⟨by rw [plain], by rw [py]; exact h, by rw [py, PyData.depth]; omega⟩
  | tup ds h ih =>
    refine ⟨?_, ?_, ?_⟩
    · rw [plain]; exact plains_of fun d hd => (ih d hd).1
    · rw [py, PyData.canLay0]; exact layAll_of fun d hd => (ih d hd).2.1
    · rw [py, PyData.depth]
      have := depthAll_of fun d hd => (ih d hd).2.2
      omega
  | lst ds h ih =>
    refine ⟨?_, ?_, ?_⟩
    · rw [plain]; exact plains_of fun d hd => (ih d hd).1
    · rw [py, PyData.canLay0]; exact layAll_of fun d hd => (ih d hd).2.1
    · rw [py, PyData.depth]
      have := depthAll_of fun d hd => (ih d hd).2.2
      omega
theorem Pl.ok {n : Nat} {d : D} (h : Pl n d) (hn : n ≤ 64 := by decide) : okD d := by
  obtain ⟨h1, h2, h3⟩ := h.facts
  refine ⟨h1, ?_⟩
  unfold SeqAt.shaped
  rw [h2, decide_eq_true (by omega)]
  rfl
theorem Pl.up {n : Nat} {d : D} (h : Pl n d) : ∀ {m : Nat}, n ≤ m → Pl m d := by
  induction h with
  | non => exact fun _ => .non
  | int i => exact fun _ => .int i
  | str x h => exact fun _ => .str x h
  | tup ds h ih =>
    intro m hm
    obtain ⟨m', rfl⟩ : ∃ m', m = m' + 1 := ⟨m - 1, by omega⟩
    exact .tup ds fun d hd => ih d hd (by omega)
  | lst ds h ih =>
    intro m hm
    obtain ⟨m', rfl⟩ : ∃ m', m = m' + 1 := ⟨m - 1, by omega⟩
    exact .lst ds fun d hd => ih d hd (by omega)
theorem pl_ints {n : Nat} (ns : List Int) : Pl (n + 1) (.tup (ns.map .int)) := .tup _ fun d hd => by
  obtain ⟨i, _, rfl⟩ := List.mem_map.mp hd
  exact .int i
theorem pl_intl {n : Nat} (ns : List Int) : Pl (n + 1) (.lst (ns.map .int)) := .lst _ fun d hd => by
  obtain ⟨i, _, rfl⟩ := List.mem_map.mp hd
  exact .int i
theorem eqvAll_iff {n : Nat} (ih : ∀ {d e : D}, Pl n d → Pl n e → (eqD d e = true ↔ d = e)) : ∀ {ds es : List D}, (∀ d ∈ ds, Pl n d) → (∀ d ∈ es, Pl n d) → (PyData.eqvAll (pys ds) (pys es) = true ↔ ds = es)
  | [], [], _, _ => by rw [pys, PyData.eqvAll]; simp
  | [], e :: es, _, _ => by rw [pys, pys, PyData.eqvAll]; simp
  | d :: ds, [], _, _ => by rw [pys, pys, PyData.eqvAll]; simp
  | d :: ds, e :: es, h1, h2 => by
    have i1 := ih (h1 d List.mem_cons_self) (h2 e List.mem_cons_self)
    have i2 := eqvAll_iff ih (fun x hx => h1 x (List.mem_cons_of_mem _ hx)) fun x hx => h2 x (List.mem_cons_of_mem _ hx)
    rw [pys, pys, PyData.eqvAll, Bool.and_eq_true, i2]
    show eqD d e = true ∧ _ ↔ _
    rw [i1]
    simp
theorem eqD_iff : ∀ {n : Nat} {d e : D}, Pl n d → Pl n e → (eqD d e = true ↔ d = e)
  | 0, d, e, h1, h2 => by
    unfold eqD
    cases h1 <;> cases h2 <;> simp [py, PyData.eqv]
  | n + 1, d, e, h1, h2 => by
    have ih : ∀ {d e : D}, Pl n d → Pl n e → (eqD d e = true ↔ d = e) := eqD_iff
    unfold eqD
    cases h1 <;> cases h2 <;> first
      | (simp [py, PyData.eqv]; done)
      | (simp only [py, PyData.eqv]; rw [eqvAll_iff ih (by assumption) (by assumption)]; simp)
theorem eqD_eq {n : Nat} {d e : D} (h1 : Pl n d) (h2 : Pl n e) (h : d = e) : eqD d e = true := (eqD_iff h1 h2).mpr h
theorem eqD_ne {n : Nat} {d e : D} (h1 : Pl n d) (h2 : Pl n e) (h : d ≠ e) : eqD d e = false := by
  cases hh : eqD d e with
  | false => rfl
  | true => exact absurd ((eqD_iff h1 h2).mp hh) h
theorem rangeD_get {lo : Int} {n i : Nat} {d : D} (h : (rangeD lo n)[i]? = some d) : i < n ∧ d = .int (lo + (i : Nat)) := by
  unfold rangeD at h
  rw [List.getElem?_map] at h
  by_cases hi : i < n
  · rw [List.getElem?_range hi] at h; cases h; exact ⟨hi, rfl⟩
  · rw [List.getElem?_eq_none (by simp; omega)] at h; cases h
theorem rangeD_len {lo : Int} {n : Nat} : (rangeD lo n).length = n := by unfold rangeD; simp
theorem filter_range {f : Nat → Bool} {j : Nat} : (List.range (j + 1)).filter f = (List.range j).filter f ++ (if f j = true then [j] else []) := by
  rw [List.range_succ, List.filter_append]
  congr 1
  by_cases h : f j = true
  · rw [if_pos h, List.filter_cons_of_pos h]; rfl
  · rw [if_neg h, List.filter_cons_of_neg (by simpa using h)]; rfl
end Dl
-- second
namespace Dl
open PySem L2 Km
/-! ### which values are terms -/
def toI : D → Int
  | .int i => i
  | _ => 0
def jD : Nat → List D → Bool
  | w, [] => decide (w = 0)
  | w, d :: r => if w = 0 ∨ within d (-1) 1000 = false then false else jD (up (toI d) w) r
def isTermD : D → Bool
  | .tup ds => decide (ds.length ≤ 400) && jD 1 ds
  | _ => false
def okVal (d : D) : Prop := noTy d = true ∧ ∀ ds, d = .tup ds → ∀ x ∈ ds, noTy x = true
def pre_is_term : List S → Prop
  | [.val d] => okVal d
  | _ => False
def post_is_term : List S → DV → Prop
  | [.val d], r => r = .c (.bl (isTermD d))
  | _, _ => False
def w_is_term_1 : DS := wAug 1 rMinus (wC (.int 1))
def w_is_term_2 : DS := wAug 1 rAddI (wC (.int 1))
def w_is_term_3 : DS := wIfS (wB (wOp rLt (wVar 2) (wUn rNeg (wC (.int 1))))) (wRet (wC (.bl false))) ((fun R δ => R.nx δ))
def w_is_term_4 : DS := wIfS (wB (wOp rEqq (wVar 2) (wC (.int 0)))) (w_is_term_2) (w_is_term_3)
def w_is_term_5 : DS := wIfS (wB (wOp rGt (wVar 2) (wC (.int 0)))) (w_is_term_1) (w_is_term_4)
def w_is_term_6 : DS := wSeq (wIfS (wOrT (wB (wOp rEqq (wVar 1) (wC (.int 0)))) (wOrT (wNotT (wB (wCB cIsi (waCons (wVar 2) (waCons (wC (.ty "int")) (waNil)))))) (wOrT (wB (wOp rIsB (wVar 2) (wC (.bl true)))) (wB (wOp rIsB (wVar 2) (wC (.bl false))))))) (wRet (wC (.bl false))) ((fun R δ => R.nx δ))) (w_is_term_5)
def w_is_term_7 : DS := wRet (wAnd (wOp rEqq (wVar 1) (wC (.int 0))) (wOp rLe (wCB cMax1 (waCons (wVar 0) (waNil))) (wC (.int c_MAX_VARIABLE))))
def w_is_term_8 : DS := wSeq (wFor (wVar 0) (wgName 2) (w_is_term_6)) (w_is_term_7)
def w_is_term_9 : DS := wSeq (wSet 1 (wC (.int 1))) (w_is_term_8)
def w_is_term : DS := wSeq (wIfS (wOrT (wNotT (wB (wCB cIsi (waCons (wVar 0) (waCons (wC (.ty "tuple")) (waNil)))))) (wB (wOp rGt (wCB cLen (waCons (wVar 0) (waNil))) (wC (.int c_MAX_PARTS))))) (wRet (wC (.bl false))) ((fun R δ => R.nx δ))) (w_is_term_9)
/-- an integer from -1 on -/
def geM : D → Bool
  | .int i => decide (-1 ≤ i)
  | _ => false
def jE : Nat → List D → Bool
  | w, [] => decide (w = 0)
  | w, d :: r => if w = 0 ∨ geM d = false then false else jE (up (toI d) w) r
def le1k (d : D) : Bool := decide (toI d ≤ 1000)
theorem jD_jE : ∀ (ds : List D) (w : Nat), jD w ds = (jE w ds && ds.all le1k)
  | [], w => by simp [jD, jE]
  | d :: r, w => by
    unfold jD jE
    by_cases h : w = 0 ∨ geM d = false
    · rw [if_pos h]
      have : w = 0 ∨ within d (-1) 1000 = false := by
        rcases h with h | h
        · exact .inl h
        · refine .inr ?_
          cases d <;> simp [within, geM] at h ⊢
          omega
      rw [if_pos this]; rfl
    · rw [if_neg h, List.all_cons]
      have hw : w ≠ 0 := fun z => h (.inl z)
      have hg : geM d = true := by
        cases hh : geM d
        · exact absurd (.inr hh) h
        · rfl
      cases d <;> simp only [geM] at hg <;> try contradiction
      rename_i c
      have hg : -1 ≤ c := by simpa using hg
      by_cases hc : c ≤ 1000
      · have hw2 : within (.int c) (-1) 1000 = true := by
          unfold within
          simp [WE]; omega
        rw [if_neg (by rw [hw2]; simp [hw]), jD_jE r]
        have : le1k (.int c) = true := by show decide (c ≤ 1000) = true; exact decide_eq_true hc
        rw [this, Bool.true_and]
      · have hw2 : within (.int c) (-1) 1000 = false := by
          unfold within
          simp [hc]
        rw [if_pos (.inr hw2)]
        have : le1k (.int c) = false := by show decide (c ≤ 1000) = false; exact decide_eq_false hc
        rw [this, Bool.false_and, Bool.and_false]
def inv_is_term (ds : List D) (i : Nat) (δ : List S) : Prop := ∃ (w : Nat) (s : S) (ns : List Int), δ = [.val (.tup ds), .val (.int w), s] ∧ jE 1 ds = jE w (ds.drop i) ∧ ds.take i = ns.map .int
theorem goal_is_term : Goal w_is_term ["value", "wanted", "part"] 1 pre_is_term post_is_term := by
  intro xs hl hp
  unfold pre_is_term at hp
  split at hp
  · rename_i d
    obtain ⟨h1, h2⟩ := hp
    unfold w_is_term
    simp only [List.length_cons, List.length_nil]
    sleep 90000
    refine isi_tup h1 ?_
    (try sleep 90000)
    cases d with
    | tup ds =>
      simp only [isTup]
      (try sleep 90000)
      by_cases hlen : (400 : Int) < (ds.length : Int)
      · rw [if_pos hlen]
        simp only [post_is_term, isTermD]
        rw [decide_eq_false (by omega)]
        simp
      · rw [if_neg hlen]
        have hjt : isTermD (.tup ds) = (jE 1 ds && ds.all le1k) := by
          show (decide (ds.length ≤ 400) && jD 1 ds) = _
          rw [decide_eq_true (by omega), jD_jE]
          rfl
        have bad : jE 1 ds = false → isTermD (.tup ds) = false := fun h => by rw [hjt, h]; rfl
        unfold w_is_term_9 w_is_term_8 wFor
        (try sleep 90000)
        refine ⟨inv_is_term ds, ⟨1, _, [], rfl, rfl, by simp⟩, ?_, ?_⟩
        · rintro i d δ hi ⟨w, s, ns, rfl, hj, htk⟩
          have hlt := (List.getElem?_eq_some_iff.mp hi).1
          have hd : ds.drop i = d :: ds.drop (i + 1) := by
            rw [List.drop_eq_getElem_cons hlt]
            congr 1
            exact (List.getElem?_eq_some_iff.mp hi).2
          have htk' : ds.take (i + 1) = ds.take i ++ [d] := by
            rw [List.take_succ, hi]; rfl
          rw [hd, jE] at hj
          have hn : noTy d = true := h2 ds rfl d (List.mem_of_getElem? hi)
          unfold w_is_term_6
          sleep 90000
          by_cases hw : w = 0
          · rw [if_pos (by omega)]
            rw [if_pos (.inl hw)] at hj
            simp only [post_is_term, bad hj]
          · rw [if_neg (by omega)]
            refine isi_int hn ?_
            sleep 90000
            by_cases hg : geM d = true
            · rw [if_neg (by rw [hg]; simp [hw])] at hj
              cases d <;> simp only [geM] at hg <;> try contradiction
              rename_i c
              have hg : -1 ≤ c := by simpa using hg
              simp only [toI] at hj
              simp only [isInt, isV]
              sleep 90000
              have fin : ∀ {v : Nat} {s : S}, v = up c w → inv_is_term ds (i + 1) [.val (.tup ds), .val (.int v), s] := by
                rintro v s rfl
                exact ⟨_, _, ns ++ [c], rfl, hj, by rw [htk', htk, List.map_append]; rfl⟩
              unfold w_is_term_5 w_is_term_1
              sleep 90000
              by_cases hc : 0 < c
              · rw [if_pos hc]
                rw [show (w : Int) - 1 = ((w - 1 : Nat) : Int) by omega]
                exact fin (by unfold up; rw [if_neg (by omega), if_pos hc])
              · rw [if_neg hc]
                unfold w_is_term_4 w_is_term_2
                sleep 90000
                by_cases h0 : c = 0
                · rw [if_pos h0]
                  exact fin (v := w + 1) (by unfold up; rw [if_pos h0])
                · rw [if_neg h0]
                  unfold w_is_term_3
                  sleep 90000
                  rw [if_neg (by omega)]
                  exact fin (by unfold up; rw [if_neg h0, if_neg hc])
            · have hg : geM d = false := by simpa using hg
              rw [if_pos (.inr hg)] at hj
              have out : isTermD (.tup ds) = false := bad hj
              cases d <;> simp only [noTy] at hn <;> try contradiction
              case int c _ =>
                simp only [geM] at hg
                have hg : ¬ -1 ≤ c := by simpa using hg
                simp only [isInt, isV]
                sleep 90000
                unfold w_is_term_5
                sleep 90000
                rw [if_neg (by omega)]
                unfold w_is_term_4
                sleep 90000
                rw [if_neg (by omega)]
                unfold w_is_term_3
                sleep 90000
                rw [if_pos (by omega)]
                simp only [post_is_term, out]
              case bl b _ =>
                cases b
                all_goals
                  simp only [isInt, isV]
                  sleep 90000
                  simp [post_is_term, out]
              all_goals
                simp only [isInt]
                sleep 90000
                simp only [post_is_term, out]
        · rintro δ ⟨w, s, ns, rfl, hj, htk⟩
          rw [List.take_length] at htk
          rw [List.drop_length, jE] at hj
          unfold w_is_term_7
          sleep 90000
          by_cases hw : w = 0
          · rw [if_pos (by simpa using hw)]
            have hne : ns ≠ [] := by
              rintro rfl
              have : ds = [] := by simpa using htk
              subst this
              simp [jE] at hj
              omega
            unfold cMax1
            refine ⟨ns, htk, hne, fun m h1 h2 => ?_⟩
            sleep 90000
            simp only [post_is_term, hjt]
            rw [hj, decide_eq_true hw, Bool.true_and]
            congr 3
            rw [htk, List.all_map]
            by_cases hm : m ≤ 1000
            · rw [decide_eq_true (show m ≤ c_MAX_VARIABLE from hm), List.all_eq_true.mpr]
              intro x hx
              have := h2 x hx
              show decide (x ≤ 1000) = true
              simp; omega
            · rw [decide_eq_false (show ¬ m ≤ c_MAX_VARIABLE from hm), eq_comm, List.all_eq_false]
              exact ⟨m, h1, by show ¬ decide (m ≤ 1000) = true; simpa using hm⟩
          · rw [if_neg (by simpa using hw)]
            have : jE 1 ds = false := by rw [hj]; simp [hw]
            simp only [post_is_term, bad this]
    | _ =>
      simp only [isTup]
      (try sleep 90000)
      simp only [post_is_term, isTermD]
  · exact hp.elim
theorem up_ge {c : Int} {w : Nat} : True := trivial
theorem jD_ints : ∀ {ns : List Int} {w : Nat}, (∀ c ∈ ns, -1 ≤ c ∧ c ≤ 1000) → jD w (ns.map .int) = jI w ns
  | [], w, _ => by rw [List.map_nil, jD, jI]; cases w <;> rfl
  | c :: r, w, h => by
    have hc := h c List.mem_cons_self
    have hw : within (.int c) (-1) 1000 = true := by
      unfold within
      simp [WE]; omega
    rw [List.map_cons, jD, jI, hw]
    by_cases h0 : w = 0
    · rw [if_pos (.inl h0), if_pos h0]
    · rw [if_neg (by simp [h0]), if_neg h0]
      exact jD_ints fun c hc => h c (List.mem_cons_of_mem _ hc)
theorem term_of {ns : List Int} (t : Tm ns) : isTermD (tI ns) = true := by
  unfold isTermD
  simp only [List.length_map]
  rw [jD_ints t.rng, t.jd, decide_eq_true t.len]
  rfl
theorem okVal_ints (ns : List Int) : okVal (tI ns) := ⟨rfl, fun ds h x hx => by
  cases h
  obtain ⟨c, _, rfl⟩ := List.mem_map.mp hx
  rfl⟩
/-! ### checks, ends and parts of terms -/
def isTm : List S → Prop
  | [.val d] => ∃ ns, d = tI ns ∧ Tm ns
  | _ => False
def pre_check_term : List S → Prop := isTm
def post_check_term : List S → DV → Prop := fun _ r => r = .c .non
def w_check_term : DS := wIfS (wNotT (wB (wCall 1 pre_is_term post_is_term (waCons (wVar 0) (waNil))))) (wNever) ((fun R δ => R.nx δ))
theorem goal_check_term : Goal w_check_term ["term"] 1 pre_check_term post_check_term := by
  intro xs hl hp
  unfold pre_check_term isTm at hp
  split at hp
  · rename_i d
    obtain ⟨ns, rfl, t⟩ := hp
    unfold w_check_term
    sleep 90000
    simp only [wCall]
    (try sleep 90000)
    refine call_one (x := .bl true) rfl (okVal_ints ns) (fun r q => by rw [← term_of t]; exact q) ?_
    (try sleep 90000)
    simp only [post_check_term]
  · exact hp.elim
def pre_check_place : List S → Prop
  | [.val d, .val (.int p)] => ∃ (ns : List Int) (k : Nat), d = tI ns ∧ p = k ∧ k < ns.length ∧ ns.length ≤ 1000
  | _ => False
def post_check_place : List S → DV → Prop := fun _ r => r = .c .non
def w_check_place : DS := wIfS (wNotT (wB (wCall 3 pre_is_whole_within post_is_whole_within (waCons (wVar 1) (waCons (wC (.int 0)) (waCons (wOp rMinus (wCB cLen (waCons (wVar 0) (waNil))) (wC (.int 1))) (waNil))))))) (wNever) ((fun R δ => R.nx δ))
theorem goal_check_place : Goal w_check_place ["term", "place"] 2 pre_check_place post_check_place := by
  intro xs hl hp
  unfold pre_check_place at hp
  split at hp
  · rename_i d p
    obtain ⟨ns, k, rfl, rfl, hk, hz⟩ := hp
    unfold w_check_place
    sleep 90000
    simp only [wCall]
    (try sleep 90000)
    refine call_one (x := .bl true) rfl rfl (fun r q => ?_) ?_
    · have q : r = .c (.bl (within (.int (k : Int)) 0 ((((ns.map D.int).length : Nat) : Int) - 1))) := q
      rw [q]
      unfold within
      simp [WE]; omega
    · (try sleep 90000)
      simp only [post_check_place]
  · exact hp.elim
/-- a term and the place of a part -/
def isTp : List S → Prop
  | [.val d, .val (.int p)] => ∃ (ns : List Int) (k : Nat), d = tI ns ∧ p = k ∧ Tm ns ∧ k < ns.length
  | _ => False
def pre_part_end : List S → Prop := isTp
def post_part_end : List S → DV → Prop
  | [.val t, .val (.int p)], r => r = .c (.int (p + sz (unI t) p.toNat))
  | _, _ => False
def w_part_end : DS := wSeq (wDrop (wCall 1 pre_check_term post_check_term (waCons (wVar 0) (waNil)))) (wSeq (wDrop (wCall 2 pre_check_place post_check_place (waCons (wVar 0) (waCons (wVar 1) (waNil))))) (wRet (wCall 2 pre_end_behind post_end_behind (waCons (wVar 0) (waCons (wVar 1) (waNil))))))
theorem goal_part_end : Goal w_part_end ["term", "place"] 2 pre_part_end post_part_end := by
  intro xs hl hp
  unfold pre_part_end isTp at hp
  split at hp
  · rename_i d p
    obtain ⟨ns, k, rfl, rfl, t, hk⟩ := hp
    have hz := t.len
    obtain ⟨n, hn, _⟩ := part_at t.jd hk
    unfold w_part_end
    sleep 90000
    simp only [wCall]
    (try sleep 90000)
    refine call_one (x := .non) rfl ⟨ns, rfl, t⟩ (fun r q => q) ?_
    refine call_one (x := .non) rfl ⟨ns, k, rfl, rfl, hk, by omega⟩ (fun r q => q) ?_
    refine call_one (x := .int (k + sz ns k)) rfl ⟨ns, k, n, rfl, rfl, hn⟩ (fun r q => ?_) ?_
    · simpa only [post_end_behind, unI_tI, Int.toNat_natCast] using q
    · (try sleep 90000)
      simp only [post_part_end, unI_tI, Int.toNat_natCast]
  · exact hp.elim
def pre_part_of : List S → Prop := isTp
def post_part_of : List S → DV → Prop
  | [.val t, .val (.int p)], r => r = .c (tI (((unI t).drop p.toNat).take (sz (unI t) p.toNat)))
  | _, _ => False
def w_part_of : DS := wSeq (wDrop (wCall 1 pre_check_term post_check_term (waCons (wVar 0) (waNil)))) (wSeq (wDrop (wCall 2 pre_check_place post_check_place (waCons (wVar 0) (waCons (wVar 1) (waNil))))) (wRet (wSl (wVar 0) (woSome (wVar 1)) (woSome (wCall 2 pre_end_behind post_end_behind (waCons (wVar 0) (waCons (wVar 1) (waNil))))))))
theorem goal_part_of : Goal w_part_of ["term", "place"] 2 pre_part_of post_part_of := by
  intro xs hl hp
  unfold pre_part_of isTp at hp
  split at hp
  · rename_i d p
    obtain ⟨ns, k, rfl, rfl, t, hk⟩ := hp
    have hz := t.len
    obtain ⟨n, hn, h0, hle, _⟩ := part_at t.jd hk
    have hsz : sz ns k = n := by unfold sz; rw [hn]; rfl
    unfold w_part_of
    sleep 90000
    simp only [wCall]
    (try sleep 90000)
    refine call_one (x := .non) rfl ⟨ns, rfl, t⟩ (fun r q => q) ?_
    refine call_one (x := .non) rfl ⟨ns, k, rfl, rfl, hk, by omega⟩ (fun r q => q) ?_
    refine call_one (x := .int (k + sz ns k)) rfl ⟨ns, k, n, rfl, rfl, hn⟩ (fun r q => ?_) ?_
    · simpa only [post_end_behind, unI_tI, Int.toNat_natCast] using q
    · (try sleep 90000)
      simp only [post_part_of, unI_tI, Int.toNat_natCast, hsz]
      congr 1
      rw [cutD_map]
      have e1 : HT.sIx ns.length 0 (some (k : Int)) = k := by rw [HT.sIx_nat]; omega
      have e2 : HT.sIx ns.length ns.length (some ((k : Int) + (n : Int))) = k + n := by
        rw [show (k : Int) + (n : Int) = ((k + n : Nat) : Int) by omega, HT.sIx_nat]
        omega
      rw [e1, e2]
      congr 3
      omega
  · exact hp.elim
end Dl
-- second
namespace Km
/-! what is read off a way -/
def hs (k : Knd) (a : Way) : List Nat := a.filterMap fun x => if x.2 = k then some x.1 else none
def dpt (a : Way) : Nat := (hs .body a).length
def lvl (a : Way) : Nat := (hs .arg a).length
theorem hs_cons (k : Knd) (x : Nat × Knd) (a : Way) : hs k (x :: a) = if x.2 = k then x.1 :: hs k a else hs k a := by
  unfold hs
  rw [List.filterMap_cons]
  by_cases h : x.2 = k
  · simp [h]
  · simp [h]
theorem dep_ways : ∀ (r : List Int) (st : List Way) (p : Nat), dep (st.map dpt) r = (ways st p r).map dpt
  | [], _, _ => by unfold dep ways; rfl
  | c :: r, [], _ => rfl
  | c :: r, a :: st, p => by
    rw [List.map_cons, dep_cons, ways_cons, List.map_cons, ← dep_ways r (dueW p a st c) (p + 1)]
    congr 2
    unfold stk dueW
    have h1 : ∀ k : Knd, k ≠ .body → dpt ((p, k) :: a) = dpt a := fun k hk => by unfold dpt; rw [hs_cons, if_neg hk]
    have h2 : dpt ((p, .body) :: a) = dpt a + 1 := by unfold dpt; rw [hs_cons, if_pos rfl]; rfl
    split
    · rw [List.map_cons, List.map_cons, h1 _ (by simp), h1 _ (by simp)]
    · split
      · rw [List.map_cons, h2]
      · rfl
theorem dep_wy (ns : List Int) : dep [0] ns = (wy ns).map dpt := dep_ways ns [[]] 0
end Km
namespace Dl
open PySem PySem.Spec PyProof.Rows L2 Km
theorem tm_ok {ns : List Int} (t : Tm ns) : Ok ns := ⟨t.jd, fun c hc => (t.rng c hc).1⟩
def kn : Knd → Str
  | .body => "body"
  | .func => "function"
  | .arg => "argument"
def slD : Way → D
  | [] => .tup [.non, .str "root"]
  | x :: _ => .tup [.int (x.1 : Nat), .str (kn x.2)]
theorem lay_kn (k : Knd) : PyData.canLay0 (.str (kn k)) = true := by cases k <;> decide +kernel
theorem pl_kn {n : Nat} (k : Knd) : Pl n (.str (kn k)) := .str _ (lay_kn k)
theorem pl_root {n : Nat} : Pl n (.str "root") := .str _ (by decide +kernel)
theorem pl_sl {n : Nat} (a : Way) : Pl (n + 1) (slD a) := by
  cases a with
  | nil =>
    exact .tup _ fun d hd => by
      rcases List.mem_cons.mp hd with rfl | hd
      · exact .non
      · rcases List.mem_cons.mp hd with rfl | hd
        · exact pl_root
        · simp at hd
  | cons x a =>
    exact .tup _ fun d hd => by
      rcases List.mem_cons.mp hd with rfl | hd
      · exact .int _
      · rcases List.mem_cons.mp hd with rfl | hd
        · exact pl_kn _
        · simp at hd
def pre_slots_of : List S → Prop
  | [.val t] => ∃ ns : List Int, t = tI ns ∧ Ok ns ∧ ns.length ≤ 10000
  | _ => False
def post_slots_of : List S → DV → Prop
  | [.val t], r => r = .f ((wy (unI t)).map slD)
  | _, _ => False
def w_slots_of_1 : DS := wApp 1 (wTup (waCons (wVar 3) (waCons (wC (.str "function")) (waNil))))
def w_slots_of_2 : DS := wSeq (wApp 1 (wTup (waCons (wVar 3) (waCons (wC (.str "argument")) (waNil))))) (w_slots_of_1)
def w_slots_of_3 : DS := wApp 1 (wTup (waCons (wVar 3) (waCons (wC (.str "body")) (waNil))))
def w_slots_of_4 : DS := wIfS (wB (wOp rEqq (wVar 4) (wUn rNeg (wC (.int 1))))) (w_slots_of_3) ((fun R δ => R.nx δ))
def w_slots_of_5 : DS := wIfS (wB (wOp rEqq (wVar 4) (wC (.int 0)))) (w_slots_of_2) (w_slots_of_4)
def w_slots_of_6 : DS := wSeq (wAppPop 2 1) (w_slots_of_5)
def w_slots_of_7 : DS := wRet (wVar 2)
def w_slots_of_8 : DS := wSeq (wForW (wfEnum (waCons (wVar 0) (waNil))) (wgTup 2 (wgCons (wgName 3) (wgCons (wgName 4) (wgNil)))) (w_slots_of_6)) (w_slots_of_7)
def w_slots_of_9 : DS := wSeq (wSet 2 (wLst (waNil))) (w_slots_of_8)
def w_slots_of : DS := wSeq (wSet 1 (wLst (waCons (wTup (waCons (wC .non) (waCons (wC (.str "root")) (waNil)))) (waNil)))) (w_slots_of_9)
theorem enum_ints {ns : List Int} {i : Nat} {d : D} (h : (enumD (ns.map D.int))[i]? = some d) : ∃ c, d = .tup [.int (i : Nat), .int c] ∧ ns[i]? = some c := by
  rw [enumD_get, List.getElem?_map] at h
  cases hc : ns[i]? with
  | none => rw [hc] at h; cases h
  | some c => rw [hc] at h; cases h; exact ⟨c, rfl, rfl⟩
theorem drop_get {ns : List Int} {i : Nat} {c : Int} (h : ns[i]? = some c) : ns.drop i = c :: ns.drop (i + 1) := by
  have hlt := (List.getElem?_eq_some_iff.mp h).1
  rw [List.drop_eq_getElem_cons hlt]
  congr 1
  exact (List.getElem?_eq_some_iff.mp h).2
def inv_slots_of (ns : List Int) (i : Nat) (δ : List S) : Prop := ∃ (made st : List Way) (s3 s4 : S), δ = [.val (tI ns), .own (st.reverse.map slD), .own (made.map slD), s3, s4] ∧ made.length = i ∧ wy ns = made ++ ways st i (ns.drop i) ∧ jI st.length (ns.drop i) = true ∧ st.length ≤ i + 1
theorem goal_slots_of : Goal w_slots_of ["term", "waiting", "slots", "place", "part"] 1 pre_slots_of post_slots_of := by
  intro xs hl hp
  unfold pre_slots_of at hp
  split at hp
  · rename_i t
    obtain ⟨ns, rfl, ok, hlen⟩ := hp
    unfold w_slots_of w_slots_of_9 w_slots_of_8
    simp only [List.length_cons, List.length_nil]
    sleep 90000
    refine ⟨by decide, by decide, by decide, ?_⟩
    unfold wForW
    sleep 90000
    refine ⟨inv_slots_of ns, ⟨[], [[]], _, _, rfl, rfl, rfl, ok.jd, Nat.le_refl _⟩, ?_, ?_⟩
    · rintro i d δ hi ⟨made, st, s3, s4, rfl, hm, hd, hs, hsl⟩
      obtain ⟨c, rfl, hci⟩ := enum_ints hi
      have hlt := (List.getElem?_eq_some_iff.mp hci).1
      have hdr := drop_get hci
      have hc1 : -1 ≤ c := ok.lo c (List.mem_of_getElem? hci)
      rw [hdr] at hd hs
      obtain ⟨hw, hs'⟩ := jI_cons hs
      cases st with
      | nil => simp at hw
      | cons e st =>
        have hd' : wy ns = (made ++ [e]) ++ ways (dueW i e st c) (i + 1) (ns.drop (i + 1)) := by rw [hd, ways_cons]; simp
        have hs2 : jI (dueW i e st c).length (ns.drop (i + 1)) = true := by rw [dueW_len hc1]; exact hs'
        have pop1 : ((e :: st).reverse.map slD)[((e :: st).reverse.map slD).length - 1]? = some (slD e) := by simp
        have pop2 : ((e :: st).reverse.map slD).dropLast = st.reverse.map slD := by simp
        have hst : st.length ≤ i := by simpa using hsl
        refine ⟨_, rfl, rfl, _, _, rfl, _, _, rfl, rfl, ?_⟩
        unfold w_slots_of_6
        sleep 90000
        refine ⟨by decide, by rw [List.length_map]; omega, _, pop1, ?_⟩
        rw [pop2]
        have fin : ∀ (δ : List S), δ = [.val (tI ns), .own ((dueW i e st c).reverse.map slD), .own (made.map slD ++ [slD e]), .val (.int (i : Nat)), .val (.int c)] → inv_slots_of ns (i + 1) δ := by
          rintro δ rfl
          refine ⟨made ++ [e], dueW i e st c, .val (.int (i : Nat)), .val (.int c), by simp, by simp [hm], hd', hs2, ?_⟩
          rw [dueW_len hc1]
          unfold up
          split
          · omega
          · split <;> omega
        unfold w_slots_of_5 w_slots_of_2 w_slots_of_1
        sleep 90000
        by_cases h0 : c = 0
        · rw [if_pos h0]
          (repeat (refine And.intro ?_ ?_; · (first | rfl | decide | omega | (simp; done) | (simp; omega))))
          refine fin _ ?_
          unfold dueW
          rw [if_pos h0]
          simp [slD, kn]
        · rw [if_neg h0]
          unfold w_slots_of_4 w_slots_of_3
          sleep 90000
          by_cases h1 : c = -1
          · rw [if_pos (by simpa using h1)]
            (repeat (refine And.intro ?_ ?_; · (first | rfl | decide | omega | (simp; done) | (simp; omega))))
            refine fin _ ?_
            unfold dueW
            rw [if_neg h0, if_pos h1]
            simp [slD, kn]
          · rw [if_neg (by simpa using h1)]
            refine fin _ ?_
            unfold dueW
            rw [if_neg h0, if_neg h1]
    · rintro δ ⟨made, st, s3, s4, rfl, hm, hd, hs, hsl⟩
      unfold w_slots_of_7
      sleep 90000
      rw [enumD_len, List.length_map] at hm hd
      simp only [List.drop_length] at hd
      rw [ways_nil, List.append_nil] at hd
      simp only [post_slots_of, unI_tI, hd]
  · exact hp.elim
end Dl
-- second
namespace Dl
open PySem PySem.Spec PyProof.Rows L2 Km
/-- a call's answer, whatever it is -/
theorem call_as {pre : List S → Prop} {post : List S → DV → Prop} {ss : List S} {k : DV → Prop} (x : DV) (nj : x ≠ .j) (hp : pre ss) (h : ∀ r, post ss r → r = x) (hk : k x) : pre ss ∧ ∀ r, post ss r → r ≠ .j ∧ k r :=
  ⟨hp, fun r q => by rw [h r q]; exact ⟨nj, hk⟩⟩
theorem call_at {n : Nat} {pre : List S → Prop} {post : List S → DV → Prop} {ss : List S} {k : DV → Prop} (x : DV) (nj : x ≠ .j) (hn : ss.length = n) (hp : pre ss) (h : ∀ r, post ss r → r = x) (hk : k x) : ss.length = n ∧ pre ss ∧ ∀ r, post ss r → r ≠ .j ∧ k r :=
  ⟨hn, call_as x nj hp h hk⟩
/-- the way of the part at k -/
def wyA (ns : List Int) (k : Nat) : Way := (wy ns).getD k []
theorem wyA_of {ns : List Int} {k : Nat} {a : Way} (h : (wy ns)[k]? = some a) : wyA ns k = a := by unfold wyA; rw [List.getD_eq_getElem?_getD, h]; rfl
theorem wyA_at {ns : List Int} {k : Nat} (o : Ok ns) (h : k < ns.length) : (wy ns)[k]? = some (wyA ns k) := by
  have hl : k < (wy ns).length := by rw [wy_len o]; exact h
  rw [wyA_of (List.getElem?_eq_getElem hl)]
  exact List.getElem?_eq_getElem hl
def kOf (d : D) : Knd := match d with
  | .str x => if x = kn .body then .body else if x = kn .func then .func else .arg
  | _ => .body
theorem kOf_kn (k : Knd) : kOf (.str (kn k)) = k := by cases k <;> decide +kernel
theorem kn_inj {k k' : Knd} (h : kn k = kn k') : k = k' := by rw [← kOf_kn k, ← kOf_kn k', h]
theorem kn_root (k : Knd) : ("root" : Str) ≠ kn k := by cases k <;> decide +kernel
def pre_holders_of_kind : List S → Prop
  | [.val t, .val (.int p), .val (.str x)] => ∃ (ns : List Int) (k : Nat) (kd : Knd), t = tI ns ∧ p = k ∧ x = kn kd ∧ Ok ns ∧ k < ns.length ∧ ns.length ≤ 10000
  | _ => False
def post_holders_of_kind : List S → DV → Prop
  | [.val t, .val (.int p), .val (.str x)], r => r = .f ((hs (kOf (.str x)) (wyA (unI t) p.toNat)).map nI)
  | _, _ => False
def w_holders_of_kind_1 : DS := wApp 4 (wVar 6)
def w_holders_of_kind_2 : DS := wSet 5 (wVar 6)
def w_holders_of_kind_3 : DS := wSeq (wIfS (wB (wOp rEqq (wVar 7) (wVar 2))) (w_holders_of_kind_1) ((fun R δ => R.nx δ))) (w_holders_of_kind_2)
def w_holders_of_kind_4 : DS := wSeq (wAsgG (wOp rIxD (wVar 3) (wVar 5)) (wgTup 2 (wgCons (wgName 6) (wgCons (wgName 7) (wgNil))))) (w_holders_of_kind_3)
def w_holders_of_kind_5 : DS := wRet (wVar 4)
def w_holders_of_kind_6 : DS := wSeq (wWhile (wB (wOp rNotN (wVar 5) (wC .non))) (w_holders_of_kind_4)) (w_holders_of_kind_5)
def w_holders_of_kind_7 : DS := wSeq (wSet 5 (wVar 1)) (w_holders_of_kind_6)
def w_holders_of_kind_8 : DS := wSeq (wSet 4 (wLst (waNil))) (w_holders_of_kind_7)
def w_holders_of_kind : DS := wSeq (wSet 3 (wCall 1 pre_slots_of post_slots_of (waCons (wVar 0) (waNil)))) (w_holders_of_kind_8)
/-- where the walk up is -/
def atD (o : Option Nat) : D := match o with
  | none => .non
  | some k => .int (k : Nat)
def inv_holders_of_kind (ns : List Int) (k : Nat) (kd : Knd) (m : Nat) (δ : List S) : Prop := ∃ (done : List Nat) (at_ : Option Nat) (rest : Way) (s6 s7 : S), δ = [.val (tI ns), .val (.int (k : Nat)), .val (.str (kn kd)), .own ((wy ns).map slD), .own (done.map nI), .val (atD at_), s6, s7] ∧
  hs kd (wyA ns k) = done ++ hs kd rest ∧ done.length ≤ 10000 ∧ (match at_ with
    | none => rest = [] ∧ m = 0
    | some j => (wy ns)[j]? = some rest ∧ m = j + 1 ∧ done.length + j ≤ 10000)
theorem goal_holders_of_kind : Goal w_holders_of_kind ["term", "place", "kind", "slots", "found", "at", "holder", "how"] 3 pre_holders_of_kind post_holders_of_kind := by
  intro xs hl hp
  unfold pre_holders_of_kind at hp
  split at hp
  · rename_i t p x
    obtain ⟨ns, k, kd, rfl, rfl, rfl, ok, hk, hlen⟩ := hp
    unfold w_holders_of_kind
    simp only [List.length_cons, List.length_nil]
    sleep 90000
    simp only [wCall]
    (try sleep 90000)
    refine call_at (.f ((wy ns).map slD)) (by simp) rfl ⟨ns, rfl, ok, hlen⟩ (fun r q => by simpa only [post_slots_of, unI_tI] using q) ?_
    sleep 90000
    unfold w_holders_of_kind_8
    sleep 90000
    (repeat (refine And.intro ?_ ?_; · (first | rfl | decide | omega | (simp; done) | (simp; omega))))
    unfold w_holders_of_kind_7
    sleep 90000
    unfold w_holders_of_kind_6 wWhile
    sleep 90000
    refine ⟨inv_holders_of_kind ns k kd, ⟨k + 1, [], some k, wyA ns k, .no, .no, rfl, rfl, by simp, wyA_at ok hk, rfl, by simp; omega⟩, ?_⟩
    rintro m δ ⟨done, at_, rest, s6, s7, rfl, hd, hl10, ha⟩
    cases at_ with
    | none =>
      obtain ⟨rfl, rfl⟩ := ha
      simp only [atD]
      sleep 90000
      simp only [isNone]
      sleep 90000
      unfold w_holders_of_kind_5
      sleep 90000
      have hd' : hs kd (wyA ns k) = done := by rw [hd]; simp [hs]
      simp only [post_holders_of_kind, unI_tI, Int.toNat_natCast, kOf_kn, hd']
    | some j =>
      obtain ⟨hj, rfl, hb⟩ := ha
      simp only [atD]
      sleep 90000
      simp only [isNone]
      sleep 90000
      unfold w_holders_of_kind_4
      sleep 90000
      have hjl : j < ((wy ns).map slD).length := by rw [List.length_map]; exact (List.getElem?_eq_some_iff.mp hj).1
      refine ⟨slD rest, atI_of rfl (by rw [List.getElem?_map, hj]; rfl), ?_⟩
      unfold w_holders_of_kind_3 w_holders_of_kind_1
      cases rest with
      | nil =>
        simp only [slD]
        sleep 90000
        refine ⟨rfl, (pl_root (n := 0)).ok, (pl_kn (n := 0) kd).ok, ?_⟩
        rw [eqD_ne (pl_root (n := 0)) (pl_kn kd) (fun e => kn_root kd (by simpa using e)), if_neg Bool.false_ne_true]
        unfold w_holders_of_kind_2
        sleep 90000
        exact ⟨0, by omega, done, none, [], .val .non, .val (.str "root"), rfl, hd, hl10, rfl, rfl⟩
      | cons x rest =>
        simp only [slD]
        sleep 90000
        obtain ⟨hx, _⟩ := wy_suffix ok hj (l := []) (x := x) (b := rest) rfl
        have hlt := wy_lt ok hj x List.mem_cons_self
        refine ⟨rfl, (pl_kn (n := 0) x.2).ok, (pl_kn (n := 0) kd).ok, ?_⟩
        by_cases hk : x.2 = kd
        · rw [eqD_eq (pl_kn (n := 0) x.2) (pl_kn kd) (by rw [hk]), if_pos rfl]
          refine ⟨by rw [List.length_map]; omega, ?_⟩
          unfold w_holders_of_kind_2
          sleep 90000
          refine ⟨x.1 + 1, by omega, done ++ [x.1], some x.1, rest, .val (.int (x.1 : Nat)), .val (.str (kn x.2)), by simp [atD], ?_, by simp; omega, hx, rfl, by simp; omega⟩
          rw [hd, hs_cons, if_pos hk]; simp
        · rw [eqD_ne (pl_kn (n := 0) x.2) (pl_kn kd) (fun e => hk (kn_inj (by simpa using e))), if_neg Bool.false_ne_true]
          unfold w_holders_of_kind_2
          sleep 90000
          refine ⟨x.1 + 1, by omega, done, some x.1, rest, .val (.int (x.1 : Nat)), .val (.str (kn x.2)), rfl, ?_, hl10, hx, rfl, by omega⟩
          rw [hd, hs_cons, if_neg hk]
  · exact hp.elim
end Dl
-- second
namespace Dl
open PySem PySem.Spec PyProof.Rows L2 Km
def holdD : Way → D
  | [] => .non
  | x :: _ => .int (x.1 : Nat)
def kindD : Way → D
  | [] => .str "root"
  | x :: _ => .str (kn x.2)
theorem slD_eq (a : Way) : slD a = .tup [holdD a, kindD a] := by cases a <;> rfl
/-- a call that looks at a term and a place first -/
def lookP (f : List Int → Nat → D) : List S → DV → Prop
  | [.val t, .val (.int p)], r => r = .c (f (unI t) p.toNat)
  | _, _ => False
def pre_holder_of : List S → Prop := isTp
def post_holder_of : List S → DV → Prop := lookP fun ns k => holdD (wyA ns k)
def w_holder_of_1 : DS := wRet (wVar 2)
def w_holder_of_2 : DS := wSeq (wAsgG (wOp rIxD (wCall 1 pre_slots_of post_slots_of (waCons (wVar 0) (waNil))) (wVar 1)) (wgTup 2 (wgCons (wgName 2) (wgCons (wgName 3) (wgNil))))) (w_holder_of_1)
def w_holder_of_3 : DS := wSeq (wDrop (wCall 2 pre_check_place post_check_place (waCons (wVar 0) (waCons (wVar 1) (waNil))))) (w_holder_of_2)
def w_holder_of : DS := wSeq (wDrop (wCall 1 pre_check_term post_check_term (waCons (wVar 0) (waNil)))) (w_holder_of_3)
theorem goal_holder_of : Goal w_holder_of ["term", "place", "holder", "_"] 2 pre_holder_of post_holder_of := by
  intro xs hl hp
  unfold pre_holder_of isTp at hp
  split at hp
  · rename_i d p
    obtain ⟨ns, k, rfl, rfl, t, hk⟩ := hp
    have hz := t.len
    unfold w_holder_of w_holder_of_3 w_holder_of_2 w_holder_of_1
    simp only [List.length_cons, List.length_nil]
    sleep 90000
    simp only [wCall]
    (try sleep 90000)
    refine call_one (x := .non) rfl ⟨ns, rfl, t⟩ (fun r q => q) ?_
    refine call_one (x := .non) rfl ⟨ns, k, rfl, rfl, hk, by omega⟩ (fun r q => q) ?_
    refine call_at (.f ((wy ns).map slD)) (by simp) rfl ⟨ns, rfl, tm_ok t, by omega⟩ (fun r q => by simpa only [post_slots_of, unI_tI] using q) ?_
    sleep 90000
    refine ⟨slD (wyA ns k), atI_of rfl (by rw [List.getElem?_map, wyA_at (tm_ok t) hk]; rfl), ?_⟩
    rw [slD_eq]
    sleep 90000
    exact ⟨rfl, by simp only [post_holder_of, lookP, unI_tI, Int.toNat_natCast]⟩
  · exact hp.elim
def pre_kind_of : List S → Prop := isTp
def post_kind_of : List S → DV → Prop := lookP fun ns k => kindD (wyA ns k)
def w_kind_of_1 : DS := wRet (wVar 3)
def w_kind_of_2 : DS := wSeq (wAsgG (wOp rIxD (wCall 1 pre_slots_of post_slots_of (waCons (wVar 0) (waNil))) (wVar 1)) (wgTup 2 (wgCons (wgName 2) (wgCons (wgName 3) (wgNil))))) (w_kind_of_1)
def w_kind_of_3 : DS := wSeq (wDrop (wCall 2 pre_check_place post_check_place (waCons (wVar 0) (waCons (wVar 1) (waNil))))) (w_kind_of_2)
def w_kind_of : DS := wSeq (wDrop (wCall 1 pre_check_term post_check_term (waCons (wVar 0) (waNil)))) (w_kind_of_3)
theorem goal_kind_of : Goal w_kind_of ["term", "place", "_", "kind"] 2 pre_kind_of post_kind_of := by
  intro xs hl hp
  unfold pre_kind_of isTp at hp
  split at hp
  · rename_i d p
    obtain ⟨ns, k, rfl, rfl, t, hk⟩ := hp
    have hz := t.len
    unfold w_kind_of w_kind_of_3 w_kind_of_2 w_kind_of_1
    simp only [List.length_cons, List.length_nil]
    sleep 90000
    simp only [wCall]
    (try sleep 90000)
    refine call_one (x := .non) rfl ⟨ns, rfl, t⟩ (fun r q => q) ?_
    refine call_one (x := .non) rfl ⟨ns, k, rfl, rfl, hk, by omega⟩ (fun r q => q) ?_
    refine call_at (.f ((wy ns).map slD)) (by simp) rfl ⟨ns, rfl, tm_ok t, by omega⟩ (fun r q => by simpa only [post_slots_of, unI_tI] using q) ?_
    sleep 90000
    refine ⟨slD (wyA ns k), atI_of rfl (by rw [List.getElem?_map, wyA_at (tm_ok t) hk]; rfl), ?_⟩
    rw [slD_eq]
    sleep 90000
    exact ⟨rfl, by simp only [post_kind_of, lookP, unI_tI, Int.toNat_natCast]⟩
  · exact hp.elim
def pre_depth_of : List S → Prop := isTp
def post_depth_of : List S → DV → Prop := lookP fun ns k => .int (dpt (wyA ns k) : Nat)
def w_depth_of_1 : DS := wRet (wCB cLen (waCons (wCall 3 pre_holders_of_kind post_holders_of_kind (waCons (wVar 0) (waCons (wVar 1) (waCons (wC (.str "body")) (waNil))))) (waNil)))
def w_depth_of_2 : DS := wSeq (wDrop (wCall 2 pre_check_place post_check_place (waCons (wVar 0) (waCons (wVar 1) (waNil))))) (w_depth_of_1)
def w_depth_of : DS := wSeq (wDrop (wCall 1 pre_check_term post_check_term (waCons (wVar 0) (waNil)))) (w_depth_of_2)
theorem goal_depth_of : Goal w_depth_of ["term", "place"] 2 pre_depth_of post_depth_of := by
  intro xs hl hp
  unfold pre_depth_of isTp at hp
  split at hp
  · rename_i d p
    obtain ⟨ns, k, rfl, rfl, t, hk⟩ := hp
    have hz := t.len
    unfold w_depth_of w_depth_of_2 w_depth_of_1
    simp only [List.length_cons, List.length_nil]
    sleep 90000
    simp only [wCall]
    (try sleep 90000)
    refine call_one (x := .non) rfl ⟨ns, rfl, t⟩ (fun r q => q) ?_
    refine call_one (x := .non) rfl ⟨ns, k, rfl, rfl, hk, by omega⟩ (fun r q => q) ?_
    refine call_at (.f ((hs .body (wyA ns k)).map nI)) (by simp) rfl ⟨ns, k, .body, rfl, rfl, rfl, tm_ok t, hk, by omega⟩ (fun r q => by simpa only [post_holders_of_kind, unI_tI, Int.toNat_natCast, show kOf (.str "body") = .body from kOf_kn .body] using q) ?_
    sleep 90000
    simp only [post_depth_of, lookP, unI_tI, Int.toNat_natCast, List.length_map, dpt]
  · exact hp.elim
def pre_level_of : List S → Prop := isTp
def post_level_of : List S → DV → Prop := lookP fun ns k => .int (lvl (wyA ns k) : Nat)
def w_level_of_1 : DS := wRet (wCB cLen (waCons (wCall 3 pre_holders_of_kind post_holders_of_kind (waCons (wVar 0) (waCons (wVar 1) (waCons (wC (.str "argument")) (waNil))))) (waNil)))
def w_level_of_2 : DS := wSeq (wDrop (wCall 2 pre_check_place post_check_place (waCons (wVar 0) (waCons (wVar 1) (waNil))))) (w_level_of_1)
def w_level_of : DS := wSeq (wDrop (wCall 1 pre_check_term post_check_term (waCons (wVar 0) (waNil)))) (w_level_of_2)
theorem goal_level_of : Goal w_level_of ["term", "place"] 2 pre_level_of post_level_of := by
  intro xs hl hp
  unfold pre_level_of isTp at hp
  split at hp
  · rename_i d p
    obtain ⟨ns, k, rfl, rfl, t, hk⟩ := hp
    have hz := t.len
    unfold w_level_of w_level_of_2 w_level_of_1
    simp only [List.length_cons, List.length_nil]
    sleep 90000
    simp only [wCall]
    (try sleep 90000)
    refine call_one (x := .non) rfl ⟨ns, rfl, t⟩ (fun r q => q) ?_
    refine call_one (x := .non) rfl ⟨ns, k, rfl, rfl, hk, by omega⟩ (fun r q => q) ?_
    refine call_at (.f ((hs .arg (wyA ns k)).map nI)) (by simp) rfl ⟨ns, k, .arg, rfl, rfl, rfl, tm_ok t, hk, by omega⟩ (fun r q => by simpa only [post_holders_of_kind, unI_tI, Int.toNat_natCast, show kOf (.str "argument") = .arg from kOf_kn .arg] using q) ?_
    sleep 90000
    simp only [post_level_of, lookP, unI_tI, Int.toNat_natCast, List.length_map, lvl]
  · exact hp.elim
/-- the code at k -/
def cd (ns : List Int) (k : Nat) : Int := ns.getD k 0
theorem cd_of {ns : List Int} {k : Nat} {c : Int} (h : ns[k]? = some c) : cd ns k = c := by unfold cd; rw [List.getD_eq_getElem?_getD, h]; rfl
theorem cd_at {ns : List Int} {k : Nat} (h : k < ns.length) : ns[k]? = some (cd ns k) := by
  rw [cd_of (List.getElem?_eq_getElem h)]
  exact List.getElem?_eq_getElem h
/-- the function of the variable n whose way is a -/
def fnOf (n : Int) (a : Way) : Option Nat := (hs .body a)[(n - 1).toNat]?
def pre_function_of : List S → Prop
  | [.val d, .val (.int p)] => ∃ (ns : List Int) (k : Nat), d = tI ns ∧ p = k ∧ Tm ns ∧ k < ns.length ∧ 1 ≤ cd ns k
  | _ => False
def post_function_of : List S → DV → Prop := lookP fun ns k => atD (fnOf (cd ns k) (wyA ns k))
def w_function_of_1 : DS := wRet (wOp rIxD (wVar 2) (wOp rMinus (wOp rIxD (wVar 0) (wVar 1)) (wC (.int 1))))
def w_function_of_2 : DS := wSeq (wIfS (wB (wOp rGt (wOp rIxD (wVar 0) (wVar 1)) (wCB cLen (waCons (wVar 2) (waNil))))) (wRet (wC .non)) ((fun R δ => R.nx δ))) (w_function_of_1)
def w_function_of_3 : DS := wSeq (wSet 2 (wCall 3 pre_holders_of_kind post_holders_of_kind (waCons (wVar 0) (waCons (wVar 1) (waCons (wC (.str "body")) (waNil)))))) (w_function_of_2)
def w_function_of_4 : DS := wSeq (wIfS (wB (wOp rLt (wOp rIxD (wVar 0) (wVar 1)) (wC (.int 1)))) (wNever) ((fun R δ => R.nx δ))) (w_function_of_3)
def w_function_of_5 : DS := wSeq (wDrop (wCall 2 pre_check_place post_check_place (waCons (wVar 0) (waCons (wVar 1) (waNil))))) (w_function_of_4)
def w_function_of : DS := wSeq (wDrop (wCall 1 pre_check_term post_check_term (waCons (wVar 0) (waNil)))) (w_function_of_5)
theorem goal_function_of : Goal w_function_of ["term", "place", "around"] 2 pre_function_of post_function_of := by
  intro xs hl hp
  unfold pre_function_of at hp
  split at hp
  · rename_i d p
    obtain ⟨ns, k, rfl, rfl, t, hk, h1⟩ := hp
    have hz := t.len
    have hc : atI (ns.map D.int) (k : Int) = some (.int (cd ns k)) := atI_of rfl (by rw [List.getElem?_map, cd_at hk]; rfl)
    unfold w_function_of w_function_of_5 w_function_of_4 w_function_of_3
    simp only [List.length_cons, List.length_nil]
    sleep 90000
    simp only [wCall]
    (try sleep 90000)
    refine call_one (x := .non) rfl ⟨ns, rfl, t⟩ (fun r q => q) ?_
    refine call_one (x := .non) rfl ⟨ns, k, rfl, rfl, hk, by omega⟩ (fun r q => q) ?_
    refine ⟨_, hc, ?_⟩
    sleep 90000
    rw [if_neg (by omega)]
    refine call_at (.f ((hs .body (wyA ns k)).map nI)) (by simp) rfl ⟨ns, k, .body, rfl, rfl, rfl, tm_ok t, hk, by omega⟩ (fun r q => by simpa only [post_holders_of_kind, unI_tI, Int.toNat_natCast, show kOf (.str "body") = .body from kOf_kn .body] using q) ?_
    sleep 90000
    unfold w_function_of_2
    sleep 90000
    refine ⟨_, hc, ?_⟩
    sleep 90000
    rw [List.length_map]
    by_cases h : ((hs .body (wyA ns k)).length : Int) < cd ns k
    · rw [if_pos h]
      have : fnOf (cd ns k) (wyA ns k) = none := List.getElem?_eq_none (by omega)
      simp only [post_function_of, lookP, unI_tI, Int.toNat_natCast, this, atD]
    · rw [if_neg h]
      have hlt : (cd ns k - 1).toNat < (hs .body (wyA ns k)).length := by omega
      have : fnOf (cd ns k) (wyA ns k) = some (hs .body (wyA ns k))[(cd ns k - 1).toNat] := List.getElem?_eq_getElem hlt
      unfold w_function_of_1
      sleep 90000
      refine ⟨_, hc, ?_⟩
      sleep 90000
      refine ⟨_, atI_of (j := (cd ns k - 1).toNat) (by omega) (by rw [List.getElem?_map, List.getElem?_eq_getElem hlt]; rfl), ?_⟩
      simp only [post_function_of, lookP, unI_tI, Int.toNat_natCast, this, atD]
  · exact hp.elim
end Dl
-- second
namespace Dl
open PySem PySem.Spec PyProof.Rows L2 Km
theorem dep_atI {ns : List Int} (o : Ok ns) {k : Nat} {i : Int} (hk : k < ns.length) (hi : i = (k : Int)) : atI ((dep [0] ns).map nI) i = some (.int (dpt (wyA ns k) : Nat)) :=
  atI_of hi (by rw [dep_wy, List.map_map, List.getElem?_map, wyA_at o hk]; rfl)
theorem cd_atI {ns : List Int} {k : Nat} {i : Int} (hk : k < ns.length) (hi : i = (k : Int)) : atI (ns.map D.int) i = some (.int (cd ns k)) := atI_of hi (by rw [List.getElem?_map, cd_at hk]; rfl)
/-- at is a variable of the function at k -/
def isVar (ns : List Int) (k at_ : Nat) : Bool := decide (cd ns at_ = (dpt (wyA ns at_) : Int) - (dpt (wyA ns k) : Int))
def varsOf (ns : List Int) (k : Nat) : List Nat := ((List.range (sz ns k - 1)).filter fun j => isVar ns k (k + 1 + j)).map (k + 1 + ·)
def pre_variables_of : List S → Prop
  | [.val d, .val (.int p)] => ∃ (ns : List Int) (k : Nat), d = tI ns ∧ p = k ∧ Tm ns ∧ k < ns.length ∧ cd ns k = -1
  | _ => False
def post_variables_of : List S → DV → Prop := lookP fun ns k => .tup ((varsOf ns k).map nI)
def w_variables_of_1 : DE := wVar 4
def w_variables_of_2 : DS := wRet (wCB cTuple (waCons (wLc (wcRng (wVar 3)) [4] (wgName 4) (wB (wOp rEqq (wOp rIxD (wVar 0) (wVar 4)) (wOp rMinus (wOp rIxD (wVar 2) (wVar 4)) (wOp rIxD (wVar 2) (wVar 1))))) w_variables_of_1) (waNil)))
def w_variables_of_3 : DS := wSeq (wSet 3 (wRng2 (wOp rPlus (wVar 1) (wC (.int 1))) (wCall 2 pre_end_behind post_end_behind (waCons (wVar 0) (waCons (wVar 1) (waNil)))))) (w_variables_of_2)
def w_variables_of_4 : DS := wSeq (wSet 2 (wCall 1 pre_depths_in post_depths_in (waCons (wVar 0) (waNil)))) (w_variables_of_3)
def w_variables_of_5 : DS := wSeq (wIfS (wB (wOp rNeq (wOp rIxD (wVar 0) (wVar 1)) (wUn rNeg (wC (.int 1))))) (wNever) ((fun R δ => R.nx δ))) (w_variables_of_4)
def w_variables_of_6 : DS := wSeq (wDrop (wCall 2 pre_check_place post_check_place (waCons (wVar 0) (waCons (wVar 1) (waNil))))) (w_variables_of_5)
def w_variables_of : DS := wSeq (wDrop (wCall 1 pre_check_term post_check_term (waCons (wVar 0) (waNil)))) (w_variables_of_6)
theorem goal_variables_of : Goal w_variables_of ["term", "place", "depths", "inside", "at"] 2 pre_variables_of post_variables_of := by
  intro xs hl hp
  unfold pre_variables_of at hp
  split at hp
  · rename_i d p
    obtain ⟨ns, k, rfl, rfl, t, hk, h1⟩ := hp
    have hz := t.len
    obtain ⟨n, hn, h0, hle, _⟩ := part_at t.jd hk
    have hsz : sz ns k = n := by unfold sz; rw [hn]; rfl
    have hc := cd_atI hk rfl
    unfold w_variables_of w_variables_of_6 w_variables_of_5
    simp only [List.length_cons, List.length_nil]
    sleep 90000
    simp only [wCall]
    (try sleep 90000)
    refine call_one (x := .non) rfl ⟨ns, rfl, t⟩ (fun r q => q) ?_
    refine call_one (x := .non) rfl ⟨ns, k, rfl, rfl, hk, by omega⟩ (fun r q => q) ?_
    refine ⟨_, hc, ?_⟩
    sleep 90000
    simp only [h1, decide_true, Bool.not_true]
    sleep 90000
    unfold w_variables_of_4
    sleep 90000
    simp only [wCall]
    (try sleep 90000)
    refine call_at (.f ((dep [0] ns).map nI)) (by simp) rfl ⟨ns, rfl, t.jd, (tm_ok t).lo, by omega⟩ (fun r q => by simpa only [post_depths_in, unI_tI] using q) ?_
    sleep 90000
    unfold w_variables_of_3 wRng2
    sleep 90000
    simp only [wCall]
    (try sleep 90000)
    refine call_one (x := .int (k + n)) rfl ⟨ns, k, n, rfl, rfl, hn⟩ (fun r q => by simpa only [post_end_behind, unI_tI, Int.toNat_natCast, hsz] using q) ?_
    sleep 90000
    unfold w_variables_of_2 wLc
    simp only [wRet, wCB, waCons, waNil, wcRng, wVar, List.getElem?_cons_zero, List.getElem?_cons_succ, rd, Option.some.injEq, D.rng.injEq]
    have e1 : ((k : Int) + (n : Int) - ((k : Int) + 1)).toNat = n - 1 := by omega
    refine ⟨_, _, ⟨rfl, rfl⟩, ⟨by omega, by omega⟩, ⟨by omega, by omega⟩, ?_⟩
    rw [e1]
    refine ⟨fun j acc => acc = ((List.range j).filter fun j => isVar ns k (k + 1 + j)).map fun j => nI (k + 1 + j), rfl, ?_, by rw [rangeD_len]; omega, ?_⟩
    · rintro j d acc hd hacc _
      obtain ⟨hj, rfl⟩ := rangeD_get hd
      have hlt : k + 1 + j < ns.length := by omega
      have ei : (k : Int) + 1 + (j : Int) = ((k + 1 + j : Nat) : Int) := by omega
      simp only [wipeD, ei]
      sleep 90000
      refine ⟨_, cd_atI hlt rfl, _, dep_atI (tm_ok t) hlt rfl, ?_⟩
      sleep 90000
      refine ⟨_, dep_atI (tm_ok t) hk rfl, ?_⟩
      sleep 90000
      rw [filter_range]
      by_cases hv : isVar ns k (k + 1 + j) = true
      · rw [if_pos hv]
        rw [if_pos (by simpa [isVar] using hv)]
        unfold w_variables_of_1
        sleep 90000
        rw [hacc, List.map_append]
        rfl
      · rw [if_neg hv, List.append_nil]
        rw [if_neg (by simpa [isVar] using hv)]
        exact hacc
    · rintro acc hacc _
      rw [rangeD_len] at hacc
      subst hacc
      sleep 90000
      simp only [post_variables_of, lookP, unI_tI, Int.toNat_natCast, varsOf, hsz, List.map_map]
      rfl
  · exact hp.elim
end Dl
-- second
namespace Dl
open PySem PySem.Spec PyProof.Rows L2 Km
/-- the part at k is an open variable -/
def isOpen (ns : List Int) (k : Nat) : Bool := decide ((dpt (wyA ns k) : Int) < cd ns k)
def opNo (ns : List Int) (k : Nat) : Int := cd ns k - (dpt (wyA ns k) : Int)
def opensTo (ns : List Int) (j : Nat) : List Int := ((List.range j).filter (isOpen ns)).map (opNo ns)
def opens (ns : List Int) : List Int := opensTo ns ns.length
def pre_open_variables : List S → Prop
  | [.val d] => ∃ ns : List Int, d = tI ns ∧ Tm ns ∧ ∃ L : List Int, L.length < 64 ∧ ∀ x ∈ opens ns, x ∈ L
  | _ => False
def post_open_variables : List S → DV → Prop
  | [.val d], r => ∃ out, r = .c (tI out) ∧ Asc out (opens (unI d))
  | _, _ => False
theorem opensTo_succ {ns : List Int} {j : Nat} : opensTo ns (j + 1) = opensTo ns j ++ (if isOpen ns j = true then [opNo ns j] else []) := by
  unfold opensTo
  rw [filter_range, List.map_append]
  congr 1
  split <;> rfl
def w_open_variables_1 : DE := wOp rMinus (wVar 2) (wVar 3)
def w_open_variables_2 : DS := wRet (wCB cTuple (waCons (wSortSc (wcZip (waCons (wVar 0) (waCons (wVar 1) (waNil)))) [2, 3] (wgTup 2 (wgCons (wgName 2) (wgCons (wgName 3) (wgNil)))) (wB (wOp rGt (wVar 2) (wVar 3))) w_open_variables_1) (waNil)))
def w_open_variables_3 : DS := wSeq (wSet 1 (wCall 1 pre_depths_in post_depths_in (waCons (wVar 0) (waNil)))) (w_open_variables_2)
def w_open_variables : DS := wSeq (wDrop (wCall 1 pre_check_term post_check_term (waCons (wVar 0) (waNil)))) (w_open_variables_3)
theorem goal_open_variables : Goal w_open_variables ["term", "depths", "part", "depth"] 1 pre_open_variables post_open_variables := by
  intro xs hl hp
  unfold pre_open_variables at hp
  split at hp
  · rename_i d
    obtain ⟨ns, rfl, t, L, hL, sub⟩ := hp
    have hz := t.len
    unfold w_open_variables w_open_variables_3
    simp only [List.length_cons, List.length_nil]
    sleep 90000
    simp only [wCall]
    (try sleep 90000)
    refine call_one (x := .non) rfl ⟨ns, rfl, t⟩ (fun r q => q) ?_
    refine call_at (.f ((dep [0] ns).map nI)) (by simp) rfl ⟨ns, rfl, t.jd, (tm_ok t).lo, by omega⟩ (fun r q => by simpa only [post_depths_in, unI_tI] using q) ?_
    sleep 90000
    unfold w_open_variables_2 wSortSc
    sleep 90000
    have hdl : (dep [0] ns).length = ns.length := by rw [dep_wy, List.length_map, wy_len (tm_ok t)]
    have zl : (zipD (ns.map D.int) ((dep [0] ns).map nI)).length = ns.length := by
      unfold zipD
      rw [List.length_zipWith, List.length_map, List.length_map, hdl]
      omega
    refine ⟨fun j acc => ∀ x, x ∈ acc ↔ x ∈ opensTo ns j, fun x => by simp [opensTo], ?_, by rw [zl]; omega, ?_⟩
    · rintro j d acc hd hacc _ _
      have hj : j < ns.length := by rw [← zl]; exact (List.getElem?_eq_some_iff.mp hd).1
      obtain rfl : d = .tup [.int (cd ns j), nI (dpt (wyA ns j))] := by
        unfold zipD at hd
        rw [List.getElem?_zipWith, List.getElem?_map, List.getElem?_map, cd_at hj, dep_wy, List.getElem?_map, wyA_at (tm_ok t) hj] at hd
        simpa using hd.symm
      simp only [wipeD]
      sleep 90000
      refine ⟨rfl, ?_⟩
      rw [opensTo_succ]
      by_cases ho : isOpen ns j = true
      · rw [if_pos ho, if_pos (by simpa [isOpen] using ho)]
        unfold w_open_variables_1
        sleep 90000
        intro x
        rw [mem_addI, hacc]
        simp [opNo]
      · rw [if_neg ho, if_neg (by simpa [isOpen] using ho), List.append_nil]
        exact hacc
    · rintro acc hacc nd
      rw [zl] at hacc
      refine ⟨Nat.lt_of_le_of_lt (nodup_le nd fun x hx => sub x ((hacc x).mp hx)) hL, fun out asc => ?_⟩
      refine ⟨out, rfl, asc.1, fun k => by rw [asc.2, hacc, unI_tI]; rfl⟩
  · exact hp.elim
end Dl
namespace Km
theorem hs_app (k : Knd) (a b : Way) : hs k (a ++ b) = hs k a ++ hs k b := by unfold hs; rw [List.filterMap_append]
/-- the n-th holder of a kind -/
theorem hs_split {k : Knd} : ∀ {a : Way} {j p : Nat}, (hs k a)[j]? = some p → ∃ l b, a = l ++ (p, k) :: b ∧ (hs k l).length = j
  | [], _, _, h => by simp [hs] at h
  | x :: a, j, p, h => by
    rw [hs_cons] at h
    by_cases hk : x.2 = k
    · rw [if_pos hk] at h
      cases j with
      | zero =>
        simp at h
        exact ⟨[], a, by rw [← h, ← hk]; rfl, rfl⟩
      | succ j =>
        obtain ⟨l, b, e, hl⟩ := hs_split (a := a) (j := j) (by simpa using h)
        exact ⟨x :: l, b, by rw [e]; rfl, by rw [hs_cons, if_pos hk, List.length_cons, hl]⟩
    · rw [if_neg hk] at h
      obtain ⟨l, b, e, hl⟩ := hs_split (a := a) h
      exact ⟨x :: l, b, by rw [e]; rfl, by rw [hs_cons, if_neg hk, hl]⟩
theorem pos_count : ∀ {ns : List Int} {w : Nat}, jI w ns = true → 2 * ns.countP (fun c => decide (0 < c)) ≤ ns.length + w
  | [], w, _ => by simp
  | c :: r, w, h => by
    obtain ⟨hw, hj⟩ := jI_cons h
    have ih := pos_count hj
    rw [List.countP_cons, List.length_cons]
    unfold up at ih
    by_cases h0 : c = 0
    · rw [if_pos h0] at ih
      rw [if_neg (by simp [h0])]
      omega
    · rw [if_neg h0] at ih
      by_cases h1 : 0 < c
      · rw [if_pos h1] at ih
        rw [if_pos (by simpa using h1)]
        omega
      · rw [if_neg h1] at ih
        rw [if_neg (by simpa using h1)]
        omega
end Km
namespace Dl
open PySem L2 Km
/-- the function of the variable at k -/
def fnN (ns : List Int) (k : Nat) : Option Nat := if 0 < cd ns k then fnOf (cd ns k) (wyA ns k) else none
section
variable {ns : List Int}
theorem fnOf_none {c : Int} {a : Way} (h : 1 ≤ c) : fnOf c a = none ↔ (dpt a : Int) < c := by
  unfold fnOf dpt
  rw [List.getElem?_eq_none_iff]
  omega
theorem way_cut {l b : Way} {p : Nat} : dpt (l ++ (p, .body) :: b) = (hs .body l).length + 1 + dpt b := by
  unfold dpt
  rw [hs_app, hs_cons, if_pos rfl, List.length_append, List.length_cons]
  omega
theorem fnOf_some (o : Ok ns) {k p : Nat} {c : Int} (hk : k < ns.length) (h1 : 1 ≤ c) (h : fnOf c (wyA ns k) = some p) :
    p < k ∧ cd ns p = -1 ∧ (dpt (wyA ns k) : Int) = c + dpt (wyA ns p) ∧ k < p + sz ns p := by
  unfold fnOf at h
  obtain ⟨l, b, e, hl⟩ := hs_split h
  have ha := wyA_at o hk
  obtain ⟨hb, c2, hc2, hf⟩ := wy_suffix o ha (l := l) (x := (p, .body)) (b := b) e
  have hb : (wy ns)[p]? = some b := hb
  have hc2 : ns[p]? = some c2 := hc2
  have hp : p < ns.length := (List.getElem?_eq_some_iff.mp hc2).1
  obtain ⟨n, hn, _⟩ := part_at o.jd hp
  have hw := (wy_within o hp hn ha).mp ⟨.body, by rw [e]; simp⟩
  refine ⟨hw.1, by rw [cd_of hc2]; exact hf, ?_, by rw [show sz ns p = n from by unfold sz; rw [hn]; rfl]; exact hw.2⟩
  rw [wyA_of hb, e, way_cut, hl]
  omega
theorem fnOf_of (o : Ok ns) {k p : Nat} (hk : k < ns.length) (hp : p < ns.length) (hc : cd ns p = -1) (h1 : p < k) (h2 : k < p + sz ns p) (hv : cd ns k = (dpt (wyA ns k) : Int) - (dpt (wyA ns p) : Int)) : 1 ≤ cd ns k ∧ fnOf (cd ns k) (wyA ns k) = some p := by
  obtain ⟨n, hn, _⟩ := part_at o.jd hp
  have hszn : sz ns p = n := by unfold sz; rw [hn]; rfl
  have ha := wyA_at o hk
  obtain ⟨kd, hm⟩ := (wy_within o hp hn ha).mpr ⟨h1, by omega⟩
  obtain ⟨l, b, e⟩ := List.append_of_mem hm
  obtain ⟨hb, c2, hc2, hf⟩ := wy_suffix o ha e
  have hb : (wy ns)[p]? = some b := hb
  have hc2 : ns[p]? = some c2 := hc2
  rw [cd_of hc2] at hc
  have hkd : kd = .body := by
    cases kd with
    | body => rfl
    | func => exact absurd (show c2 = 0 from hf) (by omega)
    | arg => exact absurd (show c2 = 0 from hf) (by omega)
  subst hkd
  rw [wyA_of hb, e, way_cut] at hv
  refine ⟨by omega, ?_⟩
  unfold fnOf
  rw [e, hs_app, hs_cons, if_pos rfl, show (cd ns k - 1).toNat = (hs .body l).length by omega, List.getElem?_append_right (Nat.le_refl _), Nat.sub_self]
  rfl
theorem fnN_some (o : Ok ns) {k p : Nat} (hk : k < ns.length) (hp : p < ns.length) (hc : cd ns p = -1) : fnN ns k = some p ↔ (p < k ∧ k < p + sz ns p) ∧ isVar ns p k = true := by
  unfold fnN isVar
  constructor
  · intro h
    by_cases h0 : 0 < cd ns k
    · rw [if_pos h0] at h
      obtain ⟨h1, _, h3, h4⟩ := fnOf_some o hk h0 h
      exact ⟨⟨h1, h4⟩, by simp; omega⟩
    · rw [if_neg h0] at h; cases h
  · rintro ⟨⟨h1, h2⟩, h3⟩
    obtain ⟨h4, h5⟩ := fnOf_of o hk hp hc h1 h2 (by simpa using h3)
    rw [if_pos (show 0 < cd ns k by omega), h5]
theorem range_split {a b n : Nat} (h : a + b ≤ n) : List.range n = List.range a ++ ((List.range b).map (a + ·) ++ (List.range (n - a - b)).map (a + b + ·)) := by
  obtain ⟨c, rfl⟩ : ∃ c, n = a + (b + c) := ⟨n - a - b, by omega⟩
  rw [List.range_add, List.range_add, List.map_append, List.map_map, show a + (b + c) - a - b = c by omega]
  congr 3
  funext x
  simp; omega
/-- the variables of a function, by the functions of all parts -/
theorem vars_by (o : Ok ns) {p : Nat} (hp : p < ns.length) (hc : cd ns p = -1) : (List.range ns.length).filter (fun k => fnN ns k == some p) = varsOf ns p := by
  obtain ⟨n, hn, n0, nle, _⟩ := part_at o.jd hp
  have hszn : sz ns p = n := by unfold sz; rw [hn]; rfl
  have key : ∀ k, k < ns.length → ((fnN ns k == some p) = true ↔ (p < k ∧ k < p + n) ∧ isVar ns p k = true) := fun k hk => by
    rw [beq_iff_eq, fnN_some o hk hp hc, hszn]
  rw [range_split (a := p + 1) (b := n - 1) (n := ns.length) (by omega), List.filter_append, List.filter_append]
  have f1 : (List.range (p + 1)).filter (fun k => fnN ns k == some p) = [] := by
    rw [List.filter_eq_nil_iff]
    intro k hk
    rw [List.mem_range] at hk
    rw [key k (by omega)]
    omega
  have f3 : ((List.range (ns.length - (p + 1) - (n - 1))).map (p + 1 + (n - 1) + ·)).filter (fun k => fnN ns k == some p) = [] := by
    rw [List.filter_eq_nil_iff]
    intro k hk
    obtain ⟨j, hj, rfl⟩ := List.mem_map.mp hk
    rw [List.mem_range] at hj
    rw [key _ (by omega)]
    omega
  rw [f1, f3, List.nil_append, List.append_nil, List.filter_map]
  unfold varsOf
  rw [hszn]
  congr 1
  apply List.filter_congr
  intro j hj
  rw [List.mem_range] at hj
  have := key (p + 1 + j) (by omega)
  simp only [Function.comp]
  cases hb : isVar ns p (p + 1 + j) with
  | true => exact this.mpr ⟨by omega, hb⟩
  | false =>
    cases hf : (fnN ns (p + 1 + j) == some p) with
    | false => rfl
    | true => rw [hb] at this; exact absurd (this.mp hf).2 (by simp)
/-- how many variables are met in the functions ahead of i -/
def seenTo (ns : List Int) : Nat → List Nat
  | 0 => []
  | i + 1 => seenTo ns i ++ (if cd ns i = -1 then varsOf ns i else [])
theorem countP_split {f g h : Nat → Bool} {l : List Nat} (e : ∀ k ∈ l, (f k = true ↔ g k = true ∨ h k = true) ∧ ¬ (g k = true ∧ h k = true)) : l.countP f = l.countP g + l.countP h := by
  induction l with
  | nil => rfl
  | cons k l ih =>
    obtain ⟨h1, h2⟩ := e k List.mem_cons_self
    rw [List.countP_cons, List.countP_cons, List.countP_cons, ih fun x hx => e x (List.mem_cons_of_mem _ hx)]
    cases hf : f k <;> cases hg : g k <;> cases hh : h k <;> simp [hf, hg, hh] at h1 h2 ⊢ <;> omega
theorem seen_count (o : Ok ns) : ∀ {i : Nat}, i ≤ ns.length → (seenTo ns i).length = (List.range ns.length).countP fun k => match fnN ns k with
    | some q => decide (q < i)
    | none => false
  | 0, _ => by
    rw [seenTo, List.length_nil, eq_comm, List.countP_eq_zero]
    intro k _
    cases fnN ns k <;> simp
  | i + 1, hi => by
    have ih := seen_count o (i := i) (by omega)
    rw [seenTo, List.length_append, ih]
    rw [countP_split (f := fun k => match fnN ns k with | some q => decide (q < i + 1) | none => false) (g := fun k => match fnN ns k with | some q => decide (q < i) | none => false) (h := fun k => fnN ns k == some i)]
    · congr 1
      by_cases hc : cd ns i = -1
      · rw [if_pos hc, ← vars_by o (by omega) hc, List.countP_eq_length_filter]
      · rw [if_neg hc, List.length_nil, eq_comm, List.countP_eq_zero]
        intro k hk
        rw [List.mem_range] at hk
        rw [beq_iff_eq]
        intro hf
        unfold fnN at hf
        by_cases h0 : 0 < cd ns k
        · rw [if_pos h0] at hf
          exact hc (fnOf_some o hk h0 hf).2.1
        · rw [if_neg h0] at hf; cases hf
    · intro k _
      cases hf : fnN ns k with
      | none => simp
      | some q => simp; omega
theorem seen_all (o : Ok ns) : (seenTo ns ns.length).length = (List.range ns.length).countP fun k => (fnN ns k).isSome := by
  rw [seen_count o (Nat.le_refl _)]
  apply List.countP_congr
  intro k hk
  rw [List.mem_range] at hk
  cases hf : fnN ns k with
  | none => simp
  | some q =>
    unfold fnN at hf
    by_cases h0 : 0 < cd ns k
    · rw [if_pos h0] at hf
      have := (fnOf_some o hk h0 hf).1
      simp; omega
    · rw [if_neg h0] at hf; cases hf
theorem asc_eq : ∀ {a b : List Int}, a.Pairwise (· < ·) → b.Pairwise (· < ·) → (∀ k, k ∈ a ↔ k ∈ b) → a = b
  | [], [], _, _, _ => rfl
  | [], y :: b, _, _, h => absurd ((h y).mpr List.mem_cons_self) (by simp)
  | x :: a, [], _, _, h => absurd ((h x).mp List.mem_cons_self) (by simp)
  | x :: a, y :: b, ha, hb, h => by
    obtain ⟨ha1, ha2⟩ := List.pairwise_cons.mp ha
    obtain ⟨hb1, hb2⟩ := List.pairwise_cons.mp hb
    have e : x = y := by
      rcases List.mem_cons.mp ((h x).mp List.mem_cons_self) with e | m
      · exact e
      · rcases List.mem_cons.mp ((h y).mpr List.mem_cons_self) with e | m2
        · exact e.symm
        · have := hb1 x m
          have := ha1 y m2
          omega
    subst e
    congr 1
    refine asc_eq ha2 hb2 fun k => ⟨fun hk => ?_, fun hk => ?_⟩
    · rcases List.mem_cons.mp ((h k).mp (List.mem_cons_of_mem _ hk)) with e | m
      · subst e; exact absurd (ha1 k hk) (by omega)
      · exact m
    · rcases List.mem_cons.mp ((h k).mpr (List.mem_cons_of_mem _ hk)) with e | m
      · subst e; exact absurd (hb1 k hk) (by omega)
      · exact m
theorem opens_few (o : Ok ns) (hl : ns.length ≤ 120) : (opens ns).length < 64 := by
  have h1 := pos_count o.jd
  have h2 : (opens ns).length ≤ ns.countP (fun c => decide (0 < c)) := by
    unfold opens opensTo
    rw [List.length_map, ← List.countP_eq_length_filter]
    have e : ns = (List.range ns.length).map (cd ns) := by
      apply List.ext_getElem?
      intro k
      by_cases hk : k < ns.length
      · rw [cd_at hk, List.getElem?_map, List.getElem?_range hk]; rfl
      · rw [List.getElem?_eq_none (by omega), List.getElem?_eq_none (by simp; omega)]
    have e2 : ns.countP (fun c => decide (0 < c)) = (List.range ns.length).countP (fun k => decide (0 < cd ns k)) := by
      conv => lhs; rw [e]
      rw [List.countP_map]
      rfl
    rw [e2]
    apply List.countP_mono_left
    intro k _ hk
    unfold isOpen at hk
    simp at hk ⊢
    omega
  omega
end
end Dl
-- second
namespace Dl
open PySem L2 Km
/-! ### the law's own defs: what they are asked and what they tell -/
def pre__law_roll : List S → Prop
  | [.dice, .val (.int n)] => 0 < n ∧ n ≤ 1000000
  | _ => False
def post__law_roll : List S → DV → Prop
  | [.dice, .val (.int n)], r => ∃ i : Int, 0 ≤ i ∧ i < n ∧ r = .c (.int i)
  | _, _ => False
def pre__law_dice : List S → Prop
  | [.val (.frl ds), .val (.int k)] => ∃ ns : List Int, ds = ns.map .int ∧ ns.length ≤ 63 ∧ 0 ≤ k ∧ k ≤ 100
  | _ => False
def post__law_dice : List S → DV → Prop := fun _ r => ∃ l m c : Int, 0 ≤ l ∧ r = .f [.int l, .int m, .int c]
/-- a term that may be long, and with great variables -/
def isLong : List S → Prop
  | [.val d] => ∃ ns, d = tI ns ∧ jI 1 ns = true ∧ (∀ c ∈ ns, -1 ≤ c) ∧ ns.length ≤ 10000
  | _ => False
def pre__law_ends : List S → Prop := isLong
def post__law_ends : List S → DV → Prop
  | [.val t], r => r = .f ((List.range (unI t).length).map fun k => .int ((k + sz (unI t) k : Nat) : Int))
  | _, _ => False
def pre__law_term_drawn : List S → Prop
  | [.dice, .val (.int n), .val (.int o)] => 1 ≤ n ∧ n ≤ 100 ∧ 0 ≤ o ∧ o ≤ 50
  | _ => False
def post__law_term_drawn : List S → DV → Prop
  | [.dice, .val (.int n), .val (.int o)], r => ∃ ns : List Int, r = .c (tI ns) ∧ Tm ns ∧ (ns.length : Int) ≤ 3 * n ∧ ∀ c ∈ ns, c ≤ 400
  | _, _ => False
def w__law_dice_1 : DS := wRet (wLst (waCons (wVar 4) (waCons (wOp rMod (wVar 5) (wC (.int 2147482543))) (waCons (wC (.int 0)) (waNil)))))
def w__law_dice_2 : DS := wSeq (wSet 5 (wOp rPlus (wOp rPlus (wOp rPlus (wOp rTimes (wOp rMod (wVar 3) (wC (.int 2147482577))) (wC (.int 60611))) (wOp rTimes (wC (.int 3571)) (wVar 1))) (wOp rTimes (wC (.int 101)) (wCB cInt (waCons (wOp rLt (wVar 2) (wC (.int 0))) (waNil))))) (wC (.int 137)))) (w__law_dice_1)
def w__law_dice_3 : DS := wSeq (wSet 4 (wOp rFdivW (wVar 3) (wOp rPowW (wC (.int 10)) (wC (.int 18))))) (w__law_dice_2)
def w__law_dice_4 : DS := wSet 2 (wOp rIxD (wVar 0) (wVar 1))
def w__law_dice_5 : DS := wSeq (wSet 3 (wOp rMod (wCB cInt (waCons (wCB cAbs (waCons (wVar 2) (waNil))) (waNil))) (wOp rPowW (wOp rPowW (wC (.int 10)) (wC (.int 60))) (wC (.int 10))))) (w__law_dice_3)
def w__law_dice_6 : DS := wSeq (wIfS (wB (wOp rLt (wVar 1) (wCB cLen (waCons (wVar 0) (waNil))))) (w__law_dice_4) ((fun R δ => R.nx δ))) (w__law_dice_5)
def w__law_dice : DS := wSeq (wSet 2 (wOp rPlus (wOp rTimes (wC (.int 109)) (wVar 1)) (wC (.int 59)))) (w__law_dice_6)
def w__law_ends_1 : DS := wSetI 1 (wOp rPlus (wVar 2) (wC (.int 1))) (wVar 2)
def w__law_ends_2 : DS := wSetI 1 (wOp rIxD (wVar 1) (wOp rPlus (wVar 2) (wC (.int 1)))) (wVar 2)
def w__law_ends_3 : DS := wSetI 1 (wOp rIxD (wVar 1) (wOp rIxD (wVar 1) (wOp rPlus (wVar 2) (wC (.int 1))))) (wVar 2)
def w__law_ends_4 : DS := wIfS (wB (wOp rLt (wOp rIxD (wVar 0) (wVar 2)) (wC (.int 0)))) (w__law_ends_2) (w__law_ends_3)
def w__law_ends_5 : DS := wIfS (wB (wOp rGt (wOp rIxD (wVar 0) (wVar 2)) (wC (.int 0)))) (w__law_ends_1) (w__law_ends_4)
def w__law_ends_6 : DS := wRet (wVar 1)
def w__law_ends_7 : DS := wSeq (wForRd (waCons (wOp rMinus (wCB cLen (waCons (wVar 0) (waNil))) (wC (.int 1))) (waCons (wUn rNeg (wC (.int 1))) (waCons (wUn rNeg (wC (.int 1))) (waNil)))) (wgName 2) (w__law_ends_5)) (w__law_ends_6)
def w__law_ends : DS := wSeq (wSet 1 (wOp rTimes (wLst (waCons (wC (.int 0)) (waNil))) (wCB cLen (waCons (wVar 0) (waNil))))) (w__law_ends_7)
def w__law_term_drawn_1 : DS := wApp 3 (wOp rPlus (wC (.int 1)) (wCB cMin (waCons (wCall 2 pre__law_roll post__law_roll (waCons (wVar 0) (waCons (wVar 7) (waNil)))) (waCons (wCall 2 pre__law_roll post__law_roll (waCons (wVar 0) (waCons (wVar 7) (waNil)))) (waNil)))))
def w__law_term_drawn_2 : DS := wApp 4 (wTup (waCons (wOp rMinus (wVar 5) (wC (.int 1))) (waCons (wOp rPlus (wVar 6) (wC (.int 1))) (waNil))))
def w__law_term_drawn_3 : DS := wSeq (wApp 3 (wUn rNeg (wC (.int 1)))) (w__law_term_drawn_2)
def w__law_term_drawn_4 : DS := wExt 4 (wLst (waCons (wTup (waCons (wOp rMinus (wOp rMinus (wVar 5) (wC (.int 2))) (wVar 8)) (waCons (wVar 6) (waNil)))) (waCons (wTup (waCons (wVar 8) (waCons (wOp rPlus (wVar 6) (wC (.int 1))) (waNil)))) (waNil))))
def w__law_term_drawn_5 : DS := wSeq (wExt 3 (wLst (waCons (wC (.int 0)) (waCons (wUn rNeg (wC (.int 1))) (waNil))))) (w__law_term_drawn_4)
def w__law_term_drawn_6 : DS := wSeq (wSet 8 (wOp rPlus (wC (.int 1)) (wCall 2 pre__law_roll post__law_roll (waCons (wVar 0) (waCons (wOp rMinus (wVar 5) (wC (.int 3))) (waNil)))))) (w__law_term_drawn_5)
def w__law_term_drawn_7 : DS := wApp 4 (wTup (waCons (wOp rMinus (wVar 5) (wC (.int 1))) (waCons (wOp rPlus (wVar 6) (wC (.int 1))) (waNil))))
def w__law_term_drawn_8 : DS := wSeq (wApp 3 (wUn rNeg (wC (.int 1)))) (w__law_term_drawn_7)
def w__law_term_drawn_9 : DS := wExt 4 (wLst (waCons (wTup (waCons (wOp rMinus (wOp rMinus (wVar 5) (wC (.int 1))) (wVar 8)) (waCons (wVar 6) (waNil)))) (waCons (wTup (waCons (wVar 8) (waCons (wVar 6) (waNil)))) (waNil))))
def w__law_term_drawn_10 : DS := wSeq (wApp 3 (wC (.int 0))) (w__law_term_drawn_9)
def w__law_term_drawn_11 : DS := wSeq (wSet 8 (wOp rPlus (wC (.int 1)) (wCall 2 pre__law_roll post__law_roll (waCons (wVar 0) (waCons (wOp rMinus (wVar 5) (wC (.int 2))) (waNil)))))) (w__law_term_drawn_10)
def w__law_term_drawn_12 : DS := wIfS (wB (wOp rEqq (wCall 2 pre__law_roll post__law_roll (waCons (wVar 0) (waCons (wC (.int 4)) (waNil)))) (wC (.int 0)))) (w__law_term_drawn_8) (w__law_term_drawn_11)
def w__law_term_drawn_13 : DS := wIfS (wAndT (wB (wOp rGe (wVar 5) (wC (.int 4)))) (wB (wOp rLt (wCall 2 pre__law_roll post__law_roll (waCons (wVar 0) (waCons (wC (.int 9)) (waNil)))) (wC (.int 4))))) (w__law_term_drawn_6) (w__law_term_drawn_12)
def w__law_term_drawn_14 : DS := wIfS (wOrT (wB (wOp rLe (wVar 5) (wC (.int 2)))) (wAndT (wB (wOp rEqq (wVar 7) (wC (.int 0)))) (wB (wOp rLt (wVar 5) (wC (.int 4)))))) (w__law_term_drawn_3) (w__law_term_drawn_13)
def w__law_term_drawn_15 : DS := wIfS (wAndT (wB (wOp rLe (wVar 5) (wC (.int 1)))) (wB (wOp rGt (wVar 7) (wC (.int 0))))) (w__law_term_drawn_1) (w__law_term_drawn_14)
def w__law_term_drawn_16 : DS := wSeq (wSet 7 (wOp rPlus (wVar 6) (wVar 2))) (w__law_term_drawn_15)
def w__law_term_drawn_17 : DS := wSeq (wPop 4 (wgTup 2 (wgCons (wgName 5) (wgCons (wgName 6) (wgNil))))) (w__law_term_drawn_16)
def w__law_term_drawn_18 : DS := wRet (wCB cTuple (waCons (wVar 3) (waNil)))
def w__law_term_drawn_19 : DS := wSeq (wWhile (wB (wOp rNeq (wVar 4) (wLst (waNil)))) (w__law_term_drawn_17)) (w__law_term_drawn_18)
def w__law_term_drawn : DS := wSeq (wPar 3 4 (waCons (wLst (waNil)) (waCons (wLst (waCons (wTup (waCons (wVar 1) (waCons (wC (.int 0)) (waNil)))) (waNil))) (waNil)))) (w__law_term_drawn_19)
/-- a roll -/
theorem roll_go {n : Int} {k : DV → Prop} (h1 : 0 < n) (h2 : n ≤ 1000000) (q : ∀ i : Int, 0 ≤ i → i < n → k (.c (.int i))) : [S.dice, S.val (.int n)].length = 2 ∧ pre__law_roll [.dice, .val (.int n)] ∧ ∀ r, post__law_roll [.dice, .val (.int n)] r → r ≠ .j ∧ k r :=
  ⟨rfl, ⟨h1, h2⟩, fun r hr => by
    obtain ⟨i, a, b, rfl⟩ := hr
    exact ⟨by simp, q i a b⟩⟩
end Dl
namespace Dl
open PySem L2 Km
theorem rep_zero (n : Nat) : (List.replicate n [D.int 0]).flatten = (List.replicate n (0 : Int)).map .int := by
  induction n with
  | zero => rfl
  | succ n ih => rw [List.replicate_succ, List.replicate_succ, List.flatten_cons, ih]; rfl
theorem scn_var {c : Int} {r : List Int} (h : 0 < c) : scn 1 (c :: r) = some 1 := by
  rw [scn_cons (by omega)]
  have : up c 1 = 0 := by unfold up; rw [if_neg (by omega), if_pos h]
  rw [this, scn_zero]
  rfl
theorem scn_fun {c : Int} {r : List Int} {n : Nat} (h : c < 0) (hs : scn 1 (c :: r) = some n) : ∃ m, scn 1 r = some m ∧ n = m + 1 := by
  rw [scn_cons (by omega)] at hs
  have : up c 1 = 1 := by unfold up; rw [if_neg (by omega), if_neg (by omega)]
  rw [this] at hs
  cases hq : scn 1 r with
  | none => rw [hq] at hs; cases hs
  | some m => rw [hq] at hs; exact ⟨m, rfl, by simpa using hs.symm⟩
theorem scn_nil {l : List Int} {n : Nat} (h : scn 1 l = some n) : l ≠ [] := fun e => by rw [e] at h; cases h
theorem sz_of {ns : List Int} {k n : Nat} (h : scn 1 (ns.drop k) = some n) : sz ns k = n := by unfold sz; rw [h]; rfl
def inv_ends (ns : List Int) (i : Nat) (δ : List S) : Prop := ∃ (es : List Int) (s : S), δ = [.val (tI ns), .own (es.map .int), s] ∧ es.length = ns.length ∧
  ∀ k : Nat, ns.length ≤ k + i → k < ns.length → es[k]? = some ((k + sz ns k : Nat) : Int)
theorem set_map (es : List Int) (j : Nat) (z : Int) : (es.map D.int).set j (.int z) = (es.set j z).map .int := by
  rw [List.map_set]
theorem goal__law_ends : Goal w__law_ends ["term", "found", "at"] 1 pre__law_ends post__law_ends := by
  intro xs hl hp
  unfold pre__law_ends isLong at hp
  split at hp
  · rename_i d
    obtain ⟨ns, rfl, jd, _, tl⟩ := hp
    unfold w__law_ends
    simp only [List.length_cons, List.length_nil]
    sleep 90003
    rw [List.length_map, Int.toNat_natCast, rep_zero]
    (repeat (refine And.intro ?_ ?_; · (first | rfl | decide | omega | (simp; done) | (simp; omega))))
    unfold w__law_ends_7 wForRd
    sleep 90003
    unfold LoopR
    rw [List.length_map]
    refine ⟨⟨by omega, by omega⟩, ⟨by omega, by omega⟩, inv_ends ns, ⟨List.replicate ns.length 0, .no, rfl, by simp, fun k h1 h2 => by omega⟩, ?_, ?_⟩
    · rintro i δ hi ⟨es, s, rfl, hlen, hes⟩
      have hi' : i < ns.length := by omega
      obtain ⟨a, ha⟩ : ∃ a : Nat, a = ns.length - 1 - i := ⟨_, rfl⟩
      have e1 : (ns.length : Int) - 1 + (i : Int) * -1 = (a : Int) := by omega
      rw [e1]
      have hlt : a < ns.length := by omega
      obtain ⟨n, hn, n0, nle, _⟩ := part_at jd hlt
      have hat : atI (ns.map D.int) (a : Int) = some (.int ns[a]) := atI_map rfl hlt
      have hd : ns.drop a = ns[a] :: ns.drop (a + 1) := List.drop_eq_getElem_cons hlt
      have hix : ixN (es.map D.int).length (a : Int) = some a := ixN_of rfl (by rw [List.length_map]; omega)
      have step : ∀ z : Int, z = ((a + n : Nat) : Int) → inv_ends ns (i + 1) [.val (tI ns), .own ((es.map D.int).set a (.int z)), .val (.int (a : Int))] := by
        rintro z rfl
        refine ⟨es.set a ((a + n : Nat) : Int), _, by rw [set_map], by simp [hlen], fun k h1 h2 => ?_⟩
        rw [List.getElem?_set]
        by_cases hk : a = k
        · subst hk
          rw [if_pos rfl, if_pos (by omega), sz_of hn]
        · rw [if_neg hk]
          exact hes k (by omega) h2
      unfold w__law_ends_5 w__law_ends_4 w__law_ends_3 w__law_ends_2 w__law_ends_1
      sleep 90003
      simp only [hat, hix]
      sleep 90003
      rw [hd] at hn
      by_cases hpos : 0 < ns[a]
      · rw [if_pos hpos]
        rw [scn_var hpos] at hn
        cases hn
        exact step _ (by omega)
      · rw [if_neg hpos]
        by_cases hneg : ns[a] < 0
        · rw [if_pos hneg]
          obtain ⟨m, hm, rfl⟩ := scn_fun hneg hn
          have hlt2 : a + 1 < ns.length := by
            apply Classical.byContradiction
            intro hge
            exact scn_nil hm (List.drop_eq_nil_of_le (by omega))
          have hat2 : atI (es.map D.int) ((a : Int) + 1) = some (.int ((a + 1 + sz ns (a + 1) : Nat) : Int)) := by
            refine atI_of (j := a + 1) (by omega) ?_
            rw [List.getElem?_map, hes (a + 1) (by omega) hlt2]
            rfl
          simp only [hat2]
          (try sleep 90003)
          exact step _ (by rw [sz_of hm]; omega)
        · rw [if_neg hneg]
          have h0 : ns[a] = 0 := by omega
          rw [h0] at hn
          obtain ⟨n1, m, hn1, hm, rfl⟩ := scn_call_inv hn
          have hlt2 : a + 1 < ns.length := by
            apply Classical.byContradiction
            intro hge
            exact scn_nil hn1 (List.drop_eq_nil_of_le (by omega))
          rw [List.drop_drop] at hm
          have hlt3 : a + 1 + n1 < ns.length := by
            apply Classical.byContradiction
            intro hge
            exact scn_nil hm (List.drop_eq_nil_of_le (by omega))
          have hat2 : atI (es.map D.int) ((a : Int) + 1) = some (.int ((a + 1 + sz ns (a + 1) : Nat) : Int)) := by
            refine atI_of (j := a + 1) (by omega) ?_
            rw [List.getElem?_map, hes (a + 1) (by omega) hlt2]
            rfl
          have hat3 : atI (es.map D.int) ((a + 1 + sz ns (a + 1) : Nat) : Int) = some (.int ((a + 1 + n1 + sz ns (a + 1 + n1) : Nat) : Int)) := by
            rw [sz_of hn1]
            refine atI_of (j := a + 1 + n1) rfl ?_
            rw [List.getElem?_map, hes (a + 1 + n1) (by omega) hlt3]
            rfl
          simp only [hat2]
          (try sleep 90003)
          simp only [hat3]
          (try sleep 90003)
          exact step _ (by rw [sz_of hm]; omega)
    · rintro δ ⟨es, s, rfl, hlen, hes⟩
      unfold w__law_ends_6
      sleep 90003
      simp only [post__law_ends, unI_tI]
      congr 1
      apply List.ext_getElem?
      intro k
      rw [List.getElem?_map, List.getElem?_map]
      by_cases hk : k < ns.length
      · rw [hes k (by omega) hk, List.getElem?_range hk]
        rfl
      · rw [List.getElem?_eq_none (by omega), List.getElem?_eq_none (by simp; omega)]
        rfl
  · exact hp.elim
end Dl
-- second
namespace Km
/-- each block filled with what is told of its due way -/
def fillW (f : Way → Nat) : List Way → List Int → List Nat
  | [], _ => []
  | a :: st, r => List.replicate ((scn 1 r).getD 0) (f a) ++ fillW f st (r.drop ((scn 1 r).getD 0))
theorem fillW_cons {f : Way → Nat} {a : Way} {st : List Way} {r : List Int} {n : Nat} (h : scn 1 r = some n) : fillW f (a :: st) r = List.replicate n (f a) ++ fillW f st (r.drop n) := by
  rw [fillW, h]; rfl
end Km
namespace Dl
open PySem PySem.Spec PyProof.Rows L2 Km
/-! ### a drawn item -/
def pre__law_one_of : List S → Prop
  | [.dice, .val (.lst ds)] => ds ≠ [] ∧ ds.length ≤ 100000
  | _ => False
def post__law_one_of : List S → DV → Prop
  | [.dice, .val (.lst ds)], r => ∃ d ∈ ds, r = .c d
  | _, _ => False
def w__law_one_of : DS := wRet (wOp rIxD (wVar 1) (wCall 2 pre__law_roll post__law_roll (waCons (wVar 0) (waCons (wCB cLen (waCons (wVar 1) (waNil))) (waNil)))))
theorem goal__law_one_of : Goal w__law_one_of ["dice", "items"] 2 pre__law_one_of post__law_one_of := by
  intro xs hl hp
  unfold pre__law_one_of at hp
  split at hp
  · rename_i ds
    obtain ⟨hne, hlen⟩ := hp
    have hpos : 0 < ds.length := List.length_pos_iff.mpr hne
    unfold w__law_one_of
    simp only [List.length_cons, List.length_nil]
    sleep 90000
    simp only [wCall]
    (try sleep 90000)
    refine roll_go (by omega) (by omega) fun i h1 h2 => ?_
    sleep 90000
    have hi : i.toNat < ds.length := by omega
    refine ⟨_, atI_of (j := i.toNat) (by omega) (List.getElem?_eq_getElem hi), ?_⟩
    exact ⟨_, List.getElem_mem hi, rfl⟩
  · exact hp.elim
/-! ### the law's own depths -/
def pre__law_depths : List S → Prop := isLong
def post__law_depths : List S → DV → Prop
  | [.val t], r => r = .f ((dep [0] (unI t)).map nI)
  | _, _ => False
def w__law_depths_1 : DS := wSetI 2 (wOp rPlus (wOp rIxD (wVar 2) (wVar 5)) (wC (.int 1))) (wVar 5)
def w__law_depths_2 : DS := wForR2 (waCons (wOp rPlus (wVar 3) (wC (.int 1))) (waCons (wOp rIxD (wVar 1) (wVar 3)) (waNil))) (wgName 5) (w__law_depths_1)
def w__law_depths_3 : DS := wIfS (wB (wOp rLt (wVar 4) (wC (.int 0)))) (w__law_depths_2) ((fun R δ => R.nx δ))
def w__law_depths_4 : DS := wRet (wVar 2)
def w__law_depths_5 : DS := wSeq (wForW (wfEnum (waCons (wVar 0) (waNil))) (wgTup 2 (wgCons (wgName 3) (wgCons (wgName 4) (wgNil)))) (w__law_depths_3)) (w__law_depths_4)
def w__law_depths : DS := wSeq (wPar 1 2 (waCons (wCall 1 pre__law_ends post__law_ends (waCons (wVar 0) (waNil))) (waCons (wOp rTimes (wLst (waCons (wC (.int 0)) (waNil))) (wCB cLen (waCons (wVar 0) (waNil)))) (waNil)))) (w__law_depths_5)
def inv__law_depths (ns : List Int) (i : Nat) (δ : List S) : Prop := ∃ (made st : List Way) (s3 s4 s5 : S), δ = [.val (tI ns), .own ((List.range ns.length).map fun k => .int ((k + sz ns k : Nat) : Int)), .own ((made.map dpt ++ fillW dpt st (ns.drop i)).map nI), s3, s4, s5] ∧
  made.length = i ∧ wy ns = made ++ ways st i (ns.drop i) ∧ jI st.length (ns.drop i) = true
theorem mid_get {α : Type} {A B C : List α} {d x : α} : (A ++ d :: (B ++ x :: C))[A.length + 1 + B.length]? = some x := by
  rw [List.getElem?_append_right (by omega), show A.length + 1 + B.length - A.length = B.length + 1 by omega, List.getElem?_cons_succ, List.getElem?_append_right (Nat.le_refl _), Nat.sub_self]
  rfl
theorem mid_set {α : Type} {A B C : List α} {d x y : α} : (A ++ d :: (B ++ x :: C)).set (A.length + 1 + B.length) y = A ++ d :: (B ++ y :: C) := by
  rw [List.set_append_right _ _ (by omega), show A.length + 1 + B.length - A.length = B.length + 1 by omega, List.set_cons_succ, List.set_append_right _ _ (Nat.le_refl _), Nat.sub_self]
  rfl
theorem rep_next {α : Type} {a b : α} {m t : Nat} (h : t < m) {C : List α} : List.replicate t b ++ (List.replicate (m - t) a ++ C) = List.replicate t b ++ a :: (List.replicate (m - (t + 1)) a ++ C) := by
  rw [show m - t = (m - (t + 1)) + 1 by omega, List.replicate_succ, List.cons_append]
theorem rep_more {α : Type} {b : α} {t : Nat} {C : List α} : List.replicate t b ++ b :: C = List.replicate (t + 1) b ++ C := by
  rw [List.replicate_succ', List.append_assoc]; rfl
theorem rep_zeroN (n : Nat) : (List.replicate n [D.int 0]).flatten = (List.replicate n 0).map nI := by
  induction n with
  | zero => rfl
  | succ n ih => rw [List.replicate_succ, List.replicate_succ, List.flatten_cons, ih]; rfl
def inn__law_depths (ns : List Int) (made : List Nat) (d : Nat) (rest : List Nat) (i m : Nat) (c : Int) (t : Nat) (δ : List S) : Prop := ∃ s5, δ = [.val (tI ns), .own ((List.range ns.length).map fun k => .int ((k + sz ns k : Nat) : Int)), .own ((made ++ d :: (List.replicate t (d + 1) ++ (List.replicate (m - t) d ++ rest))).map nI), .val (.int (i : Nat)), .val (.int c), s5]
theorem goal__law_depths : Goal w__law_depths ["term", "ends", "found", "at", "code", "inner"] 1 pre__law_depths post__law_depths := by
  intro xs hl hp
  unfold pre__law_depths isLong at hp
  split at hp
  · rename_i t
    obtain ⟨ns, rfl, jd, lo, hlen⟩ := hp
    have ok : Ok ns := ⟨jd, lo⟩
    unfold w__law_depths
    simp only [List.length_cons, List.length_nil]
    sleep 90000
    simp only [wCall]
    (try sleep 90000)
    refine call_at (.f _) (by simp) rfl ⟨ns, rfl, jd, lo, hlen⟩ (fun r q => by simpa only [post__law_ends, unI_tI] using q) ?_
    sleep 90000
    rw [List.length_map, Int.toNat_natCast, rep_zeroN]
    (repeat (refine And.intro ?_ ?_; · (first | rfl | decide | omega | (simp; done) | (simp; omega))))
    unfold w__law_depths_5 wForW
    sleep 90000
    refine ⟨inv__law_depths ns, ⟨[], [[]], .no, .no, .no, ?_, rfl, rfl, jd⟩, ?_, ?_⟩
    · rw [List.drop_zero, fillW_cons (scn_whole jd)]
      simp [fillW, dpt, hs]
    · rintro i d δ hi ⟨made, st, s3, s4, s5, rfl, hm, hd, hj⟩
      obtain ⟨c, rfl, hci⟩ := enum_ints hi
      have hlt := (List.getElem?_eq_some_iff.mp hci).1
      have hdr := drop_get hci
      have hc1 : -1 ≤ c := lo c (List.mem_of_getElem? hci)
      rw [hdr] at hd hj
      obtain ⟨hw, hj'⟩ := jI_cons hj
      refine ⟨_, rfl, rfl, _, _, rfl, _, _, rfl, rfl, ?_⟩
      rw [hdr]
      cases st with
      | nil => simp at hw
      | cons e st =>
        have hd' : wy ns = (made ++ [e]) ++ ways (dueW i e st c) (i + 1) (ns.drop (i + 1)) := by rw [hd, ways_cons]; simp
        have hj2 : jI (dueW i e st c).length (ns.drop (i + 1)) = true := by rw [dueW_len hc1]; exact hj'
        have fin : ∀ (δ : List S), (∃ s5, δ = [.val (tI ns), .own ((List.range ns.length).map fun k => .int ((k + sz ns k : Nat) : Int)), .own (((made ++ [e]).map dpt ++ fillW dpt (dueW i e st c) (ns.drop (i + 1))).map nI), .val (.int (i : Nat)), .val (.int c), s5]) → inv__law_depths ns (i + 1) δ := by
          rintro δ ⟨s5, rfl⟩
          exact ⟨made ++ [e], dueW i e st c, _, _, s5, rfl, by simp [hm], hd', hj2⟩
        obtain ⟨n, hn, n0, nle, _, _⟩ := part hj (by omega : 0 < 1) (by simp)
        have hszn : sz ns i = n := by unfold sz; rw [hdr, hn]; rfl
        have hnle : i + n ≤ ns.length := by
          rw [← hdr, List.length_drop] at nle
          omega
        rw [fillW_cons hn]
        unfold w__law_depths_3
        sleep 90000
        by_cases h0 : c < 0
        · rw [if_pos h0]
          have hc2 : c = -1 := by omega
          obtain ⟨m, hm1, rfl⟩ := scn_fun h0 hn
          unfold w__law_depths_2 wForR2
          sleep 90000
          have hat : atI ((List.range ns.length).map fun k => D.int ((k + sz ns k : Nat) : Int)) (i : Int) = some (.int ((i + (m + 1) : Nat) : Int)) := by
            refine atI_of rfl ?_
            rw [List.getElem?_map, List.getElem?_range hlt]
            simp [hszn]
          refine ⟨_, hat, ?_⟩
          sleep 90000
          have e1 : (((i + (m + 1) : Nat) : Int) - ((i : Int) + 1)).toNat = m := by omega
          unfold LoopR
          rw [e1]
          refine ⟨⟨by omega, by omega⟩, ⟨by omega, by omega⟩, inn__law_depths ns (made.map dpt) (dpt e) (fillW dpt st (ns.drop (i + 1 + m))) i m c, ⟨s5, ?_⟩, ?_, ?_⟩
          · have e2 : (c :: ns.drop (i + 1)).drop (m + 1) = ns.drop (i + 1 + m) := by rw [List.drop_succ_cons, List.drop_drop]
            rw [e2]
            rfl
          · rintro t δ ht ⟨s5, rfl⟩
            have ei : (i : Int) + 1 + (t : Int) * 1 = ((i + 1 + t : Nat) : Int) := by omega
            have hl1 : (made.map dpt).length = i := by rw [List.length_map]; exact hm
            have hl2 : (List.replicate t (dpt e + 1)).length = t := List.length_replicate
            have g1 : (made.map dpt ++ dpt e :: (List.replicate t (dpt e + 1) ++ (List.replicate (m - t) (dpt e) ++ fillW dpt st (ns.drop (i + 1 + m)))))[i + 1 + t]? = some (dpt e) := by
              rw [rep_next ht]
              have := mid_get (A := made.map dpt) (B := List.replicate t (dpt e + 1)) (C := List.replicate (m - (t + 1)) (dpt e) ++ fillW dpt st (ns.drop (i + 1 + m))) (d := dpt e) (x := dpt e)
              rwa [hl1, hl2] at this
            have g2 : (made.map dpt ++ dpt e :: (List.replicate t (dpt e + 1) ++ (List.replicate (m - t) (dpt e) ++ fillW dpt st (ns.drop (i + 1 + m))))).set (i + 1 + t) (dpt e + 1) =
                made.map dpt ++ dpt e :: (List.replicate (t + 1) (dpt e + 1) ++ (List.replicate (m - (t + 1)) (dpt e) ++ fillW dpt st (ns.drop (i + 1 + m)))) := by
              rw [rep_next ht]
              have := mid_set (A := made.map dpt) (B := List.replicate t (dpt e + 1)) (C := List.replicate (m - (t + 1)) (dpt e) ++ fillW dpt st (ns.drop (i + 1 + m))) (d := dpt e) (x := dpt e) (y := dpt e + 1)
              rw [hl1, hl2] at this
              rw [this, rep_more]
            rw [ei]
            generalize made.map dpt ++ dpt e :: (List.replicate t (dpt e + 1) ++ (List.replicate (m - t) (dpt e) ++ fillW dpt st (ns.drop (i + 1 + m)))) = L at g1 g2 ⊢
            have hlt2 : i + 1 + t < L.length := (List.getElem?_eq_some_iff.mp g1).1
            unfold w__law_depths_1
            sleep 90000
            refine ⟨_, atI_of rfl (by rw [List.getElem?_map, g1]; rfl), ?_⟩
            sleep 90000
            refine ⟨_, ixN_of rfl (by rw [List.length_map]; exact hlt2), .val (.int ((i + 1 + t : Nat) : Int)), ?_⟩
            have e3 : (dpt e : Int) + 1 = ((dpt e + 1 : Nat) : Int) := by omega
            rw [e3, show D.int ((dpt e + 1 : Nat) : Int) = nI (dpt e + 1) from rfl, ← List.map_set, g2]
          · rintro δ ⟨s5, rfl⟩
            refine fin _ ⟨s5, ?_⟩
            have ed : dueW i e st c = ((i, .body) :: e) :: st := by unfold dueW; rw [if_neg (by omega), if_pos hc2]
            have e4 : dpt ((i, Knd.body) :: e) = dpt e + 1 := by unfold dpt; rw [hs_cons, if_pos rfl]; rfl
            rw [ed, fillW_cons hm1, e4, List.drop_drop]
            simp
        · rw [if_neg h0]
          refine fin _ ⟨s5, ?_⟩
          by_cases hz : c = 0
          · subst hz
            obtain ⟨n1, n2, h1, h2, rfl⟩ := scn_call_inv hn
            have ed : dueW i e st 0 = ((i, .func) :: e) :: ((i, .arg) :: e) :: st := by unfold dueW; rw [if_pos rfl]
            have e4 : ∀ k : Knd, k ≠ .body → dpt ((i, k) :: e) = dpt e := fun k hk => by unfold dpt; rw [hs_cons, if_neg hk]
            have e5 : List.replicate (n1 + n2) (dpt e) = List.replicate n1 (dpt e) ++ List.replicate n2 (dpt e) := List.replicate_append_replicate.symm
            rw [ed, fillW_cons h1, fillW_cons h2, e4 _ (by simp), e4 _ (by simp), show 1 + n1 + n2 = (n1 + n2) + 1 by omega, List.drop_succ_cons, List.replicate_succ, e5, List.drop_drop]
            rw [List.drop_drop, List.drop_drop, show i + 1 + (n1 + n2) = i + 1 + n1 + n2 by omega]
            simp only [List.map_append, List.map_cons, List.map_nil, List.append_assoc, List.cons_append, List.nil_append]
          · rw [scn_var (by omega)] at hn
            cases hn
            have ed : dueW i e st c = st := by unfold dueW; rw [if_neg hz, if_neg (by omega)]
            rw [ed]
            simp
    · rintro δ ⟨made, st, s3, s4, s5, rfl, hm, hd, hj⟩
      unfold w__law_depths_4
      sleep 90000
      rw [enumD_len, List.length_map] at hm hd hj ⊢
      rw [List.drop_length] at hd hj ⊢
      rw [ways_nil, List.append_nil] at hd
      have hst : st = [] := List.eq_nil_of_length_eq_zero (by simpa [jI] using hj)
      subst hst
      simp only [post__law_depths, unI_tI, dep_wy, hd, fillW, List.append_nil]
  · exact hp.elim
end Dl
namespace Dl
open PySem L2 Km
theorem atI_map' {ns : List Int} {i : Int} (h0 : 0 ≤ i) (h1 : i < ns.length) : ∃ z : Int, atI (ns.map D.int) i = some (.int z) := by
  have hlt : i.toNat < ns.length := by omega
  exact ⟨_, atI_map (j := i.toNat) (by omega) hlt⟩
theorem cpow_a : CPowW 10 60 := ⟨by decide, by decide +kernel⟩
theorem cpow_b : CPowW 10 18 := ⟨by decide, by decide +kernel⟩
theorem cpow_c : CPowW ((10 : Int) ^ (60 : Int).toNat) 10 := ⟨by decide, by decide +kernel⟩
theorem cdiv_w : CDivW i ((10 : Int) ^ (18 : Int).toNat) := ⟨by decide +kernel, by decide +kernel⟩
theorem pos_w : (0 : Int) < ((10 : Int) ^ (60 : Int).toNat) ^ (10 : Int).toNat := by decide +kernel
theorem goal__law_dice : Goal w__law_dice ["script", "at", "cell", "great", "left", "mixed"] 2 pre__law_dice post__law_dice := by
  intro xs hl hp
  unfold pre__law_dice at hp
  split at hp
  · rename_i ds k
    obtain ⟨ns, rfl, hn, h0, h1⟩ := hp
    have rest : ∀ z : Int, w__law_dice_5 { nx := fun _ => post__law_dice [.val (.frl (ns.map .int)), .val (.int k)] (.c .non), rt := fun _ => post__law_dice [.val (.frl (ns.map .int)), .val (.int k)] }
        [.val (.frl (ns.map .int)), .val (.int k), .val (.int z), .no, .no, .no] := by
      intro z
      unfold w__law_dice_5
      sleep 90003
      refine ⟨cpow_a, cpow_c, pos_w, ?_⟩
      have hG : 0 ≤ (if z < 0 then -z else z) % ((10 : Int) ^ (60 : Int).toNat) ^ (10 : Int).toNat := Int.emod_nonneg _ (Int.ne_of_gt pos_w)
      generalize (if z < 0 then -z else z) % ((10 : Int) ^ (60 : Int).toNat) ^ (10 : Int).toNat = G at hG ⊢
      unfold w__law_dice_3
      sleep 90003
      refine ⟨cpow_b, cdiv_w, ?_⟩
      have hL : 0 ≤ G / (10 : Int) ^ (18 : Int).toNat := Int.ediv_nonneg hG (Int.le_of_lt (cdiv_w (i := 0)).1)
      generalize G / (10 : Int) ^ (18 : Int).toNat = L at hL ⊢
      unfold w__law_dice_2
      sleep 90003
      have g1 := Int.emod_nonneg G (show (2147482577 : Int) ≠ 0 by decide)
      have g2 := Int.emod_lt_of_pos G (show (0 : Int) < 2147482577 by decide)
      (repeat (refine And.intro ?_ ?_; · (first | rfl | decide | omega | (simp; done) | (simp; omega))))
      unfold w__law_dice_1
      sleep 90003
      (repeat (refine And.intro ?_ ?_; · (first | rfl | decide | omega | (simp; done) | (simp; omega))))
      exact ⟨_, _, _, hL, rfl⟩
    unfold w__law_dice
    simp only [List.length_cons, List.length_nil]
    sleep 90003
    refine ⟨by decide, ?_⟩
    unfold w__law_dice_6 w__law_dice_4
    sleep 90003
    by_cases hk : k < ((ns.map D.int).length : Int)
    · rw [if_pos hk]
      obtain ⟨z, hz⟩ := atI_map' h0 (by simpa using hk)
      simp only [hz]
      (try sleep 90003)
      exact ⟨by decide, rest z⟩
    · rw [if_neg hk]
      exact ⟨by decide, rest _⟩
  · exact hp.elim
end Dl
/-! lists of one's own that are handed on: they change no more -/
namespace Dl
open PySem PySem.Spec PyProof.Rows L2
section
variable {K : PySem.W.Frag} {J : JT} {B0 H0 B H B1 H1 Hs : Hp} {σ : L2.St} {δ : List S}
/-- a list that no slot owns is known from now on -/
theorem Env.know {a : Addr} {ds : List D} {ys : List V} (e : Env K J B0 H0 B1 H1 σ δ) (hs : ∀ b, H0 b ≠ none → Hs b ≠ none) (old : ∀ (k : Nat) es b, δ[k]? = some (.own es) → σ[k]? = some (some (.ref b)) → Hs b ≠ none)
    (n : Hs a = none) (nB : B1 a = none) (hH : H1 a = some (.lst ys)) (r : Reps K B1 ds ys) : Env K J B0 H0 (upd B1 a (.lst ys)) H1 σ δ := by
  have sm : Same B1 (upd B1 a (.lst ys)) := upd_same_of nB
  have n0 : H0 a = none := Classical.byContradiction fun z => hs a z n
  have nj : J.a ≠ some a := fun z => e.jn a z n0
  refine ⟨⟨e.gr.bb.trans sm, fun b o eb => ?_, e.gr.kp, e.gr.ne, fun b eb => ?_⟩, ⟨fun b z => ?_, e.ow.tb, e.ow.nt_upd⟩, e.jl, e.ln, fun j s h => ?_, e.ap⟩
  · by_cases hb : b = a
    · subst hb; rw [upd_same] at eb; cases eb; exact hH
    · rw [upd_ne hb] at eb; exact e.gr.bh b o eb
  · rw [upd_ne (fun z => by rw [z] at eb; exact eb n0)]; exact e.gr.fr b eb
  · obtain ⟨h1, l, m, c, h0, h2⟩ := e.ow.dc b z
    exact ⟨by rw [upd_ne (fun q => nj (by rw [z, q]))]; exact h1, l, m, c, h0, h2⟩
  · have q := e.sl j s h
    cases s with
    | no => trivial
    | val d => obtain ⟨v, q1, q2⟩ := q; exact ⟨v, q1, q2.mono sm⟩
    | dice => exact q
    | own es =>
      obtain ⟨a2, zs, q1, q2, q3, q4, q5⟩ := q
      have hj : σ[j]? = some (some (.ref a2)) := by
        obtain ⟨o, ho, _⟩ := e.slot h
        rw [ho] at q1 ⊢
        simp at q1; rw [q1]
      have na : a2 ≠ a := fun z => old j es a2 h hj (by rw [z]; exact n)
      exact ⟨a2, zs, q1, q2, by rw [upd_ne na]; exact q3, q4, q5.mono sm⟩
    | ownd ks es =>
      obtain ⟨a2, zs, q1, q2, q3, q4, ql, q5⟩ := q
      have na : a2 ≠ a := fun z => by rw [z, hH] at q4; cases q4
      exact ⟨a2, zs, q1, q2, by rw [upd_ne na]; exact q3, q4, ql, q5.mono sm⟩
    | lent es =>
      obtain ⟨a2, zs, q1, q2, q3, q4, q5⟩ := q
      have na : a2 ≠ a := fun z => by rw [z, n0] at q3; cases q3
      exact ⟨a2, zs, q1, q2, q3, by rw [upd_ne na]; exact q4, q5.mono sm⟩
/-- values at hand: known, new, or in a slot -/
def RepZ (K : PySem.W.Frag) (Hs B H : Hp) (σ : L2.St) : List DV → List V → Prop
  | [], vs => vs = []
  | x :: xs, vs => ∃ v r, vs = v :: r ∧ (match x with
    | .c d => Rep K B d v
    | .f ds => ∃ a ys, v = .ref a ∧ Hs a = none ∧ B a = none ∧ H a = some (.lst ys) ∧ Reps K B ds ys
    | .o i => σ[i]? = some (some v)
    | .j => False) ∧ RepZ K Hs B H σ xs r ∧ ∀ ds, x = .f ds → ∀ (j : Nat) es, xs[j]? = some (.f es) → r[j]? ≠ some v
/-- kept, slots and all -/
def frzs : List S → List DV → Option (List S × List D)
  | δ, [] => some (δ, [])
  | δ, .c d :: xs => (frzs δ xs).map fun p => (p.1, d :: p.2)
  | δ, .f ds :: xs => (frzs δ xs).map fun p => (p.1, .lst ds :: p.2)
  | δ, .o i :: xs => match δ[i]? with
    | some (.own ds) => (frzs (δ.set i (.val (.lst ds))) xs).map fun p => (p.1, .lst ds :: p.2)
    | some (.val d) => (frzs δ xs).map fun p => (p.1, d :: p.2)
    | _ => none
  | _, .j :: _ => none
/-- more is known: what is new stays new but at a -/
theorem RepZ.more {B' : Hp} {a : Addr} (sm : Same B B') (same : ∀ b, b ≠ a → B' b = B b) : ∀ {xs : List DV} {vs : List V}, (∀ (j : Nat) ds, xs[j]? = some (.f ds) → vs[j]? ≠ some (.ref a)) → RepZ K Hs B H σ xs vs → RepZ K Hs B' H σ xs vs
  | [], vs, _, h => h
  | x :: xs, vs, ne, h => by
    obtain ⟨v, r, rfl, h1, h2, h3⟩ := h
    refine ⟨v, r, rfl, ?_, RepZ.more sm same (fun j ds hj => by simpa using ne (j + 1) ds (by simpa using hj)) h2, h3⟩
    cases x with
    | c d => exact Rep.mono sm h1
    | f ds =>
      obtain ⟨b, ys, rfl, n, nB, hH, r⟩ := h1
      have nb : b ≠ a := fun z => ne 0 ds rfl (by rw [z]; rfl)
      exact ⟨b, ys, rfl, n, by rw [same b nb]; exact nB, hH, r.mono sm⟩
    | o i => exact h1
    | j => exact h1
theorem freeze_all (hs : ∀ b, H0 b ≠ none → Hs b ≠ none) : ∀ {xs : List DV} {vs : List V} {ds : List D} {δ δ' : List S} {B1 : Hp}, Env K J B0 H0 B1 H1 σ δ → (∀ (k : Nat) es b, δ[k]? = some (.own es) → σ[k]? = some (some (.ref b)) → Hs b ≠ none) →
    RepZ K Hs B1 H1 σ xs vs → frzs δ xs = some (δ', ds) → ∃ B2, Env K J B0 H0 B2 H1 σ δ' ∧ Same B1 B2 ∧ Reps K B2 ds vs
  | [], vs, ds, δ, δ', B1, e, _, r, h => by
    cases (show vs = [] from r)
    simp [frzs] at h
    obtain ⟨rfl, rfl⟩ := h
    exact ⟨B1, e, .refl _, .nil⟩
  | x :: xs, vs, ds, δ, δ', B1, e, old, r, h => by
    obtain ⟨v, r', rfl, h1, h2, h3⟩ := r
    cases x with
    | c d =>
      simp only [frzs] at h
      cases hf : frzs δ xs with
      | none => rw [hf] at h; cases h
      | some p =>
        rw [hf] at h; cases h
        obtain ⟨B2, e2, s2, r2⟩ := freeze_all hs e old h2 (ds := p.2) (δ' := p.1) (by rw [hf])
        exact ⟨B2, e2, s2, .cons (Rep.mono s2 h1) r2⟩
    | f es =>
      simp only [frzs] at h
      cases hf : frzs δ xs with
      | none => rw [hf] at h; cases h
      | some p =>
        rw [hf] at h; cases h
        obtain ⟨a, ys, rfl, n, nB, hH, rr⟩ := h1
        have e1 := e.know hs old n nB hH rr
        have sm : Same B1 (upd B1 a (.lst ys)) := upd_same_of nB
        obtain ⟨B2, e2, s2, r2⟩ := freeze_all hs e1 old (h2.more sm (fun b nb => upd_ne nb) (fun j ds' hj => h3 es rfl j ds' hj)) (ds := p.2) (δ' := p.1) (by rw [hf])
        refine ⟨B2, e2, sm.trans s2, .cons ?_ r2⟩
        rw [Rep]
        exact ⟨a, ys, rfl, s2 _ _ upd_same, (rr.mono sm).mono s2⟩
    | o i =>
      simp only [frzs] at h
      cases hd : δ[i]? with
      | none => rw [hd] at h; cases h
      | some s =>
        rw [hd] at h
        cases s with
        | own es =>
          simp only at h
          cases hf : frzs (δ.set i (.val (.lst es))) xs with
          | none => rw [hf] at h; cases h
          | some p =>
            rw [hf] at h; cases h
            obtain ⟨a, ys, q1, n0, nB, hH, rr, nj⟩ := e.ownJ hd
            have h1 : σ[i]? = some (some v) := h1
            rw [q1] at h1; cases h1
            obtain ⟨B2, e2, s2, a', q2, r2, same⟩ := e.freezeX hd
            rw [q1] at q2; cases q2
            have ha : Hs a ≠ none := old i es a hd q1
            have old2 : ∀ (k : Nat) es' b, (δ.set i (.val (.lst es)))[k]? = some (.own es') → σ[k]? = some (some (.ref b)) → Hs b ≠ none := fun k es' b hk hb => by
              rw [List.getElem?_set] at hk
              by_cases hik : i = k
              · subst hik
                have hlt : i < δ.length := (List.getElem?_eq_some_iff.mp hd).1
                simp [hlt] at hk
              · rw [if_neg hik] at hk; exact old k es' b hk hb
            have fresh : ∀ {xs : List DV} {vs : List V}, RepZ K Hs B1 H1 σ xs vs → ∀ (j : Nat) ds, xs[j]? = some (.f ds) → vs[j]? ≠ some (.ref a) := by
              intro xs
              induction xs with
              | nil => intro vs _ j ds hj; simp at hj
              | cons y ys ih =>
                intro vs rz j ds hj
                obtain ⟨u, r2, rfl, k1, k2, _⟩ := rz
                cases j with
                | zero =>
                  simp at hj; subst hj
                  obtain ⟨b, zs, rfl, n, _⟩ := k1
                  intro z
                  simp at z; subst z
                  exact ha n
                | succ j => simpa using ih k2 j ds (by simpa using hj)
            obtain ⟨B3, e3, s3, r3⟩ := freeze_all hs e2 old2 (h2.more s2 same (fresh h2)) (ds := p.2) (δ' := p.1) (by rw [hf])
            exact ⟨B3, e3, s2.trans s3, .cons (r2.mono s3) r3⟩
        | val d =>
          simp only at h
          cases hf : frzs δ xs with
          | none => rw [hf] at h; cases h
          | some p =>
            rw [hf] at h; cases h
            obtain ⟨o, q1, u, q2, q3⟩ := e.slot hd
            have h1 : σ[i]? = some (some v) := h1
            rw [q1] at h1; cases h1
            cases q2
            obtain ⟨B2, e2, s2, r2⟩ := freeze_all hs e old h2 (ds := p.2) (δ' := p.1) (by rw [hf])
            exact ⟨B2, e2, s2, .cons (q3.mono s2) r2⟩
        | no => simp only at h; cases h
        | dice => simp only at h; cases h
        | ownd ks es => simp only at h; cases h
        | lent es => simp only at h; cases h
    | j => simp [frzs] at h
end
end Dl
/-! own lists handed back in a tuple, or to a call; own dicts with int keys -/
namespace Dl
open PySem PySem.Spec PyProof.Rows L2
section
variable {K : PySem.W.Frag} {J : JT} {B0 H0 B H B1 H1 Hs : Hp} {σ : L2.St} {δ : List S}
theorem RepVs.toZ : ∀ {xs : List DV} {vs : List V}, (∀ x ∈ xs, x ≠ .j) → RepVs K J Hs B H σ δ xs vs → RepZ K Hs B H σ xs vs
  | [], _, _, h => h
  | x :: xs, vs, n, h => by
    obtain ⟨v, r, rfl, h1, h2, h3⟩ := h
    refine ⟨v, r, rfl, ?_, RepVs.toZ (fun x hx => n x (List.mem_cons_of_mem _ hx)) h2, h3⟩
    cases x with
    | c d => exact h1
    | f ds => exact h1
    | o i => exact h1.2
    | j => exact absurd rfl (n _ List.mem_cons_self)
theorem frzs_nj : ∀ {xs : List DV} {δ : List S} {p : List S × List D}, frzs δ xs = some p → ∀ x ∈ xs, x ≠ .j
  | [], _, _, _, _, hx => by simp at hx
  | x :: xs, δ, p, h, y, hy => by
    rcases List.mem_cons.mp hy with e | hm
    · subst e
      intro z; subst z
      simp [frzs] at h
    · cases x with
      | c d =>
        simp only [frzs, Option.map_eq_some_iff] at h
        obtain ⟨q, hq, _⟩ := h
        exact frzs_nj hq y hm
      | f d =>
        simp only [frzs, Option.map_eq_some_iff] at h
        obtain ⟨q, hq, _⟩ := h
        exact frzs_nj hq y hm
      | o i =>
        simp only [frzs] at h
        split at h
        · simp only [Option.map_eq_some_iff] at h
          obtain ⟨q, hq, _⟩ := h
          exact frzs_nj hq y hm
        · simp only [Option.map_eq_some_iff] at h
          obtain ⟨q, hq, _⟩ := h
          exact frzs_nj hq y hm
        · cases h
      | j => simp [frzs] at h
theorem Env.olds (e : Env K J B0 H0 B H σ δ) : ∀ (k : Nat) es b, δ[k]? = some (.own es) → σ[k]? = some (some (.ref b)) → H b ≠ none := fun k es b hk hb => by
  obtain ⟨a, xs, h1, _, _, h4, _⟩ := e.ownJ hk
  rw [hb] at h1; cases h1
  rw [h4]; simp
theorem args_val : ∀ {ds : List D} {vs : List V}, Reps K B ds vs → ArgsOk K J B (ds.map .val) vs
  | [], vs, h => by rw [Reps] at h; exact h
  | d :: ds, vs, h => by
    rw [Reps] at h; obtain ⟨x, r, rfl, h1, h2⟩ := h
    exact ⟨x, r, rfl, h1, args_val h2⟩
end
section
variable {X : Cx} {e a b c : Expr} {es : List Expr} {pos : Pos}
/-- return (a, b, ..): own lists too -/
def wRetT (wa : DA) : DS := fun R δ => wa δ fun xs => ∃ p, frzs δ xs = some p ∧ p.2.length ≤ 100000 ∧ R.rt p.1 (.c (.tup p.2))
theorem ds_retT {x1 p2} {wa : DA} (ha : Da X es wa) : Ds X (.Return (some (.Tuple es x1 p2)) pos) (wRetT wa) := by
  obtain ⟨ta, pa, va⟩ := ha.ex
  refine ⟨_, ps_ret (pe_tup pa), ?_⟩
  intro J B0 H0 B H σ δ e R h En F
  refine va e _ h _ fun xs vs B1 H1 h1 g1 w1 r1 => ?_
  obtain ⟨⟨δ2, ds⟩, hf, hl, h1⟩ := h1
  obtain ⟨B2, e2, s2, r2⟩ := freeze_all e.gr.ne (e.step g1 w1) e.olds (r1.toZ (frzs_nj hf)) hf
  refine ⟨sz5 (by rw [r2.len]; exact hl), fun p hp => ?_⟩
  refine fin_tup (k := fun z => z = .c (.tup ds)) (Q := En.rt) hp rfl e2.bh e2.ow r2 fun z v B' H' kz g w r => ?_
  subst kz
  exact F.rt h1 (e2.step g w) (r [] [])
/-- x = f(..): own lists may be among the arguments, they are no more changed -/
def wSetCallZ (i n : Nat) (pre : List S → Prop) (post : List S → DV → Prop) (wa : DA) : DS := fun R δ => wa δ fun xs => ∃ p, frzs δ xs = some p ∧ p.2.length = n ∧ pre (p.2.map .val) ∧ ∀ r, post (p.2.map .val) r → ∃ s, sv r = some s ∧ R.nx (p.1.set i s)
theorem ds_setCallZ {CX : CXT} {i : Nat} {x : Str} {pos' cpos : Pos} {k n : Nat} {f : Addr} {fd : FuncData} {ps : List Str} {pre : List S → Prop} {post : List S → DV → Prop} {y : Str} {p : Pos} {wa : DA} {E : XK} (hN : X.N.Nodup) (hi : X.N[i]? = some x) (hx : Loc X.env.scope x)
    (Fn : FnOk X.prog X.w X.K X.mg X.base CX k f fd ps (SpD X.K n pre post)) (hr : Room k X.A) (hg : Gl X y) (hm : X.mg y = some (.ref f)) (hk : PySem.W.keepIn X.K (.ref f) = true) (hb : Binds X.K fd ps []) (hp : Passes CX X E)
    (ha : Da X (e :: es) wa) (hdb : (y == ("__debug__" : Str)) = false := by decide) (he : starEach (e :: es) X.env = (false, eval e X.env) :: starEach es X.env := by rfl) (hpl : (backTo cpos (starEach es X.env)).any (·.1) = false := by rfl)
    (hs : swapsWith (.Call (.Name y p) (e :: es) [] cpos) (some (.Name x pos')) pos.line X.env = pure false := by rfl) (hf : X.fn x = true ∨ X.env.scope.names.lookup x = some .local := by first | exact .inl rfl | exact .inr rfl | assumption) :
    Ds X (.Assign [.Name x pos'] (.Call (.Name y p) (e :: es) [] cpos) pos) (wSetCallZ i n pre post wa) := by
  obtain ⟨ta, pa, va⟩ := ha.ex
  refine ⟨_, ps_set hN hi hx (pe_call Fn hr hg hm hk hb .nil hp pa hdb he hpl) hs hf, ?_⟩
  intro J B0 H0 B H σ δ e R h En F
  refine va e _ h _ fun xs vs B1 H1 h1 g1 w1 r1 => ?_
  obtain ⟨⟨δ2, ds⟩, hf, hn, hpre, h1⟩ := h1
  obtain ⟨B2, e2, s2, r2⟩ := freeze_all e.gr.ne (e.step g1 w1) e.olds (r1.toZ (frzs_nj hf)) hf
  show SpD _ _ _ _ (vs ++ []) H1 _ _
  rw [List.append_nil]
  refine ⟨J, B2, ds.map .val, by simpa using hn, args_val r2, ⟨e2.bh, e2.jl.2⟩, e2.ow, hpre, fun r v B' H' po g w rr => ?_⟩
  obtain ⟨s, hs, hnx⟩ := h1 r po
  have nj : r ≠ .j := fun z => by subst z; cases hs
  exact F.nx hnx (e2.put g w (rv_any rr nj _ _) hs i)
end
end Dl
/-! own dicts with int keys -/
namespace Dl
open PySem PySem.Spec PyProof.Rows L2
def lkD : List Int → List D → Int → Option D
  | k :: ks, d :: ds, n => if k = n then some d else lkD ks ds n
  | _, _, _ => none
/-- no dict of one's own -/
def noD : List S → Bool
  | [] => true
  | .ownd _ _ :: _ => false
  | _ :: δ => noD δ
theorem noD_at : ∀ {δ : List S} {i : Nat} {ks : List Int} {ds : List D}, noD δ = true → δ[i]? = some (.ownd ks ds) → False
  | [], _, _, _, _, h => by simp at h
  | s :: δ, 0, ks, ds, n, h => by simp at h; subst h; simp [noD] at n
  | s :: δ, i + 1, ks, ds, n, h => by
    refine noD_at (δ := δ) (i := i) ?_ (by simpa using h)
    cases s <;> simp [noD] at n <;> exact n
theorem noD_other {δ : List S} {i j : Nat} {ks : List Int} {ds : List D} (n : noD (δ.set i .no) = true) (h : δ[j]? = some (.ownd ks ds)) : i = j := by
  by_cases hij : i = j
  · exact hij
  · exact (noD_at n (i := j) (ks := ks) (ds := ds) (by rw [List.getElem?_set, if_neg hij]; exact h)).elim
theorem mkD_snoc : ∀ {ks : List Int} {xs : List V} {n : Int} {v : V}, ks.length = xs.length → mkD (ks ++ [n]) (xs ++ [v]) = mkD ks xs ++ [(Sum.inl n, v)]
  | [], [], _, _, _ => rfl
  | k :: ks, x :: xs, n, v, h => by
    show (Sum.inl k, x) :: mkD (ks ++ [n]) (xs ++ [v]) = (Sum.inl k, x) :: (mkD ks xs ++ [(Sum.inl n, v)])
    rw [mkD_snoc (by simpa using h)]
  | [], _ :: _, _, _, h => by simp at h
  | _ :: _, [], _, _, h => by simp at h
theorem valV_mkD_some : ∀ {ks : List Int} {xs : List V} {n : Int}, ks.length = xs.length → (valV (mkD ks xs) (Sum.inl n : L2.Key)).isSome = ks.contains n
  | [], [], n, _ => rfl
  | k :: ks, x :: xs, n, h => by
    show (valV ((Sum.inl k, x) :: mkD ks xs) (Sum.inl n : L2.Key)).isSome = _
    by_cases hk : k = n
    · rw [valV_pos (by rw [hk])]; simp [hk]
    · rw [valV_neg (by intro z; exact hk (Sum.inl.inj z)), valV_mkD_some (by simpa using h)]
      have : (n == k) = false := by simpa using fun z => hk z.symm
      simp only [List.contains_cons, this, Bool.false_or]
  | [], _ :: _, _, h => by simp at h
  | _ :: _, [], _, h => by simp at h
theorem valV_mkD_none {ks : List Int} {xs : List V} {n : Int} (hl : ks.length = xs.length) (h : ks.contains n = false) : valV (mkD ks xs) (Sum.inl n : L2.Key) = none := by
  have := valV_mkD_some (n := n) hl
  rw [h] at this
  cases hv : valV (mkD ks xs) (Sum.inl n : L2.Key) with
  | none => rfl
  | some v => rw [hv] at this; cases this
theorem lk_reps {K : PySem.W.Frag} {B : Hp} : ∀ {ks : List Int} {ds : List D} {xs : List V} {n : Int} {d : D}, Reps K B ds xs → lkD ks ds n = some d → ∃ v, valV (mkD ks xs) (Sum.inl n : L2.Key) = some v ∧ Rep K B d v
  | [], _, _, _, _, _, h => by simp [lkD] at h
  | _ :: _, [], _, _, _, _, h => by simp [lkD] at h
  | k :: ks, e :: ds, xs, n, d, r, h => by
    rw [Reps] at r
    obtain ⟨x, r', rfl, r1, r2⟩ := r
    rw [lkD] at h
    show ∃ v, valV ((Sum.inl k, x) :: mkD ks r') (Sum.inl n : L2.Key) = some v ∧ _
    by_cases hk : k = n
    · rw [if_pos hk] at h; cases h
      exact ⟨x, valV_pos (by rw [hk]), r1⟩
    · rw [if_neg hk] at h
      obtain ⟨v, h1, h2⟩ := lk_reps r2 h
      exact ⟨v, by rw [valV_neg (by intro z; exact hk (Sum.inl.inj z))]; exact h1, h2⟩
section
variable {K : PySem.W.Frag} {J : JT} {B0 H0 B H B1 H1 Hs : Hp} {σ : L2.St} {δ : List S} {i : Nat}
theorem Env.owndJ {ks : List Int} {ds : List D} (e : Env K J B0 H0 B H σ δ) (h : δ[i]? = some (.ownd ks ds)) : ∃ a xs, σ[i]? = some (some (.ref a)) ∧ H0 a = none ∧ B a = none ∧ H a = some (.dK (mkD ks xs)) ∧ ks.length = xs.length ∧ Reps K B ds xs ∧ J.a ≠ some a := by
  obtain ⟨o, e1, a, xs, rfl, n0, nB, hH, hl, r⟩ := e.slot h
  exact ⟨a, xs, e1, n0, nB, hH, by rw [hl, r.len], r, fun z => e.jn a z n0⟩
/-- an object that nobody knows is written -/
theorem Env.write {a : Addr} {o : HO} (e : Env K J B0 H0 B H σ δ) (hp : ∀ u, H a = some u → Pl0 u) (n0 : H0 a = none) (nB : B a = none) (nj : J.a ≠ some a) (hH : ∀ xs, H a ≠ some (.lst xs)) (no : ∀ (k : Nat) ks es, δ[k]? = some (.ownd ks es) → σ[k]? ≠ some (some (.ref a))) :
    Env K J B0 H0 B (upd H a o) σ δ := by
  have kw : KeptT J H0 (upd H a o) := by
    cases hu : H a with
    | some u => exact e.gr.kp.put n0 hu (hp u hu)
    | none => exact e.gr.kp.trans (.all fun b x eb => upd_same_of hu b x eb)
  have tw : LamX.Tabs J.T (upd H a o) := by
    cases hu : H a with
    | some u => exact tabs_put hu (hp u hu) e.ow.tb
    | none => exact e.ow.tb.ext fun b x eb => upd_same_of hu b x eb
  refine ⟨⟨e.gr.bb, fun b x eb => ?_, kw, fun b eb => ?_, e.gr.fr⟩, ⟨fun b z => ?_, tw, e.ow.nt⟩, e.jl, e.ln, fun j s' h => ?_, e.ap⟩
  · rw [upd_ne (fun z => by rw [z, nB] at eb; cases eb)]; exact e.gr.bh b x eb
  · by_cases hb : b = a
    · rw [hb, upd_same]; simp
    · rw [upd_ne hb]; exact e.gr.ne b eb
  · obtain ⟨h1, l, m, c, h0, h2⟩ := e.ow.dc b z
    exact ⟨h1, l, m, c, h0, by rw [upd_ne (fun q => nj (by rw [z, q]))]; exact h2⟩
  · have q := e.sl j s' h
    cases s' with
    | no => trivial
    | val d => exact q
    | dice => exact q
    | own es =>
      obtain ⟨a2, ys, q1, q2, q3, q4, q5⟩ := q
      have na : a2 ≠ a := fun z => hH ys (by rw [← z]; exact q4)
      exact ⟨a2, ys, q1, q2, q3, by rw [upd_ne na]; exact q4, q5⟩
    | ownd ks es =>
      obtain ⟨a2, ys, q1, q2, q3, q4, ql, q5⟩ := q
      have hj : σ[j]? = some (some (.ref a2)) := by
        obtain ⟨o, ho, _⟩ := e.slot h
        rw [ho] at q1 ⊢
        simp at q1; rw [q1]
      have na : a2 ≠ a := fun z => no j ks es h (by rw [← z]; exact hj)
      exact ⟨a2, ys, q1, q2, q3, by rw [upd_ne na]; exact q4, ql, q5⟩
    | lent es =>
      obtain ⟨a2, ys, q1, q2, q3, q4, q5⟩ := q
      exact ⟨a2, ys, q1, q2, q3, q4, q5⟩
/-- a dict of one's own is put into a slot -/
theorem Env.putD {a : Addr} {ks : List Int} {ds : List D} {xs : List V} (e : Env K J B0 H0 B H σ δ) (n0 : H0 a = none) (nB : B a = none) (hH : H a = some (.dK (mkD ks xs))) (hl : ks.length = ds.length) (r : Reps K B ds xs) (i : Nat) :
    Env K J B0 H0 B H (σ.set i (some (.ref a))) (δ.set i (.ownd ks ds)) := by
  refine ⟨e.gr, e.ow, e.jl, by simp [e.ln], fun j s' h => ?_, fun j k ds' es a2 njk h1 h2 h3 h4 => ?_⟩
  · rw [getD_set]
    rw [List.getElem?_set] at h
    by_cases hij : i = j
    · subst hij
      by_cases h2 : i < δ.length
      · simp [h2] at h
        subst h
        rw [if_pos ⟨rfl, by rw [← e.ln]; exact h2⟩]
        exact ⟨a, xs, rfl, n0, nB, hH, hl, r⟩
      · simp [h2] at h
    · rw [if_neg hij] at h
      rw [if_neg (fun z => hij z.1)]
      exact e.sl j s' h
  · have back : ∀ (j : Nat) (ds' : List D), (δ.set i (.ownd ks ds))[j]? = some (S.own ds') → i ≠ j ∧ δ[j]? = some (S.own ds') := by
      intro j ds' h
      rw [List.getElem?_set] at h
      by_cases hij : i = j
      · subst hij
        by_cases hlt : i < δ.length
        · simp [hlt] at h
        · simp [hlt] at h
      · rw [if_neg hij] at h; exact ⟨hij, h⟩
    obtain ⟨n1, h1⟩ := back j _ h1
    obtain ⟨n2, h2⟩ := back k _ h2
    rw [List.getElem?_set, if_neg n1] at h3
    rw [List.getElem?_set, if_neg n2] at h4
    exact e.ap j k _ _ a2 njk h1 h2 h3 h4
theorem set_same {α : Type} {l : List α} {i : Nat} {x : α} (h : l[i]? = some x) : l.set i x = l := by
  apply List.ext_getElem?
  intro j
  rw [List.getElem?_set]
  by_cases hij : i = j
  · subst hij
    have := (List.getElem?_eq_some_iff.mp h).1
    simp [this, h]
    exact (List.getElem?_eq_some_iff.mp h).2.symm
  · rw [if_neg hij]
/-- a dict of one's own changes -/
theorem Env.changeD {a : Addr} {ks ks' : List Int} {ds ds' : List D} {xs' : List V} (e : Env K J B0 H0 B H σ δ) (hd : δ[i]? = some (.ownd ks ds)) (hs : σ[i]? = some (some (.ref a))) (hn : noD (δ.set i .no) = true) (hl : ks'.length = ds'.length) (r : Reps K B ds' xs') :
    Env K J B0 H0 B (upd H a (.dK (mkD ks' xs'))) σ (δ.set i (.ownd ks' ds')) := by
  obtain ⟨a', xs, q1, n0, nB, q4, _, q5, nj⟩ := e.owndJ hd
  rw [hs] at q1; cases q1
  refine ⟨⟨e.gr.bb, fun b x eb => ?_, e.gr.kp.put n0 q4 pl0_dK, fun b eb => ?_, e.gr.fr⟩, ⟨fun b z => ?_, tabs_put q4 pl0_dK e.ow.tb, e.ow.nt⟩, e.jl, by simp [e.ln], fun j s' h => ?_, fun j k ds'' es a2 njk h1 h2 h3 h4 => ?_⟩
  · rw [upd_ne (fun z => by rw [z, nB] at eb; cases eb)]; exact e.gr.bh b x eb
  · by_cases hb : b = a
    · rw [hb, upd_same]; simp
    · rw [upd_ne hb]; exact e.gr.ne b eb
  · obtain ⟨h1, l, m, c, h0, h2⟩ := e.ow.dc b z
    exact ⟨h1, l, m, c, h0, by rw [upd_ne (fun q => nj (by rw [z, q]))]; exact h2⟩
  · rw [List.getElem?_set] at h
    by_cases hij : i = j
    · subst hij
      have hlt : i < δ.length := (List.getElem?_eq_some_iff.mp hd).1
      simp [hlt] at h
      subst h
      rw [hs]
      exact ⟨a, xs', rfl, n0, nB, upd_same, hl, r⟩
    · rw [if_neg hij] at h
      have q := e.sl j s' h
      cases s' with
      | no => trivial
      | val d => exact q
      | dice => exact q
      | own es =>
        obtain ⟨a2, ys, q1, q2, q3, p4, q5⟩ := q
        have na : a2 ≠ a := fun z => by rw [z, q4] at p4; cases p4
        exact ⟨a2, ys, q1, q2, q3, by rw [upd_ne na]; exact p4, q5⟩
      | ownd ks es => exact absurd (noD_other hn h) hij
      | lent es =>
        obtain ⟨a2, ys, q1, q2, q3, q4, q5⟩ := q
        exact ⟨a2, ys, q1, q2, q3, q4, q5⟩
  · have back : ∀ (j : Nat) (ds'' : List D), (δ.set i (.ownd ks' ds'))[j]? = some (S.own ds'') → δ[j]? = some (S.own ds'') := by
      intro j ds'' h
      rw [List.getElem?_set] at h
      by_cases hij : i = j
      · subst hij
        by_cases hlt : i < δ.length
        · simp [hlt] at h
        · simp [hlt] at h
      · rw [if_neg hij] at h; exact h
    exact e.ap j k _ _ a2 njk (back j _ h1) (back k _ h2) h3 h4
/-- a dict of one's own is no more changed -/
theorem Env.freezeD {ks : List Int} {ds : List D} (e : Env K J B0 H0 B H σ δ) (hd : δ[i]? = some (.ownd ks ds)) (hn : noD (δ.set i .no) = true) :
    ∃ B2, Env K J B0 H0 B2 H σ (δ.set i (.val (.dct ks ds))) ∧ Same B B2 ∧ ∃ a, σ[i]? = some (some (.ref a)) ∧ Rep K B2 (.dct ks ds) (.ref a) ∧ ∀ b, b ≠ a → B2 b = B b := by
  obtain ⟨a, xs, hs, n0, nB, hH, hl, r, nj⟩ := e.owndJ hd
  have sm : Same B (upd B a (.dK (mkD ks xs))) := upd_same_of nB
  have rp : Rep K (upd B a (.dK (mkD ks xs))) (.dct ks ds) (.ref a) := by rw [Rep]; exact ⟨a, xs, rfl, upd_same, by rw [hl, r.len], r.mono sm⟩
  refine ⟨_, ⟨⟨e.gr.bb.trans sm, fun b o eb => ?_, e.gr.kp, e.gr.ne, fun b eb => ?_⟩, ⟨fun b z => ?_, e.ow.tb, e.ow.nt_upd⟩, e.jl, by simp [e.ln], fun j s' h => ?_, fun j k ds' es a2 njk h1 h2 h3 h4 => ?_⟩, sm, a, hs, rp, fun b nb => upd_ne nb⟩
  · by_cases hb : b = a
    · subst hb; rw [upd_same] at eb; cases eb; exact hH
    · rw [upd_ne hb] at eb; exact e.gr.bh b o eb
  · rw [upd_ne (fun z => by rw [z] at eb; exact eb n0)]; exact e.gr.fr b eb
  · obtain ⟨h1, l, m, c, h0, h2⟩ := e.ow.dc b z
    exact ⟨by rw [upd_ne (fun q => nj (by rw [z, q]))]; exact h1, l, m, c, h0, h2⟩
  · rw [List.getElem?_set] at h
    by_cases hij : i = j
    · subst hij
      have hlt : i < δ.length := (List.getElem?_eq_some_iff.mp hd).1
      simp [hlt] at h
      subst h
      rw [hs]
      exact ⟨_, rfl, rp⟩
    · rw [if_neg hij] at h
      have q := e.sl j s' h
      cases s' with
      | no => trivial
      | val d => obtain ⟨v, q1, q2⟩ := q; exact ⟨v, q1, q2.mono sm⟩
      | dice => exact q
      | own es =>
        obtain ⟨a2, ys, q1, q2, q3, q4, q5⟩ := q
        have na : a2 ≠ a := fun z => by rw [z, hH] at q4; cases q4
        exact ⟨a2, ys, q1, q2, by rw [upd_ne na]; exact q3, q4, q5.mono sm⟩
      | ownd ks es => exact absurd (noD_other hn h) hij
      | lent es =>
        obtain ⟨a2, ys, q1, q2, q3, q4, q5⟩ := q
        have na : a2 ≠ a := fun z => by rw [z, n0] at q3; cases q3
        exact ⟨a2, ys, q1, q2, q3, by rw [upd_ne na]; exact q4, q5.mono sm⟩
  · have back : ∀ (j : Nat) (ds' : List D), (δ.set i (.val (.dct ks ds)))[j]? = some (S.own ds') → δ[j]? = some (S.own ds') := by
      intro j ds' h
      rw [List.getElem?_set] at h
      by_cases hij : i = j
      · subst hij
        by_cases hlt : i < δ.length
        · simp [hlt] at h
        · simp [hlt] at h
      · rw [if_neg hij] at h; exact h
    exact e.ap j k _ _ a2 njk (back j _ h1) (back k _ h2) h3 h4
end
section
variable {X : Cx} {e a b c : Expr} {es : List Expr} {pos : Pos}
/-- x = {k: e} -/
def wDict1 (i : Nat) (wk wv : DE) : DS := fun R δ => wk δ fun y => wv δ fun z => ∃ n d, y = .c (.int n) ∧ cl z = some d ∧ noD δ = true ∧ R.nx (δ.set i (.ownd [n] [d]))
theorem ds_dict1 {i : Nat} {x : Str} {pos' p2 : Pos} {kx vx : Expr} {wk wv : DE} (hN : X.N.Nodup) (hi : X.N[i]? = some x) (hx : Loc X.env.scope x) (hk : De X kx wk) (hv : De X vx wv)
    (hs : swapsWith (.Dict [some kx] [vx] p2) (some (.Name x pos')) pos.line X.env = pure false := by rfl) (hf : X.fn x = true ∨ X.env.scope.names.lookup x = some .local := by first | exact .inl rfl | exact .inr rfl | assumption) :
    Ds X (.Assign [.Name x pos'] (.Dict [some kx] [vx] p2) pos) (wDict1 i wk wv) := by
  obtain ⟨tk, pk, vk⟩ := hk.ex
  obtain ⟨tv, pv, vv⟩ := hv.ex
  refine ⟨_, ps_set hN hi hx (pe_disp (pps_cons pk pv pps_nil) rfl rfl (by simp) (by simp)) hs hf, ?_⟩
  intro J B0 H0 B H σ δ e R h En F
  intro p hp
  have nj : J.a ≠ some p := fun z => e.nod p z hp
  have n0 : H0 p = none := Classical.byContradiction fun z => e.gr.ne p z hp
  have nB : B p = none := e.bh.free hp
  have g0 : Grow J B H B (upd H p (.dK [])) := .fresh e.bh hp
  have e0 := e.step g0 (e.ow.fresh hp)
  have hp0 : (upd H p (.dK [])) p ≠ none := by rw [upd_same]; simp
  refine vk e0 _ h _ fun y u B1 H1 h1 g1 w1 r1 => ?_
  have e1 := e0.step g1 w1
  refine vv e1 _ h1 _ fun z v B2 H2 h2 g2 w2 r2 => ?_
  obtain ⟨n, d, rfl, hc, hn, h2⟩ := h2
  have r1 : Rep X.K B1 (.int n) u := r1
  rw [Rep] at r1; subst r1
  obtain ⟨B3, g3, w3, s3, r3, _⟩ := (r2.back g1.ne).keep e0.nod (g1.trans g2) w2 hc
  have e3 := e0.step g3 w3
  have hH2 : H2 p = some (.dK []) := g3.hh p _ nj upd_same
  have nB3 : B3 p = none := by rw [g3.fr p hp0]; exact nB
  refine ⟨hH2, [(.inl n, v)], rfl, by simp, ?_⟩
  have e4 := e3.write (o := .dK (mkD [n] [v])) (fun u hu => by rw [hH2] at hu; cases hu; exact pl0_dK) n0 nB3 nj (fun xs z => by rw [hH2] at z; cases z) (fun k ks es hk _ => noD_at hn hk)
  exact F.nx h2 (e4.putD n0 nB3 upd_same rfl (.cons r3 .nil) i)
/-- k not in x -/
def wNotD (i : Nat) (wk : DE) : DT := fun δ k => wk δ fun y => ∃ n ks ds, y = .c (.int n) ∧ δ[i]? = some (.ownd ks ds) ∧ k (!(ks.contains n))
theorem dt_notD {i : Nat} {x : Str} {px : Pos} {kx : Expr} {wk : DE} (hu : X.A.units + 64 < cLine) (hN : X.N[i]? = some x) (hv : Vis X.env.scope x) (hk : De X kx wk)
    (hd : (x == ("__debug__" : Str)) = false := by decide) (hcd : (x == ("__classdict__" : Str)) = false := by decide) (hm : behindInMarks .NotIn (.Name x px) = false := by with_unfolding_all rfl) :
    Dt X (.Compare kx [.NotIn] [.Name x px] pos) (wNotD i wk) := by
  obtain ⟨tk, pk, vk⟩ := hk.ex
  refine ⟨_, pt_cmp (pc_dnotin (by omega) pk (pv i hN hv hd hcd)) hm, ?_⟩
  intro J B0 H0 B H σ δ e k h Q q
  refine vk e _ h _ fun y u B1 H1 h1 g1 w1 r1 => ?_
  obtain ⟨n, ks, ds, rfl, hd, h1⟩ := h1
  have r1 : Rep X.K B1 (.int n) u := r1
  rw [Rep] at r1; subst r1
  obtain ⟨a, xs, hs, n0, nB, hH, hl, r, nj⟩ := (e.step g1 w1).owndJ hd
  refine ⟨_, hs, a, _, rfl, DGet.k (k := .inl n) hH, _, rfl, ?_⟩
  rw [valV_mkD_some hl]
  exact q _ B1 H1 h1 g1 w1
/-- x[k] = e, k being new -/
def wPutD (i : Nat) (wv wk : DE) : DS := fun R δ => ∃ ks ds, δ[i]? = some (.ownd ks ds) ∧ wv δ fun z => wk δ fun y => ∃ n δ' d, y = .c (.int n) ∧ frzs δ [z] = some (δ', [d]) ∧ δ'[i]? = some (.ownd ks ds) ∧ noD (δ'.set i .no) = true ∧ ks.contains n = false ∧ ks.length ≤ 1000 ∧ R.nx (δ'.set i (.ownd (ks ++ [n]) (ds ++ [d])))
theorem ds_putD {i : Nat} {x : Str} {px pt : Pos} {kx vx : Expr} {wv wk : DE} (hu : X.A.units + 64 < cLine) (hN : X.N[i]? = some x) (hv : Vis X.env.scope x) (ha : De X vx wv) (hk : De X kx wk)
    (hd : (x == ("__debug__" : Str)) = false := by decide) (hcd : (x == ("__classdict__" : Str)) = false := by decide)
    (hs : swapsWith vx (some (.Subscript (.Name x px) kx pt)) pos.line X.env = pure false := by rfl) :
    Ds X (.Assign [.Subscript (.Name x px) kx pt] vx pos) (wPutD i wv wk) := by
  obtain ⟨tv, pv', vv⟩ := ha.ex
  obtain ⟨tk, pk, vk⟩ := hk.ex
  refine ⟨_, ps_dput (by omega) (pv i hN hv hd hcd) pk pv' hs, ?_⟩
  intro J B0 H0 B H σ δ e R h En F
  obtain ⟨ks, ds, hd0, h⟩ := h
  obtain ⟨a0, _, hx, _⟩ := e.owndJ hd0
  refine vv e _ h _ fun z v B1 H1 h1 g1 w1 r1 => ?_
  have e1 := e.step g1 w1
  refine ⟨_, hx, ?_⟩
  refine vk e1 _ h1 _ fun y u B2 H2 h2 g2 w2 r2 => ?_
  obtain ⟨n, δ', d, rfl, hf, hd', hn, hc, hlen, h2⟩ := h2
  have r2 : Rep X.K B2 (.int n) u := r2
  rw [Rep] at r2; subst r2
  obtain ⟨B3, e3, s3, r3⟩ := freeze_all e.gr.ne (e1.step g2 w2) e.olds (RepVs.toZ (xs := [z]) (vs := [v]) (frzs_nj hf) ⟨v, [], rfl, r1.step e.nod g2, rfl, fun _ _ j es hj => by simp at hj⟩) hf
  obtain ⟨a, xs, hs, n0, nB, hH, hl, r, nj⟩ := e3.owndJ hd'
  rw [hx] at hs; cases hs
  rw [Reps] at r3
  obtain ⟨v', _, hv', r3, r4⟩ := r3
  cases hv'
  refine ⟨_, _, rfl, DPut.k (k := .inl n) hH ?_, ?_⟩
  · unfold mkD
    rw [List.length_zipWith, ← hl, Nat.min_self]
    exact Nat.lt_of_le_of_lt hlen (by decide)
  · rw [putK_new _ (valV_mkD_none hl hc), ← mkD_snoc hl]
    exact F.nx h2 (e3.changeD hd' hx hn (by have := r.len; simp; omega) (r.append (.cons r3 .nil)))
/-- return x -/
def wRetD (i : Nat) : DS := fun R δ => ∃ ks ds, δ[i]? = some (.ownd ks ds) ∧ noD (δ.set i .no) = true ∧ R.rt (δ.set i (.val (.dct ks ds))) (.c (.dct ks ds))
theorem ds_retD {i : Nat} {x : Str} {px : Pos} (hN : X.N[i]? = some x) (hv : Vis X.env.scope x) (hd : (x == ("__debug__" : Str)) = false := by decide) (hcd : (x == ("__classdict__" : Str)) = false := by decide) :
    Ds X (.Return (some (.Name x px)) pos) (wRetD i) := by
  refine ⟨_, ps_ret (pv i hN hv hd hcd), ?_⟩
  intro J B0 H0 B H σ δ e R h En F
  obtain ⟨ks, ds, hd, hn, h⟩ := h
  obtain ⟨B2, e2, s2, a, hs, r, _⟩ := e.freezeD hd hn
  exact ⟨_, hs, F.rt h e2 r⟩
/-- x[k], x a known dict -/
def wIxDct (wa wb : DE) : DE := fun δ k => wa δ fun x => wb δ fun y => ∃ ks ds n d, x = .c (.dct ks ds) ∧ y = .c (.int n) ∧ lkD ks ds n = some d ∧ k (.c d)
theorem de_ixDct {wa wb : DE} (hu : X.A.units + 64 < cLine) (ha : De X a wa) (hb : De X b wb) (hs : NoSl b := by exact fun _ _ => rfl) : De X (.Subscript a b pos) (wIxDct wa wb) := by
  obtain ⟨ta, pa, va⟩ := ha.ex
  obtain ⟨tb, pb, vb⟩ := hb.ex
  refine ⟨_, pe_dget (by omega) pa pb hs, ?_⟩
  intro J B0 H0 B H σ δ e k h Q q
  refine va e _ h _ fun x v B1 H1 h1 g1 w1 r1 => ?_
  have e1 := e.step g1 w1
  refine vb e1 _ h1 _ fun y u B2 H2 h2 g2 w2 r2 => ?_
  obtain ⟨ks, ds, n, d, rfl, rfl, hl, h2⟩ := h2
  have r2 : Rep X.K B2 (.int n) u := r2
  rw [Rep] at r2; subst r2
  have r1 : Rep X.K B1 (.dct ks ds) v := r1
  have r1 := r1.mono g2.bb
  rw [Rep] at r1
  obtain ⟨a, xs, rfl, hB, hlen, rr⟩ := r1
  obtain ⟨w, hw, rw'⟩ := lk_reps rr hl
  exact ⟨a, w, rfl, hw ▸ DGet.k (k := .inl n) (g2.bh _ _ hB), q (.c d) w B2 H2 h2 (g1.trans g2) w2 rw'⟩
end
end Dl
/-! x[k] += e, x a list of one's own -/
namespace Dl
open PySem PySem.Spec PyProof.Rows L2
section
variable {X : Cx} {e a b c : Expr} {es : List Expr} {pos : Pos}
def rGetL : V → V → Hp → VK → Prop := fun o i H Q => ∃ p xs k z, o = .ref p ∧ i = .int k ∧ H p = some (.lst xs) ∧ atI xs k = some z ∧ Q z H
theorem get_list : PGet X rGetL := by
  intro pins s σ H o i ov iv Q I ro ri h
  obtain ⟨p, xs, k, z, rfl, rfl, hp, he, q⟩ := h
  cases ro
  obtain ⟨t, rfl⟩ := ri
  obtain ⟨its, r, pl, hz⟩ := I.list (SqL.of hp)
  obtain ⟨j, h1, h2, h3, h4, h5⟩ := atI_get he
  obtain ⟨w, ew, rw'⟩ := r.get h2
  have hl := r.length
  have hn := line63
  have fin : EP X pins σ Q w s := ⟨z, H, I, rw', q⟩
  by_cases h0 : 0 ≤ k
  · have hj : k.toNat = j := by
      rw [seqIndex_of h0 h5] at h1
      exact Option.some.inj h1
    exact wpAny_getItem_list pl.isList h0 (by omega) (by rw [hj]; simpa using ew) fin
  · have hj : (k + (its.toArray.size : Int)).toNat = j := by
      rw [seqIndex_neg (by omega) h4] at h1
      rw [List.size_toArray, ← hl]
      exact Option.some.inj h1
    exact wpAny_getItem_list_neg pl.isList (by omega) (by rw [List.size_toArray] <;> omega) (by omega) (by rw [hj]; simpa using ew) fin
/-- x[k] op= e, x a list of one's own, ints -/
def wAugL (i : Nat) (g : Int → Int → Int) (wk wa : DE) : DS := fun R δ => ∃ ds, δ[i]? = some (.own ds) ∧ wk δ fun y => ∃ n j o, y = .c (.int n) ∧ ixN ds.length n = some j ∧ ds[j]? = some (.int o) ∧ wa δ fun z => ∃ m, z = .c (.int m) ∧ R.nx (δ.set i (.own (ds.set j (.int (g o m)))))
theorem ds_augL {i : Nat} {x : Str} {px pt : Pos} {op : Operator} {g : Int → Int → Int} {wk wa : DE} (hN : X.N[i]? = some x) (hv : Vis X.env.scope x) (hp : PIp X op (ipI g)) (hk : De X b wk) (ha : De X a wa)
    (hd : (x == ("__debug__" : Str)) = false := by decide) (hcd : (x == ("__classdict__" : Str)) = false := by decide)
    (hg : ∀ ov iv new, augStore b ov iv new = (do holding [new, ov, iv] (setItem ov iv new); release [new, ov, iv] []; pure .next) := by intros; rfl) : Ds X (.AugAssign (.Subscript (.Name x px) b pt) op a pos) (wAugL i g wk wa) := by
  obtain ⟨ta, pa, va⟩ := ha.ex
  obtain ⟨tk, pk, vk⟩ := hk.ex
  refine ⟨_, ps_augS (pv i hN hv hd hcd) pk get_list pa hp set_list hg, ?_⟩
  intro J B0 H0 B H σ δ e R h En F
  obtain ⟨ds, hd0, h⟩ := h
  obtain ⟨a, xs, hs, n0, nB, hH, r, nj⟩ := e.ownJ hd0
  refine ⟨_, hs, ?_⟩
  refine vk e _ h _ fun y u B1 H1 h1 g1 w1 r1 => ?_
  have e1 := e.step g1 w1
  obtain ⟨n, j, o, rfl, hj, ho, h1⟩ := h1
  have r1 : Rep X.K B1 (.int n) u := r1
  rw [Rep] at r1; subst r1
  have hH1 : H1 a = some (.lst xs) := g1.hh a _ nj hH
  have r' : Reps X.K B1 ds xs := r.mono g1.bb
  obtain ⟨v, hv, rv⟩ := r'.get ho
  rw [Rep] at rv; subst rv
  refine ⟨a, xs, n, _, rfl, rfl, hH1, by unfold atI; rw [r.len, hj]; exact hv, ?_⟩
  refine va e1 _ h1 _ fun z t B2 H2 h2 g2 w2 r2 => ?_
  obtain ⟨m, rfl, h2⟩ := h2
  have r2 : Rep X.K B2 (.int m) t := r2
  rw [Rep] at r2; subst r2
  have hH2 : H2 a = some (.lst xs) := g2.hh a _ nj hH1
  refine ⟨o, m, rfl, rfl, a, xs, n, j, rfl, rfl, hH2, by rw [r.len]; exact hj, ?_⟩
  exact F.nx h2 ((e1.step g2 w2).change hd0 hs hH2 ((r'.mono g2.bb).set j (by rw [Rep])))
end
end Dl
/-! comprehensions over enumerate(zip(a, b)) -/
namespace Dl
open PySem PySem.Spec PyProof.Rows L2
section
variable {X : Cx} {e a b c tg iter elt : Expr} {es ifs : List Expr} {pos p : Pos} {st : Stmt} {rest body : List Stmt}
def wcEzip (wa : DA) : DIC := fun δ k => wa δ fun xs => ∃ d d2 ds es, rds δ xs = some [d, d2] ∧ itemsD d = some ds ∧ itemsD d2 = some es ∧ k (enumD (zipD ds es))
theorem dic_ezip {wa : DA} {elts : List Expr} {kk : Nat} {tpos p2 pos2 : Pos} (hg : Gl X "enumerate") (hm : X.mg "enumerate" = none) (hg2 : Gl X "zip") (hm2 : X.mg "zip" = none) (ha : Da X [a, b] wa)
    (hs : starEach [a, b] X.env = (false, eval a X.env) :: starEach [b] X.env := by rfl) (hpl : (backTo pos2 (starEach [b] X.env)).any (·.1) = false := by rfl)
    (nc : starEach [.Call (.Name "zip" p2) [a, b] [] pos2] X.env = (false, eval (.Call (.Name "zip" p2) [a, b] [] pos2) X.env) :: starEach [] X.env := by rfl) :
    Dic X (.Tuple elts kk tpos) (.Call (.Name "enumerate" p) [.Call (.Name "zip" p2) [a, b] [] pos2] [] pos) (wcEzip wa) := by
  obtain ⟨ta, pa, va⟩ := ha.ex
  refine ⟨_, pi_ezipB hg hm hg2 hm2 pa hs hpl nc, ?_⟩
  intro J B0 H0 B H σ δ e k h R q
  refine va e _ h _ fun xs vs B1 H1 h1 g1 w1 r1 => ?_
  obtain ⟨d, d2, ds, es, hr, hi, hi2, h1⟩ := h1
  have e1 := e.step g1 w1
  obtain ⟨v, v2, rfl, t1, t2⟩ := ts2 (r1.toT e1 e.nod hr)
  obtain ⟨a, t, rfl, hs⟩ := t1.items e1.bh hi
  obtain ⟨b, u2, rfl, hs2⟩ := t2.items e1.bh hi2
  obtain ⟨xs, hq, _⟩ := hs.at e1.bh
  obtain ⟨ys, hq2, _⟩ := hs2.at e1.bh
  refine ⟨a, b, t, u2, xs, ys, rfl, hq, hq2, q _ _ B1 H1 h1 g1 w1 fun B' H' g w i => ?_⟩
  obtain ⟨xs, hq, r⟩ := (hs.step g).at g.bh
  obtain ⟨ys, hq2, r2⟩ := (hs2.step g).at g.bh
  exact itezB_at g.bh w hq r hq2 r2 i
end
section
/-- the greatest of a list of ints -/
def cMaxL : RcD := fun ds k => match ds with
  | [.lst xs] => ∃ ns : List Int, xs = ns.map .int ∧ ns ≠ [] ∧ ∀ m, m ∈ ns → (∀ y ∈ ns, y ≤ m) → k (.c (.int m))
  | _ => False
theorem dc_maxL {K : PySem.W.Frag} : DCall K (rMax K) cMaxL := by
  intro J B H ds k vs Q h s w t q
  unfold cMaxL at h
  split at h
  · obtain ⟨ns, rfl, hne, h⟩ := h
    obtain ⟨v, rfl, t1⟩ := ts1 t
    obtain ⟨a, xs, rfl, aH, ra⟩ := t1.lst s
    have : xs = ns.map V.int := reps_ints_eq ra
    subst this
    exact ⟨a, ns, rfl, SqL.of aH, List.length_pos_iff.mpr hne, fun m h1 h2 => fin_c (h m h1 h2) s w (by rw [Rep]) q⟩
  · exact h.elim
end
section
variable {X : Cx} {a : Expr}
/-- the truth of a value -/
def trD : D → Option Bool
  | .bl b => some b
  | .int i => some (i != 0)
  | .lst ds => some (!ds.isEmpty)
  | .tup ds => some (!ds.isEmpty)
  | _ => none
def wTr (wa : DE) : DT := fun δ k => wa δ fun x => ∃ d b, rd δ x = some d ∧ trD d = some b ∧ k b
theorem isE_reps {K : PySem.W.Frag} {B : Hp} {ds : List D} {xs : List V} (r : Reps K B ds xs) : xs.isEmpty = ds.isEmpty := by
  have := r.len
  cases xs <;> cases ds <;> simp at this <;> rfl
theorem dt_tr {wa : DE} (ha : De X a wa) (he : ∀ whole, isTrue a X.env whole = (do let v ← whole; standAt a.pos; holding [v] (truthy v)) := by intro _; rfl) : Dt X a (wTr wa) := by
  obtain ⟨ta, pa, va⟩ := ha.ex
  refine ⟨_, pt_truth pa he, ?_⟩
  intro J B0 H0 B H σ δ e k h Q q
  refine va e _ h _ fun x v B1 H1 h1 g1 w1 r1 => ?_
  obtain ⟨d, b, hr, hb, h1⟩ := h1
  have e1 := e.step g1 w1
  have t := r1.toT e1 e.nod hr
  refine ⟨b, ?_, q b B1 H1 h1 g1 w1⟩
  cases d with
  | bl c => cases t.bl; cases hb; rfl
  | int i => cases t.int; cases hb; rfl
  | lst ds =>
    obtain ⟨a, xs, rfl, aH, ra⟩ := t.lst e1.bh
    cases hb
    exact .inl ⟨xs, SqL.of aH, by rw [isE_reps ra]⟩
  | tup ds =>
    obtain ⟨a, xs, rfl, aB, aH, ra⟩ := t.tup e1.bh
    cases hb
    exact .inr (.inl ⟨xs, aH, by rw [isE_reps ra]⟩)
  | _ => cases hb
end
end Dl
/-! an own list is kept first: then it is handed on -/
namespace Dl
open PySem PySem.Spec PyProof.Rows L2
section
variable {X : Cx} {st : Stmt}
def wFrz (i : Nat) (w : DS) : DS := fun R δ => ∃ ds, δ[i]? = some (.own ds) ∧ w R (δ.set i (.val (.lst ds)))
theorem ds_frz {i : Nat} {w : DS} (h : Ds X st w) : Ds X st (wFrz i w) := by
  obtain ⟨t, p, v⟩ := h.ex
  refine ⟨t, p, ?_⟩
  intro J B0 H0 B H σ δ e R h En F
  obtain ⟨ds, hd, h⟩ := h
  obtain ⟨B2, e2, _⟩ := e.freeze hd
  exact v e2 R h En F
end
end Dl
/-! lists that are lent: a def reads them, and nothing of them is kept -/
namespace Dl
open PySem PySem.Spec PyProof.Rows L2
def ArgL (K : PySem.W.Frag) (J : JT) (B H : Hp) : S → V → Prop
  | .val d, v => Rep K B d v
  | .dice, v => ∃ a, J.a = some a ∧ v = .ref a
  | .lent ds, v => ∃ a xs, v = .ref a ∧ J.a ≠ some a ∧ H a = some (.lst xs) ∧ B a = none ∧ Reps K B ds xs
  | .no, _ => True
  | _, _ => False
def ArgsL (K : PySem.W.Frag) (J : JT) (B H : Hp) : List S → List V → Prop
  | [], vs => vs = []
  | s :: ss, vs => ∃ v r, vs = v :: r ∧ ArgL K J B H s v ∧ ArgsL K J B H ss r
theorem ArgsL.len {K : PySem.W.Frag} {J : JT} {B H : Hp} : ∀ {xs : List S} {vs : List V}, ArgsL K J B H xs vs → vs.length = xs.length
  | [], _, h => by rw [show _ = [] from h]; rfl
  | s :: ss, _, h => by obtain ⟨v, r, rfl, _, h2⟩ := h; simp [h2.len]
theorem ArgsL.at {K : PySem.W.Frag} {J : JT} {B H : Hp} : ∀ {xs : List S} {vs : List V}, ArgsL K J B H xs vs → ∀ (i : Nat) s, xs[i]? = some s → ∃ v, vs[i]? = some v ∧ ArgL K J B H s v
  | [], _, h, i, s, e => by simp at e
  | x :: xs, _, h, 0, s, e => by obtain ⟨v, r, rfl, h1, h2⟩ := h; simp at e; subst e; exact ⟨v, rfl, h1⟩
  | x :: xs, _, h, i + 1, s, e => by
    obtain ⟨v, r, rfl, h1, h2⟩ := h
    obtain ⟨u, e1, e2⟩ := h2.at i s (by simpa using e)
    exact ⟨u, by simpa using e1, e2⟩
/-- a def's promise, with lists that are lent -/
def SpL (K : PySem.W.Frag) (n : Nat) (pre : List S → Prop) (post : List S → DV → Prop) : Sp := fun vs H Q _ => ∃ J B xs, xs.length = n ∧ ArgsL K J B H xs vs ∧ SameJ K J B H ∧ Own J B H ∧ pre xs ∧
  ∀ r v B' H', post xs r → Grow J B H B' H' → Own J B' H' → RepV K J H B' H' [] [] r v → Q v H'
theorem start_envL {K : PySem.W.Frag} {J : JT} {B H : Hp} {xs : List S} {vs : List V} {N : List Str} (hs : SameJ K J B H) (w : Own J B H) (ha : ArgsL K J B H xs vs) (hl : xs.length ≤ N.length) : Env K J B H B H (L2.start N vs) (xs ++ List.replicate (N.length - xs.length) .no) := by
  have hv := ha.len
  have slot : ∀ (i : Nat) s, (xs ++ List.replicate (N.length - xs.length) S.no)[i]? = some s → s = .no ∨ ∃ v, (L2.start N vs)[i]? = some (some v) ∧ ArgL K J B H s v := by
    intro i s h
    by_cases hi : i < xs.length
    · rw [List.getElem?_append_left hi] at h
      obtain ⟨v, e1, e2⟩ := ha.at i s h
      refine .inr ⟨v, ?_, e2⟩
      unfold L2.start
      rw [List.getElem?_append_left (by simpa [hv] using hi), List.getElem?_map, e1]
      rfl
    · rw [List.getElem?_append_right (by omega), List.getElem?_replicate] at h
      split at h
      · simp at h; exact .inl h.symm
      · simp at h
  refine ⟨.refl hs.1, w, ⟨fun a e => ?_, hs.2⟩, by simp [L2.start, hv], fun i s h => ?_, fun i j ds es a _ h _ _ _ => ?_⟩
  · obtain ⟨_, l, m, c, _, h2⟩ := w.dc a e; rw [h2]; simp
  · rcases slot i s h with rfl | ⟨v, e1, e2⟩
    · trivial
    · rw [e1]
      cases s with
      | no => trivial
      | val d => exact ⟨v, rfl, e2⟩
      | own ds => exact e2.elim
      | dice => obtain ⟨a, e3, e4⟩ := e2; exact ⟨a, by simp [e4], e3⟩
      | ownd ks ds => exact e2.elim
      | lent ds =>
        obtain ⟨a, xs, rfl, nj, hH, nB, r⟩ := e2
        exact ⟨a, xs, rfl, nj, hH, nB, r⟩
  · rcases slot i _ h with z | ⟨v, _, e2⟩
    · cases z
    · exact e2.elim
theorem fn_l {P : Program} {w : World} {K : PySem.W.Frag} {mg : Str → Option Value} {base : Heap} {x qual : Str} {params : Arguments} {body : List Stmt} {scope : Scope} {dvs : List V} {kws : List (Str × V)} {f : Addr} {fd : FuncData} {N ps : List Str} {k n : Nat}
    {pre : List S → Prop} {post : List S → DV → Prop} {wb : DS} (F : FunD K x qual params body scope dvs kws f fd) (Sc : FnScope N ps scope) (hn : ps.length = n) (hN : n ≤ N.length)
    (hbody : ∀ (cdv : Value) (A : Around) (outer : List PySem.Env) (s : Shared) (H : Hp) (E : XK), Room k (A.deeper (envOfC qual scope s.heap.objs.size f cdv)) → Dss (cxOf CX0 P w K mg base N qual scope f cdv A outer s H E).nox body wb)
    (goal : Goal wb N n pre post) : FnOk P w K mg base CX0 (k + 1) f fd ps (SpL K n pre post) := by
  refine F.ok Sc (fun vs H Q E h => ?_) (fun cdv A outer s H vs Q E hr h => ?_)
  · obtain ⟨J, B, xs, hl, ha, _⟩ := h
    rw [ha.len, hl, hn]
  · obtain ⟨J, B, xs, hl, ha, hs, ow, hp, q⟩ := h
    obtain ⟨t, p, v⟩ := (hbody cdv A outer s H E hr).ex
    have st := start_envL (N := N) hs ow ha (by omega)
    rw [hl] at st
    refine ⟨t, p.nox, v st _ (goal xs hl hp) _ ⟨fun h' e' => ?_, fun h' e' r => q _ _ _ _ h' e'.gr e'.ow r, fun h' _ => h'.elim, fun h' _ => h'.elim⟩⟩
    exact q (.c .non) .non _ _ h' e'.gr e'.ow (by show Rep _ _ _ _; rw [Rep])
/-- what a call is handed: lists of one's own are lent -/
def toL (δ : List S) : List DV → Option (List S)
  | [] => some []
  | .j :: xs => (toL δ xs).map (S.dice :: ·)
  | .o i :: xs => match δ[i]? with
    | some (.own ds) => (toL δ xs).map (S.lent ds :: ·)
    | some (.lent ds) => (toL δ xs).map (S.lent ds :: ·)
    | _ => none
  | .c d :: xs => (toL δ xs).map (S.val d :: ·)
  | .f ds :: xs => (toL δ xs).map (S.val (.lst ds) :: ·)
def Kept (K : PySem.W.Frag) (B : Hp) : List DV → List V → Prop
  | [], _ => True
  | x :: xs, vs => ∃ v r, vs = v :: r ∧ (∀ d, cl x = some d → Rep K B d v) ∧ Kept K B xs r
section
variable {K : PySem.W.Frag} {J : JT} {Hs B0 H0 B H B' H' : Hp} {σ : L2.St} {δ : List S}
theorem Kept.mono {B2 : Hp} (s : Same B B2) : ∀ {xs : List DV} {vs : List V}, Kept K B xs vs → Kept K B2 xs vs
  | [], _, _ => True.intro
  | x :: xs, _, h => by
    obtain ⟨v, r, rfl, h1, h2⟩ := h
    exact ⟨v, r, rfl, fun d e => (h1 d e).mono s, h2.mono s⟩
theorem RepVs.kept {xs : List DV} (ws : NoD J Hs) : ∀ {vs : List V}, Grow J B Hs B' H' → Own J B' H' → RepVs K J Hs B' H' σ δ xs vs →
    ∃ B2, Grow J B Hs B2 H' ∧ Own J B2 H' ∧ Same B' B2 ∧ Kept K B2 xs vs ∧ ∀ b, (∀ (j : Nat) es, xs[j]? = some (.f es) → vs[j]? ≠ some (.ref b)) → B2 b = B' b := by
  induction xs with
  | nil => intro vs g w h; exact ⟨B', g, w, .refl _, True.intro, fun _ _ => rfl⟩
  | cons x xs ih =>
    intro vs g w h
    obtain ⟨v, r, rfl, h1, h2, h3⟩ := h
    obtain ⟨B2, g2, w2, s2, r2, f2⟩ := ih g w h2
    have h1' : RepV K J Hs B2 H' σ δ x v := by
      cases x with
      | c d' => exact Rep.mono s2 h1
      | f es =>
        obtain ⟨a, ys, rfl, nS, nB, hH, q⟩ := h1
        exact ⟨a, ys, rfl, nS, by rw [f2 a fun j es' e1 e2 => h3 _ rfl j es' e1 e2]; exact nB, hH, q.mono s2⟩
      | o i => exact h1
      | j => exact h1
    cases hc : cl x with
    | none =>
      refine ⟨B2, g2, w2, s2, ⟨v, r, rfl, (fun d (e : cl x = some d) => by rw [hc] at e; cases e), r2⟩, fun b hb => f2 b fun j es e1 e2 => hb (j + 1) es (by simpa using e1) (by simpa using e2)⟩
    | some d =>
      obtain ⟨B3, g3, w3, s3, r3, f3⟩ := h1'.keep ws g2 w2 hc
      refine ⟨B3, g3, w3, s2.trans s3, ⟨v, r, rfl, (fun d' (e : cl x = some d') => by rw [hc] at e; cases e; exact r3), r2.mono s3⟩, fun b hb => ?_⟩
      rw [f3 b fun es e1 e2 => hb 0 es (by simp [e1]) (by simp [e2]), f2 b fun j es e1 e2 => hb (j + 1) es (by simpa using e1) (by simpa using e2)]
theorem RepVs.argsL (e : Env K J B0 H0 B H σ δ) (g : Grow J B H B' H') : ∀ {xs : List DV} {vs : List V} {ss : List S} {Bx : Hp}, RepVs K J H Bx H' σ δ xs vs → Kept K B' xs vs → toL δ xs = some ss → ArgsL K J B' H' ss vs
  | [], vs, ss, Bx, h, _, ht => by cases ht; exact h
  | x :: xs, vs, ss, Bx, h, hk, ht => by
    obtain ⟨v, r, rfl, h1, h2, _⟩ := h
    obtain ⟨v', r', e', k1, k2⟩ := hk
    cases e'
    cases x with
    | c d =>
      obtain ⟨ss', hs, rfl⟩ := Option.map_eq_some_iff.mp ht
      exact ⟨v, r, rfl, k1 d rfl, RepVs.argsL e g h2 k2 hs⟩
    | f ds =>
      obtain ⟨ss', hs, rfl⟩ := Option.map_eq_some_iff.mp ht
      exact ⟨v, r, rfl, k1 (.lst ds) rfl, RepVs.argsL e g h2 k2 hs⟩
    | j =>
      obtain ⟨ss', hs, rfl⟩ := Option.map_eq_some_iff.mp ht
      exact ⟨v, r, rfl, h1, RepVs.argsL e g h2 k2 hs⟩
    | o i =>
      obtain ⟨⟨ds, hd⟩, hv⟩ := h1
      have key : ∃ a ys, σ[i]? = some (some (.ref a)) ∧ J.a ≠ some a ∧ B a = none ∧ H a = some (.lst ys) ∧ Reps K B ds ys := by
        rcases hd with hd | hd
        · obtain ⟨a, ys, q1, _, q3, q4, q5, q6⟩ := e.ownJ hd
          exact ⟨a, ys, q1, q6, q3, q4, q5⟩
        · obtain ⟨a, ys, q1, q2, q3, q4, q5, _⟩ := e.lentJ hd
          exact ⟨a, ys, q1, q2, q3, q4, q5⟩
      obtain ⟨a, ys, q1, q2, q3, q4, q5⟩ := key
      rw [hv] at q1; cases q1
      have ht2 : (toL δ xs).map (S.lent ds :: ·) = some ss := by
        rcases hd with hd | hd
        · simpa [toL, hd] using ht
        · simpa [toL, hd] using ht
      obtain ⟨ss', hs, rfl⟩ := Option.map_eq_some_iff.mp ht2
      exact ⟨_, r, rfl, ⟨a, ys, rfl, q2, g.hh a _ q2 q4, by rw [g.fr a (by rw [q4]; simp)]; exact q3, q5.mono g.bb⟩, RepVs.argsL e g h2 k2 hs⟩
end
section
variable {X : Cx} {e a b c : Expr} {es : List Expr} {pos : Pos}
/-- the call of a def that is lent lists -/
def wCallL (n : Nat) (pre : List S → Prop) (post : List S → DV → Prop) (wa : DA) : DE := fun δ k => wa δ fun xs => ∃ ss, toL δ xs = some ss ∧ ss.length = n ∧ pre ss ∧ ∀ r, post ss r → r ≠ .j ∧ k r
theorem de_callL {CX : CXT} {k n : Nat} {f : Addr} {fd : FuncData} {ps : List Str} {pre : List S → Prop} {post : List S → DV → Prop} {x : Str} {p : Pos} {wa : DA} {E : XK}
    (F : FnOk X.prog X.w X.K X.mg X.base CX k f fd ps (SpL X.K n pre post)) (hr : Room k X.A) (hg : Gl X x) (hm : X.mg x = some (.ref f)) (hk : PySem.W.keepIn X.K (.ref f) = true) (hb : Binds X.K fd ps []) (hx : Passes CX X E)
    (ha : Da X (e :: es) wa) (hdb : (x == ("__debug__" : Str)) = false := by decide) (he : starEach (e :: es) X.env = (false, eval e X.env) :: starEach es X.env := by rfl) (hpl : (backTo pos (starEach es X.env)).any (·.1) = false := by rfl) :
    De X (.Call (.Name x p) (e :: es) [] pos) (wCallL n pre post wa) := by
  obtain ⟨ta, pa, va⟩ := ha.ex
  refine ⟨_, pe_call F hr hg hm hk hb .nil hx pa hdb he hpl, ?_⟩
  intro J B0 H0 B H σ δ e k h Q q
  refine va e _ h _ fun xs vs B1 H1 h1 g1 w1 r1 => ?_
  obtain ⟨ss, hs, hn, hp, h1⟩ := h1
  obtain ⟨B2, g2, w2, _, k2, _⟩ := r1.kept e.nod g1 w1
  have al := RepVs.argsL e g2 r1 k2 hs
  show SpL _ _ _ _ (vs ++ []) H1 Q _
  rw [List.append_nil]
  exact ⟨J, B2, ss, hn, al, ⟨g2.bh, e.jl.2⟩, w2, hp, fun r v B' H' po g w rr => q r v B' H' (h1 r po).2 (g2.trans g) w ((rv_any rr (h1 r po).1 σ δ).back g2.ne)⟩
end
end Dl
/-! a store to a part of a list -/
namespace Dl
open PySem PySem.Spec PyProof.Rows L2
section
variable {X : Cx} {o lo hi : Expr} {pos p2 : Pos}
def gSl (to tl th : TE) : TG := fun v σ H Q => to σ H fun o H1 => tPart tl σ H1 fun l H2 => tPart th σ H2 fun u H3 => ∃ p q xs ys a c, o = .ref p ∧ v = .ref q ∧ p ≠ q ∧ H3 p = some (.lst xs) ∧ H3 q = some (.lst ys) ∧ l = some a ∧ u = some c ∧
  0 ≤ a ∧ a ≤ c ∧ c ≤ (xs.length : Int) ∧ xs.length + ys.length ≤ 100000 ∧ Q σ (upd H3 p (.lst (xs.take a.toNat ++ ys ++ xs.drop c.toNat)))
theorem pg_slice {to tl th : TE} (ho : PE X o to) (hl : PE X lo tl) (hu : PE X hi th)
    (ha : ∀ v : Value, assign (.Subscript o (.Slice (some lo) (some hi) none p2) pos) X.env v = (do
      let ov ← holding [v] (eval o X.env)
      let iv ← holding [v, ov] (eval (.Slice (some lo) (some hi) none p2) X.env)
      standAt pos
      holding [v, ov, iv] (setItem ov iv v)
      PySem.release [iv, v, ov] []) := by intro _; rfl) : PG X (.Subscript o (.Slice (some lo) (some hi) none p2) pos) (gSl to tl th) := by
  refine ⟨fun pins s σ H v u Q I r h => ?_⟩
  rw [ha u]
  refine wpAny_bind (wpAny_holding (thn (ho.run pins s σ H _ I h) fun ov s1 ⟨x, H1, I1, r1, q1⟩ => ?_))
  refine wpAny_bind (wpAny_holding (wpAny_Slice (thn ((po_some hl).run pins s1 σ H1 _ I1 q1) fun vl s2 ⟨l, H2, I2, pl, q2⟩ => thn ((po_some hu).run pins s2 σ H2 _ I2 q2) fun vu s3 ⟨c, H3, I3, pu, q3⟩ => ?_)))
  rw [evalPart_none X.env]
  refine wpAny_pure ?_
  have I4 := I3.kept (t' := s3.toks) fun b ob q => Heap.get?_push_of_some { cls := Value.type "slice", data := Data.fields #[vl, vu, Value.none] } q
  obtain ⟨p, q, xs, ys, a, c', rfl, rfl, hpq, hp, hq, rfl, rfl, h0, h1, h2, h3, hQ⟩ := q3
  cases r1
  cases r
  refine wpAny_bind (wpAny_standAt (wpAny_bind (wpAny_holding ?_)))
  have ra : RelV (.int a) vl := by cases pl with | int i t => exact ⟨t, rfl⟩
  have rc : RelV (.int c') vu := by cases pu with | int i t => exact ⟨t, rfl⟩
  refine set_slice I4 hp hq hpq (Heap.IsSliceOf.new s3.heap vl vu Value.none) ra rc h0 h1 h2 (by have : sizeLine = 2 ^ 24 := rfl; omega) fun s' I5 => ?_
  exact wpAny_release ⟨σ, _, I5, hQ⟩
end
end Dl
/-! {k: True for k in ..}, kept in a name -/
namespace Dl
open PySem PySem.Spec PyProof.Rows L2
def nubA (acc : List Int) (k : Int) : List Int := if acc.contains k = true then acc else acc ++ [k]
def nubD (ks : List Int) : List Int := ks.foldl nubA []
theorem nubD_snoc (ks : List Int) (k : Int) : nubD (ks ++ [k]) = nubA (nubD ks) k := by unfold nubD; rw [List.foldl_append]; rfl
theorem nubA_len (acc : List Int) (k : Int) : (nubA acc k).length ≤ acc.length + 1 := by unfold nubA; split <;> simp
theorem nubD_len : ∀ ks : List Int, (nubD ks).length ≤ ks.length := by
  intro ks
  have : ∀ (l : List Int) (acc : List Int), (l.foldl nubA acc).length ≤ acc.length + l.length := by
    intro l
    induction l with
    | nil => intro acc; simp
    | cons k l ih =>
      intro acc
      have := ih (nubA acc k)
      have := nubA_len acc k
      rw [List.foldl_cons, List.length_cons]; omega
  show (ks.foldl nubA []).length ≤ ks.length
  simpa using this ks []
theorem nubD_mem (ks : List Int) (n : Int) : n ∈ nubD ks ↔ n ∈ ks := by
  have : ∀ (l : List Int) (acc : List Int), n ∈ l.foldl nubA acc ↔ n ∈ acc ∨ n ∈ l := by
    intro l
    induction l with
    | nil => intro acc; simp
    | cons k l ih =>
      intro acc
      rw [List.foldl_cons, ih]
      unfold nubA
      by_cases hk : acc.contains k = true
      · rw [if_pos hk, List.mem_cons]
        constructor
        · rintro (h | h)
          · exact .inl h
          · exact .inr (.inr h)
        · rintro (h | h | h)
          · exact .inl h
          · rw [h]; exact .inl (by simpa using hk)
          · exact .inr h
      · rw [if_neg hk, List.mem_append, List.mem_singleton, List.mem_cons]
        constructor
        · rintro ((h | h) | h)
          · exact .inl h
          · exact .inr (.inl h)
          · exact .inr (.inr h)
        · rintro (h | h | h)
          · exact .inl (.inl h)
          · exact .inl (.inr h)
          · exact .inr h
  unfold nubD
  rw [this]
  simp
def mkT (ks : List Int) : List (L2.Key × V) := mkD ks (List.replicate ks.length (.bl true))
theorem mkT_map (ks : List Int) : mkT ks = ks.map fun k => (Sum.inl k, V.bl true) := by
  unfold mkT mkD
  induction ks with
  | nil => rfl
  | cons k ks ih => rw [List.length_cons, List.replicate_succ, List.zipWith_cons_cons, ih]; rfl
theorem putK_T (ks : List Int) (n : Int) : putK (mkT ks) (Sum.inl n) (V.bl true) = mkT (nubA ks n) := by
  unfold putK nubA
  rw [mkT_map]
  by_cases hk : ks.contains n = true
  · rw [if_pos hk, mkT_map, if_pos]
    · rw [List.map_map]
      apply List.map_congr_left
      intro k _
      show (if _ then _ else _) = _
      split
      · rename_i h; rfl
      · rfl
    · rw [List.any_map, List.any_eq_true]
      exact ⟨n, by simpa using hk, by simp⟩
  · rw [if_neg hk, mkT_map, if_neg]
    · simp
    · rw [List.any_map, List.any_eq_true]
      rintro ⟨k, h1, h2⟩
      have h2 : decide ((Sum.inl k : L2.Key) = Sum.inl n) = true := h2
      have : k = n := by simpa using h2
      exact hk (by rw [← this]; simpa using h1)
theorem reps_true {K : PySem.W.Frag} {B : Hp} : ∀ n, Reps K B (List.replicate n (.bl true)) (List.replicate n (.bl true))
  | 0 => .nil
  | n + 1 => .cons (by rw [Rep]) (reps_true n)
section
variable {X : Cx} {e a b c tg iter elt kx : Expr} {es ifs : List Expr} {pos p : Pos}
def wDcS (i : Nat) (wi : DIC) (vs : List Nat) (wg : DG) (wk : DE) : DS := fun R δ => wi δ fun ds => ∃ ks : List Int, ds = ks.map .int ∧ (∀ (j : Nat) n, ks[j]? = some n → wg (.int n) (wipeD δ vs) fun δ2 => wk δ2 fun y => y = .c (.int n)) ∧ ks.length ≤ 1000 ∧ noD δ = true ∧
  R.nx (δ.set i (.ownd (nubD ks) (List.replicate (nubD ks).length (.bl true))))
theorem ds_dcS {i k1 : Nat} {x : Str} {pos' spos pt : Pos} {scope : Scope} {own : List (Str × Nat)} {wi : DIC} {wg : DG} {wk : DE} (hc : X.calm = true) (hN : X.N.Nodup) (hix : X.N[i]? = some x) (hx : Loc X.env.scope x) (hi : Dic X tg iter wi) (ok : BlkOk X.N X.env.scope scope own)
    (hg : Blk X scope fun Y => Dgv Y (own.map (·.2)) tg wg) (hk : Blk X scope fun Y => De Y kx wk) (hs : ∀ x, foldedSetIterable iter X.env x = pure x := by intro _; rfl)
    (hsw : swapsWith (.DictComp kx (.Constant (.bool true) k1 pt) [⟨tg, iter, [], 0⟩] scope pos) (some (.Name x pos')) spos.line X.env = pure false := by rfl) (hf : X.fn x = true ∨ X.env.scope.names.lookup x = some .local := by first | exact .inl rfl | exact .inr rfl | assumption) :
    Ds X (.Assign [.Name x pos'] (.DictComp kx (.Constant (.bool true) k1 pt) [⟨tg, iter, [], 0⟩] scope pos) spos) (wDcS i wi (own.map (·.2)) wg wk) := by
  obtain ⟨ti, pi, vi⟩ := hi.ex
  obtain ⟨g, pg, vg⟩ := blk_g hg
  obtain ⟨tk, pk, vk⟩ := blk_e hk
  refine ⟨_, ps_set hN hix hx (pe_dc hc hN pi ok pg (fun _ _ _ _ _ => pts_nil) pk (fun _ _ _ _ _ => pe_bl) hs) hsw hf, ?_⟩
  intro J B0 H0 B H σ δ e R h En F
  refine vi e _ h _ fun ds It B1 H1 h1 g1 w1 it => ?_
  obtain ⟨ks, rfl, hst, hsz, hnd, hend⟩ := h1
  intro L hL
  have e1 := e.step g1 w1
  have nj : J.a ≠ some L := w1.no hL
  have hB1 : B1 L = none := e1.bh.free hL
  let W : Nat → Hp → Prop := fun i H' => i ≤ ks.length ∧ ∃ B', Grow J B1 H1 B' H' ∧ Own J B' H' ∧ B' L = none ∧ H' L = some (.dK (mkT (nubD (ks.take i))))
  refine ⟨fun i m H' => m = ks.length - i ∧ W i H', ⟨ks.length, rfl, Nat.zero_le _, B1, .fresh e1.bh hL, w1.fresh hL, hB1, upd_same⟩, ?_⟩
  rintro i m H' ⟨rfl, hi, B', g', w', hB', hH'⟩
  obtain ⟨stop, go⟩ := it g' w' i
  by_cases hlt : i < ks.length
  · have hd : (ks.map D.int)[i]? = some (.int ks[i]) := by rw [List.getElem?_map, List.getElem?_eq_getElem hlt]; rfl
    obtain ⟨go, yl⟩ := go _ hd
    refine .inr ⟨go, W (i + 1), fun H'' h => ⟨ks.length - (i + 1), by omega, rfl, h⟩, fun x H2 y => ?_⟩
    obtain ⟨B2, g2, w2, rx⟩ := yl x H2 y
    have G2 := g'.trans g2
    have e2 := (e1.step G2 w2).wiped (own.map (·.2))
    have hB2 : B2 L = none := (g2.fr L (by rw [hH']; simp)).trans hB'
    have hH2 : H2 L = some (.dK (mkT (nubD (ks.take i)))) := g2.hh L _ nj hH'
    refine vg e2 _ x rx _ (hst i _ (List.getElem?_eq_getElem hlt)) _ fun σ3 δ3 h3 e3 ew => ?_
    refine ⟨ew.trans wipe_wipe, ?_⟩
    refine cast (if_pos (e := W (i + 1) H2) (rfl : (true : Bool) = true)).symm ?_
    refine vk e3 _ h3 _ fun y v B5 H5 h5 g5 w5 r5 => ?_
    subst h5
    have r5 : Rep X.K B5 (.int ks[i]) v := r5
    rw [Rep] at r5
    subst r5
    have G6 := G2.trans g5
    have hB6 : B5 L = none := (g5.fr L (by rw [hH2]; simp)).trans hB2
    have hH5 : H5 L = some (.dK (mkT (nubD (ks.take i)))) := g5.hh L _ nj hH2
    have htk : nubD (ks.take (i + 1)) = nubA (nubD (ks.take i)) ks[i] := by
      rw [List.take_add_one, List.getElem?_eq_getElem hlt]
      exact nubD_snoc _ _
    refine ⟨_, .inl ks[i], rfl, hH5, ?_, hlt, B5, ?_, ?_, hB6, ?_⟩
    · rw [mkT_map, List.length_map]
      have := nubD_len (ks.take i)
      rw [List.length_take] at this
      exact Nat.lt_of_lt_of_le (show (nubD (ks.take i)).length < 100001 by omega) (by decide)
    · refine ⟨G6.bb, fun b o eb => ?_, G6.kp.put hL hH5 pl0_dK, fun b eb => ?_, G6.fr⟩
      · rw [upd_ne (fun z => by rw [z, hB6] at eb; cases eb)]; exact G6.bh b o eb
      · by_cases hb : b = L
        · rw [hb, upd_same]; simp
        · rw [upd_ne hb]; exact G6.ne b eb
    · refine ⟨fun b z => ?_, tabs_put hH5 pl0_dK w5.tb, w5.nt⟩
      obtain ⟨h1, l, m, c, h0, h2⟩ := w5.dc b z
      exact ⟨h1, l, m, c, h0, by rw [upd_ne (fun q => nj (by rw [z, q]))]; exact h2⟩
    · rw [upd_same, putK_T, ← htk]
  · have ei : i = ks.length := by omega
    subst ei
    have n0 : H0 L = none := Classical.byContradiction fun z => g1.ne L (e.gr.ne L z) hL
    rw [List.take_length] at hH'
    have e3 := e1.step g' w'
    refine .inl ⟨stop (by rw [List.length_map]), F.nx hend (e3.putD n0 hB' hH' (by simp) (reps_true _) i)⟩
/-- k in x -/
def wInD (i : Nat) (wk : DE) : DT := fun δ k => wk δ fun y => ∃ n ks ds, y = .c (.int n) ∧ δ[i]? = some (.ownd ks ds) ∧ k (ks.contains n)
theorem dt_inD {i : Nat} {x : Str} {px : Pos} {kx : Expr} {wk : DE} (hu : X.A.units + 64 < cLine) (hN : X.N[i]? = some x) (hv : Vis X.env.scope x) (hk : De X kx wk)
    (hd : (x == ("__debug__" : Str)) = false := by decide) (hcd : (x == ("__classdict__" : Str)) = false := by decide) (hm : behindInMarks .In (.Name x px) = false := by with_unfolding_all rfl) :
    Dt X (.Compare kx [.In] [.Name x px] pos) (wInD i wk) := by
  obtain ⟨tk, pk, vk⟩ := hk.ex
  refine ⟨_, pt_cmp (pc_din (by omega) pk (pv i hN hv hd hcd)) hm, ?_⟩
  intro J B0 H0 B H σ δ e k h Q q
  refine vk e _ h _ fun y u B1 H1 h1 g1 w1 r1 => ?_
  obtain ⟨n, ks, ds, rfl, hd, h1⟩ := h1
  have r1 : Rep X.K B1 (.int n) u := r1
  rw [Rep] at r1; subst r1
  obtain ⟨a, xs, hs, n0, nB, hH, hl, r, nj⟩ := (e.step g1 w1).owndJ hd
  refine ⟨_, hs, a, _, rfl, DGet.k (k := .inl n) hH, _, rfl, ?_⟩
  rw [valV_mkD_some hl]
  exact q _ B1 H1 h1 g1 w1
end
end Dl
/-! dice that are kept in a name -/
namespace Dl
open PySem PySem.Spec PyProof.Rows L2
def okB : S → Bool
  | .dice => false
  | .lent _ => false
  | _ => true
def diceS (l m c : Int) : S := .own [.int l, .int m, .int c]
def wDice (i : Nat) (w : DS) : DS := fun R δ => ∃ l m c : Int, δ[i]? = some (diceS l m c) ∧ 0 ≤ l ∧
  w { nx := fun δ' => δ'[i]? = some .dice ∧ (δ'.set i .no).all okB = true ∧ ∀ l m c : Int, 0 ≤ l → R.nx (δ'.set i (diceS l m c)),
      rt := fun δ' x => (∃ d, x = .c d) ∧ δ'[i]? = some .dice ∧ (δ'.set i .no).all okB = true ∧ ∀ l m c : Int, 0 ≤ l → R.rt (δ'.set i (diceS l m c)) x,
      bk := fun δ' => δ'[i]? = some .dice ∧ (δ'.set i .no).all okB = true ∧ ∀ l m c : Int, 0 ≤ l → R.bk (δ'.set i (diceS l m c)),
      ct := fun δ' => δ'[i]? = some .dice ∧ (δ'.set i .no).all okB = true ∧ ∀ l m c : Int, 0 ≤ l → R.ct (δ'.set i (diceS l m c)) } (δ.set i .dice)
section
variable {K : PySem.W.Frag} {J : JT} {B0 H0 B H : Hp} {σ : L2.St} {δ : List S} {i : Nat} {a : Addr}
open Classical in
noncomputable def withJ (J : JT) (a : Addr) (H0 H : Hp) : Hp := fun b => if b = a ∨ J.a = some b then H b else H0 b
theorem Env.toDice {l m c : Int} (e : Env K J B0 H0 B H σ δ) (hd : δ[i]? = some (diceS l m c)) (h0 : 0 ≤ l) (hs : σ[i]? = some (some (.ref a))) (hok : (δ.set i .no).all okB = true) : Env K (J.to a) B0 (withJ J a H0 H) B H σ (δ.set i .dice) := by
  obtain ⟨a', xs, q1, n0, nB, hH, r, nj⟩ := e.ownJ hd
  rw [hs] at q1; cases q1
  have hw : ∀ b, b ≠ a → J.a ≠ some b → withJ J a H0 H b = H0 b := fun b h1 h2 => by unfold withJ; rw [if_neg (fun z => z.elim h1 h2)]
  have hw2 : ∀ b, (b = a ∨ J.a = some b) → withJ J a H0 H b = H b := fun b h => by unfold withJ; rw [if_pos h]
  have hxs : xs = [.int l, .int m, .int c] := by
    have := reps_ints_eq (ns := [l, m, c]) r
    exact this
  have nB0 : ∀ b, B b = none → B0 b = none := fun b h => by
    cases hb : B0 b with
    | none => rfl
    | some o => rw [e.gr.bb b o hb] at h; cases h
  have keep : ∀ b o, withJ J a H0 H b = some o → NT o → H b = some o := fun b o eb nt => by
    by_cases hb : b = a ∨ J.a = some b
    · rw [hw2 b hb] at eb; exact eb
    · rw [hw b (fun h => hb (.inl h)) (fun h => hb (.inr h))] at eb
      exact e.gr.kp.hk b o (fun h => hb (.inr h)) nt eb
  have low : ∀ b o, withJ J a H0 H b = some o → Pl0' o → H0 b = some o := fun b o eb np => by
    by_cases hb : b = a ∨ J.a = some b
    · exfalso
      rw [hw2 b hb] at eb
      rcases hb with rfl | hb
      · rw [hH] at eb; exact np (by rw [← Option.some.inj eb]; exact pl0_lst)
      · obtain ⟨_, l, m, c, _, h2⟩ := e.ow.dc b hb
        rw [h2] at eb; exact np (by rw [← Option.some.inj eb]; exact pl0_lst)
    · rwa [hw b (fun h => hb (.inl h)) (fun h => hb (.inr h))] at eb
  refine ⟨⟨e.gr.bb, e.gr.bh, ⟨fun b o _ nt eb => keep b o eb nt, fun t => e.gr.kp.tb (tabs_low t low)⟩, fun b eb => ?_, fun b eb => ?_⟩, ⟨fun b z => ?_, e.ow.tb, e.ow.nt⟩, ⟨fun b z => ?_, e.jl.2⟩, by simp [e.ln], fun j s h => ?_, fun j k ds es a2 njk h1 h2 h3 h4 => ?_⟩
  · by_cases hb : b = a ∨ J.a = some b
    · rw [hw2 b hb] at eb; exact eb
    · rw [hw b (fun h => hb (.inl h)) (fun h => hb (.inr h))] at eb
      exact e.gr.ne b eb
  · by_cases hb : b = a ∨ J.a = some b
    · have : B b = none := by
        rcases hb with rfl | hb
        · exact nB
        · exact (e.ow.dc b hb).1
      rw [this, nB0 b this]
    · rw [hw b (fun h => hb (.inl h)) (fun h => hb (.inr h))] at eb
      exact e.gr.fr b eb
  · cases z
    exact ⟨nB, l, m, c, h0, by rw [hH, hxs]⟩
  · cases z
    rw [hw2 _ (.inl rfl), hH]; simp
  · rw [List.getElem?_set] at h
    by_cases hij : i = j
    · subst hij
      have hlt : i < δ.length := (List.getElem?_eq_some_iff.mp hd).1
      simp [hlt] at h
      subst h
      rw [hs]
      exact ⟨a, rfl, rfl⟩
    · rw [if_neg hij] at h
      have q := e.sl j s h
      have hm : s ∈ δ.set i .no := List.mem_of_getElem? (i := j) (by rw [List.getElem?_set, if_neg hij]; exact h)
      have hk := List.all_eq_true.mp hok s hm
      cases s with
      | no => trivial
      | val d => exact q
      | dice => cases hk
      | lent es => cases hk
      | own es =>
        obtain ⟨a2, ys, q1, q2, q3, q4, q5⟩ := q
        have hj : σ[j]? = some (some (.ref a2)) := by
          obtain ⟨o, ho, _⟩ := e.slot h
          rw [ho] at q1 ⊢
          simp at q1; rw [q1]
        have na : a2 ≠ a := fun z => e.ap i j _ _ a hij hd h hs (by rw [← z]; exact hj)
        have nJ : J.a ≠ some a2 := fun z => e.jn a2 z q2
        exact ⟨a2, ys, q1, by rw [hw a2 na nJ]; exact q2, q3, q4, q5⟩
      | ownd ks es =>
        obtain ⟨a2, ys, q1, q2, q3, q4, ql, q5⟩ := q
        have na : a2 ≠ a := fun z => by rw [z, hH] at q4; cases q4
        have nJ : J.a ≠ some a2 := fun z => e.jn a2 z q2
        exact ⟨a2, ys, q1, by rw [hw a2 na nJ]; exact q2, q3, q4, ql, q5⟩
  · have back : ∀ (j : Nat) (ds : List D), (δ.set i .dice)[j]? = some (S.own ds) → δ[j]? = some (S.own ds) := by
      intro j ds h
      rw [List.getElem?_set] at h
      by_cases hij : i = j
      · subst hij
        by_cases hlt : i < δ.length
        · simp [hlt] at h
        · simp [hlt] at h
      · rw [if_neg hij] at h; exact h
    exact e.ap j k _ _ a2 njk (back j _ h1) (back k _ h2) h3 h4
theorem Env.fromDice {B' H' : Hp} {σ' : L2.St} {δ' : List S} (e : Env K J B0 H0 B H σ δ) (ha : H a ≠ none) (n0 : H0 a = none) (nB : B a = none) (nj : J.a ≠ some a) (e' : Env K (J.to a) B0 (withJ J a H0 H) B' H' σ' δ') (hi : δ'[i]? = some .dice) (hok : (δ'.set i .no).all okB = true) :
    ∃ l m c : Int, 0 ≤ l ∧ Env K J B0 H0 B' H' σ' (δ'.set i (diceS l m c)) := by
  have hw : ∀ b, b ≠ a → J.a ≠ some b → withJ J a H0 H b = H0 b := fun b h1 h2 => by unfold withJ; rw [if_neg (fun z => z.elim h1 h2)]
  have hw2 : ∀ b, (b = a ∨ J.a = some b) → withJ J a H0 H b = H b := fun b h => by unfold withJ; rw [if_pos h]
  have hne : ∀ b, H0 b ≠ none → withJ J a H0 H b ≠ none := fun b hb => by
    by_cases h : b = a ∨ J.a = some b
    · rw [hw2 b h]; exact e.gr.ne b hb
    · rw [hw b (fun z => h (.inl z)) (fun z => h (.inr z))]; exact hb
  obtain ⟨nB', l, m, c, h0, hH'⟩ := e'.ow.dc a rfl
  have si : σ'[i]? = some (some (.ref a)) := by
    obtain ⟨o, e1, a', rfl, hj⟩ := e'.slot hi
    cases hj
    exact e1
  have hlt : i < δ'.length := (List.getElem?_eq_some_iff.mp hi).1
  have up : ∀ b o, H0 b = some o → Pl0' o → withJ J a H0 H b = some o := fun b o eb np => by
    by_cases hb : b = a ∨ J.a = some b
    · exfalso
      rcases hb with rfl | hb
      · rw [n0] at eb; cases eb
      · obtain ⟨xs, h2⟩ := e.jl.1 b hb
        rw [h2] at eb; exact np (by rw [← Option.some.inj eb]; exact pl0_lst)
    · rw [hw b (fun h => hb (.inl h)) (fun h => hb (.inr h))]; exact eb
  have kw : KeptT J H0 H' := ⟨fun b o nb nt eb => by
    have ba : b ≠ a := fun z => by rw [z, n0] at eb; cases eb
    exact e'.gr.kp.hk b o (fun z => ba (Option.some.inj z).symm) nt (by rw [hw b ba nb]; exact eb), fun t => e'.gr.kp.tb (tabs_low t up)⟩
  refine ⟨l, m, c, h0, ⟨e'.gr.bb, e'.gr.bh, kw, fun b eb => e'.gr.ne b (hne b eb), fun b eb => e'.gr.fr b (hne b eb)⟩, ⟨fun b z => ?_, e'.ow.tb, e'.ow.nt⟩, e.jl, by simp [e'.ln], fun j s h => ?_, fun j k ds es a2 njk h1 h2 h3 h4 => ?_⟩
  · have ba : b ≠ a := fun q => nj (by rw [z, q])
    obtain ⟨h1, l, m, c, h0, h2⟩ := e.ow.dc b z
    refine ⟨?_, l, m, c, h0, e'.gr.hh b _ (fun q => ba (Option.some.inj q).symm) (by rw [hw2 b (.inr z)]; exact h2)⟩
    rw [e'.gr.fr b (by rw [hw2 b (.inr z), h2]; simp)]
    cases hb : B0 b with
    | none => rfl
    | some o => rw [e.gr.bb b o hb] at h1; cases h1
  · rw [List.getElem?_set] at h
    by_cases hij : i = j
    · subst hij
      simp [hlt] at h
      subst h
      rw [si]
      exact ⟨a, _, rfl, n0, nB', hH', reps_ints [l, m, c]⟩
    · rw [if_neg hij] at h
      have q := e'.sl j s h
      have hm : s ∈ δ'.set i .no := List.mem_of_getElem? (i := j) (by rw [List.getElem?_set, if_neg hij]; exact h)
      have hk := List.all_eq_true.mp hok s hm
      have hz : ∀ a2, withJ J a H0 H a2 = none → H0 a2 = none := fun a2 h => Classical.byContradiction fun z => hne a2 z h
      cases s with
      | no => trivial
      | val d => exact q
      | dice => cases hk
      | lent es => cases hk
      | own es =>
        obtain ⟨a2, ys, q1, q2, q3, q4, q5⟩ := q
        exact ⟨a2, ys, q1, hz a2 q2, q3, q4, q5⟩
      | ownd ks es =>
        obtain ⟨a2, ys, q1, q2, q3, q4, ql, q5⟩ := q
        exact ⟨a2, ys, q1, hz a2 q2, q3, q4, ql, q5⟩
  · have key : ∀ (j k : Nat) (ds : List D), j ≠ k → i = j → (δ'.set i (diceS l m c))[k]? = some (S.own ds) → σ'[j]? = some (some (.ref a2)) → σ'[k]? = some (some (.ref a2)) → False := by
      intro j k ds hjk hij hk hj3 hk3
      subst hij
      rw [si] at hj3; cases hj3
      rw [List.getElem?_set, if_neg hjk] at hk
      obtain ⟨a3, ys, q1, q2, _⟩ := e'.ownJ hk
      rw [hk3] at q1; cases q1
      rw [hw2 _ (.inl rfl)] at q2
      exact ha q2
    by_cases hj : i = j
    · exact key j k _ njk hj h2 h3 h4
    · by_cases hk : i = k
      · exact key k j _ (Ne.symm njk) hk h1 h4 h3
      · rw [List.getElem?_set, if_neg hj] at h1
        rw [List.getElem?_set, if_neg hk] at h2
        exact e'.ap j k _ _ a2 njk h1 h2 h3 h4
end
section
variable {X : Cx} {rest : List Stmt}
def wDiceS (i : Nat) (w : DS) : DS := fun R δ => (δ.set i .no).all okB = true ∧ wDice i w R δ
theorem dss_dice {i : Nat} {w : DS} (h : Dss X rest w) : Dss X rest (wDiceS i w) := by
  obtain ⟨t, p, v⟩ := h.ex
  refine ⟨t, p, ?_⟩
  intro J B0 H0 B H σ δ e R h En F
  obtain ⟨hok, l, m, c, hd, h0, h⟩ := h
  obtain ⟨a, xs, hs, n0, nB, hH, r, nj⟩ := e.ownJ hd
  have e1 := e.toDice hd h0 hs hok
  have hne : H a ≠ none := by rw [hH]; simp
  refine v e1 _ h _ ⟨?_, ?_, ?_, ?_⟩
  · rintro B' H' σ' δ' ⟨g1, g2, g3⟩ e'
    obtain ⟨l, m, c, h0, e2⟩ := e.fromDice hne n0 nB nj e' g1 g2
    exact F.nx (g3 l m c h0) e2
  · rintro B' H' σ' δ' x v ⟨⟨d, rfl⟩, g1, g2, g3⟩ e' r
    obtain ⟨l, m, c, h0, e2⟩ := e.fromDice hne n0 nB nj e' g1 g2
    exact F.rt (g3 l m c h0) e2 r
  · rintro B' H' σ' δ' ⟨g1, g2, g3⟩ e'
    obtain ⟨l, m, c, h0, e2⟩ := e.fromDice hne n0 nB nj e' g1 g2
    exact F.bk (g3 l m c h0) e2
  · rintro B' H' σ' δ' ⟨g1, g2, g3⟩ e'
    obtain ⟨l, m, c, h0, e2⟩ := e.fromDice hne n0 nB nj e' g1 g2
    exact F.ct (g3 l m c h0) e2
end
end Dl
/-! (a, b) * n for any small n -/
namespace L2
open PySem PySem.Spec PyProof.Rows
theorem tuple_mul1 (l : Addr) (items : Array Value) (n : Nat) (dd : Option Addr) (sl : Array (Option Value)) (x : Int) (u : Tok) (c0 : (decide (x < -(2 ^ 63)) || decide (x ≥ 2 ^ 63)) = false) (c1 : (items.isEmpty || x == 1) = true) :
    Meets (Builtin.«tuple.__mul__» ⟨[.ref l, .int x u], []⟩) (fun _ R s => s.heap.get? l = some { cls := .type "tuple", dict := dd, data := .seq items n, slots := sl } ∧
      R (.ok (.ret (Value.ref l))) s) :=
  .of_wp fun prog w A R s h => by
    obtain ⟨hp, g, d, tk, os⟩ := s
    obtain ⟨hl, h⟩ := h
    have f1 := AutoSeq1.idx_int
    wp_walk using wpAny_loadPart' hl
    repeat (first
      | (refine wpAny_ite_false (decide_eq_false (by rw [c0]; exact Bool.false_ne_true)) ?_; wp_walk using wpAny_loadPart' hl)
      | (refine wpAny_ite_true (decide_eq_true c1) ?_; wp_walk using wpAny_loadPart' hl))
    exact ⟨_, rfl, h⟩
theorem tuple_mul0 (l : Addr) (items : Array Value) (n : Nat) (dd : Option Addr) (sl : Array (Option Value)) (x : Int) (u : Tok) (c0 : (decide (x < -(2 ^ 63)) || decide (x ≥ 2 ^ 63)) = false) (c1 : (items.isEmpty || x == 1) = false) (c2 : (decide (x ≤ 0) || items.isEmpty) = true) :
    Meets (Builtin.«tuple.__mul__» ⟨[.ref l, .int x u], []⟩) (fun _ R s => s.heap.get? l = some { cls := .type "tuple", dict := dd, data := .seq items n, slots := sl } ∧
      R (.ok (.ret (Value.ref s.heap.objs.size))) { s with heap := s.heap.push { cls := Value.type "tuple", data := Data.seq #[] }, toks := s.toks }) :=
  .of_wp fun prog w A R s h => by
    obtain ⟨hp, g, d, tk, os⟩ := s
    obtain ⟨hl, h⟩ := h
    have f1 := AutoSeq1.idx_int
    wp_walk using wpAny_loadPart' hl
    repeat (first
      | (refine wpAny_ite_false (decide_eq_false (by rw [c0]; exact Bool.false_ne_true)) ?_; wp_walk using wpAny_loadPart' hl)
      | (refine wpAny_ite_false (decide_eq_false (by rw [c1]; exact Bool.false_ne_true)) ?_; wp_walk using wpAny_loadPart' hl)
      | (refine wpAny_ite_true (decide_eq_true c2) ?_; wp_walk using wpAny_loadPart' hl))
    exact ⟨_, rfl, h⟩
def rRepA (K : PySem.W.Frag) : R2 := fun x y H Q => ∃ l k xs, x = .ref l ∧ y = .int k ∧ SqT K H l xs ∧ xs ≠ [] ∧ -1000 ≤ k ∧ k ≤ 1000 ∧ xs.length ≤ 1000 ∧ (k = 1 → Q (.ref l) H) ∧ (k ≠ 1 → ∀ p, H p = none → Q (.ref p) (upd H p (.tup (List.replicate k.toNat xs).flatten)))
section
variable {X : Cx}
theorem op_repA : OpR X (binaryOp .Mult) (rRepA X.K) := by
  intro pins s σ H x y v u Q I rx ry h
  obtain ⟨l, k, xs, rfl, rfl, hT, hne, h1, h2, hz, q1, q⟩ := h
  by_cases h3 : 2 ≤ k
  · exact op_repT pins s σ H _ _ v u Q I rx ry ⟨l, k, xs, rfl, rfl, hT, hne, h3, h2, hz, q (by omega)⟩
  cases rx
  obtain ⟨t, rfl⟩ := ry
  obtain ⟨its, r, ⟨⟨cls, dd, data, sl⟩, ho, hc, n, hd⟩, hs⟩ := I.tuple hT
  simp only at hc hd
  subst hc hd
  have hle : its.length = xs.length := r.length.symm
  have hn : its ≠ [] := fun e => hne (by
    rw [e] at hle
    exact List.eq_nil_of_length_eq_zero hle.symm)
  have hi : its.toArray.isEmpty = false := by
    cases its with
    | nil => exact absurd rfl hn
    | cons a b => rfl
  have c0 : (decide (k < -(2 ^ 63)) || decide (k ≥ 2 ^ 63)) = false := by
    rw [decide_eq_false (by omega), decide_eq_false (by omega)] <;> rfl
  by_cases h4 : k = 1
  · have c1 : (its.toArray.isEmpty || k == 1) = true := by rw [hi, Bool.false_or]; exact beq_iff_eq.mpr h4
    refine wpAny_binaryOp_repeat_ref (T := "tuple") (U := "int") (by decide) ⟨_, ho, rfl⟩ (fun s' => typeIs_int s' k t) noFill_tuple_mul F.fills_int_mul F.slot_int_rmul repeat_tuple F.slot_int_index.lookup
      (call_meets F.slot_int_rmul (typeIs_int s k t) F.entry_int_rmul (F.args_int_rmul_2 _ _) (int_rmul_tuple k t l its.toArray n dd sl)
        ⟨ho, rfl, ⟨_, ho, rfl⟩, call_meets F.slot_tuple_mul ⟨_, ho, rfl⟩ F.entry_tuple_mul (F.args_tuple_mul_2 _ _) (tuple_mul1 l its.toArray n dd sl k t c0 c1) ⟨ho, ?_⟩⟩)
    exact ⟨.ref l, H, I, rfl, q1 h4⟩
  · have c1 : (its.toArray.isEmpty || k == 1) = false := by
      rw [hi, Bool.false_or]
      exact beq_eq_false_iff_ne.mpr h4
    have c2 : (decide (k ≤ 0) || its.toArray.isEmpty) = true := by
      rw [hi, Bool.or_false]
      exact decide_eq_true (by omega)
    have hk0 : k.toNat = 0 := by omega
    refine wpAny_binaryOp_repeat_ref (T := "tuple") (U := "int") (by decide) ⟨_, ho, rfl⟩ (fun s' => typeIs_int s' k t) noFill_tuple_mul F.fills_int_mul F.slot_int_rmul repeat_tuple F.slot_int_index.lookup
      (call_meets F.slot_int_rmul (typeIs_int s k t) F.entry_int_rmul (F.args_int_rmul_2 _ _) (int_rmul_tuple k t l its.toArray n dd sl)
        ⟨ho, rfl, ⟨_, ho, rfl⟩, call_meets F.slot_tuple_mul ⟨_, ho, rfl⟩ F.entry_tuple_mul (F.args_tuple_mul_2 _ _) (tuple_mul0 l its.toArray n dd sl k t c0 c1 c2) ⟨ho, ?_⟩⟩)
    have qq := q h4
    rw [hk0] at qq
    refine ⟨.ref s.heap.objs.size, _, I.laid (t' := s.toks) (o := .tup []) (fun b ob q => Heap.get?_push_of_some _ q) (Nat.le_refl _) ?_, rfl, qq _ (I.hok.fresh (Nat.le_refl _))⟩
    exact ⟨Nat.zero_le _, _, .nil, IsTup.new _ _⟩
end
end L2
namespace Dl
open PySem PySem.Spec PyProof.Rows L2
def rTimesA : R2D := fun d e k => match d, e with
  | .tup a, .int n => a ≠ [] ∧ -1000 ≤ n ∧ n ≤ 1000 ∧ a.length ≤ 1000 ∧ k (.c (.tup (List.replicate n.toNat a).flatten))
  | _, _ => False
theorem dop_repA {K : PySem.W.Frag} : DOp K (rRepA K) rTimesA := by
  intro J B H d e k x y Q h s w tx ty q
  unfold rTimesA at h
  cases d <;> try exact h.elim
  rename_i ds
  cases e <;> try exact h.elim
  rename_i n
  obtain ⟨h0, h1, h2, h3, h⟩ := h
  obtain ⟨a, xs, rfl, aB, aH, ra⟩ := tx.tup s
  cases ty.int
  have l1 := ra.len
  refine ⟨a, _, xs, rfl, rfl, aH, fun e => h0 (List.eq_nil_of_length_eq_zero (by rw [← l1, e]; rfl)), h1, h2, by omega, fun e1 => ?_, fun _ p hp => fin_tup hp h s w (ra.rep _) q⟩
  subst e1
  have h : k (.c (.tup ds)) := by simpa using h
  refine fin_c h s w ?_ q
  rw [Rep]
  exact ⟨a, xs, rfl, aB, ra⟩
section
variable {X : Cx} {a b : Expr} {pos : Pos}
theorem de_mulA {wa wb : DE} (ha : De X a wa) (hb : De X b wb) : De X (.BinOp a .Mult b pos) (wOp rTimesA wa wb) := de_op op_repA dop_repA ha hb
end
end Dl
namespace Dl
open PySem PySem.Spec PyProof.Rows L2
/-! {k: True for .. in ..}, the key being a part of the item -/
section
variable {X : Cx} {e a b c tg iter elt kx : Expr} {es ifs : List Expr} {pos p : Pos}
def wDcK (i : Nat) (wi : DIC) (vs : List Nat) (wg : DG) (wk : DE) : DS := fun R δ => wi δ fun ds => ∃ ks : List Int, ks.length = ds.length ∧ (∀ (j : Nat) d n, ds[j]? = some d → ks[j]? = some n → wg d (wipeD δ vs) fun δ2 => wk δ2 fun y => y = .c (.int n)) ∧ ks.length ≤ 1000 ∧ noD δ = true ∧
  R.nx (δ.set i (.ownd (nubD ks) (List.replicate (nubD ks).length (.bl true))))
theorem ds_dcK {i k1 : Nat} {x : Str} {pos' spos pt : Pos} {scope : Scope} {own : List (Str × Nat)} {wi : DIC} {wg : DG} {wk : DE} (hc : X.calm = true) (hN : X.N.Nodup) (hix : X.N[i]? = some x) (hx : Loc X.env.scope x) (hi : Dic X tg iter wi) (ok : BlkOk X.N X.env.scope scope own)
    (hg : Blk X scope fun Y => Dgv Y (own.map (·.2)) tg wg) (hk : Blk X scope fun Y => De Y kx wk) (hs : ∀ x, foldedSetIterable iter X.env x = pure x := by intro _; rfl)
    (hsw : swapsWith (.DictComp kx (.Constant (.bool true) k1 pt) [⟨tg, iter, [], 0⟩] scope pos) (some (.Name x pos')) spos.line X.env = pure false := by rfl) (hf : X.fn x = true ∨ X.env.scope.names.lookup x = some .local := by first | exact .inl rfl | exact .inr rfl | assumption) :
    Ds X (.Assign [.Name x pos'] (.DictComp kx (.Constant (.bool true) k1 pt) [⟨tg, iter, [], 0⟩] scope pos) spos) (wDcK i wi (own.map (·.2)) wg wk) := by
  obtain ⟨ti, pi, vi⟩ := hi.ex
  obtain ⟨g, pg, vg⟩ := blk_g hg
  obtain ⟨tk, pk, vk⟩ := blk_e hk
  refine ⟨_, ps_set hN hix hx (pe_dc hc hN pi ok pg (fun _ _ _ _ _ => pts_nil) pk (fun _ _ _ _ _ => pe_bl) hs) hsw hf, ?_⟩
  intro J B0 H0 B H σ δ e R h En F
  refine vi e _ h _ fun ds It B1 H1 h1 g1 w1 it => ?_
  obtain ⟨ks, hkd, hst, hsz, hnd, hend⟩ := h1
  intro L hL
  have e1 := e.step g1 w1
  have nj : J.a ≠ some L := w1.no hL
  have hB1 : B1 L = none := e1.bh.free hL
  let W : Nat → Hp → Prop := fun i H' => i ≤ ks.length ∧ ∃ B', Grow J B1 H1 B' H' ∧ Own J B' H' ∧ B' L = none ∧ H' L = some (.dK (mkT (nubD (ks.take i))))
  refine ⟨fun i m H' => m = ks.length - i ∧ W i H', ⟨ks.length, rfl, Nat.zero_le _, B1, .fresh e1.bh hL, w1.fresh hL, hB1, upd_same⟩, ?_⟩
  rintro i m H' ⟨rfl, hi, B', g', w', hB', hH'⟩
  obtain ⟨stop, go⟩ := it g' w' i
  by_cases hlt : i < ks.length
  · have hd : ds[i]? = some (ds[i]'(by omega)) := List.getElem?_eq_getElem (by omega)
    obtain ⟨go, yl⟩ := go _ hd
    refine .inr ⟨go, W (i + 1), fun H'' h => ⟨ks.length - (i + 1), by omega, rfl, h⟩, fun x H2 y => ?_⟩
    obtain ⟨B2, g2, w2, rx⟩ := yl x H2 y
    have G2 := g'.trans g2
    have e2 := (e1.step G2 w2).wiped (own.map (·.2))
    have hB2 : B2 L = none := (g2.fr L (by rw [hH']; simp)).trans hB'
    have hH2 : H2 L = some (.dK (mkT (nubD (ks.take i)))) := g2.hh L _ nj hH'
    refine vg e2 _ x rx _ (hst i _ _ hd (List.getElem?_eq_getElem hlt)) _ fun σ3 δ3 h3 e3 ew => ?_
    refine ⟨ew.trans wipe_wipe, ?_⟩
    refine cast (if_pos (e := W (i + 1) H2) (rfl : (true : Bool) = true)).symm ?_
    refine vk e3 _ h3 _ fun y v B5 H5 h5 g5 w5 r5 => ?_
    subst h5
    have r5 : Rep X.K B5 (.int ks[i]) v := r5
    rw [Rep] at r5
    subst r5
    have G6 := G2.trans g5
    have hB6 : B5 L = none := (g5.fr L (by rw [hH2]; simp)).trans hB2
    have hH5 : H5 L = some (.dK (mkT (nubD (ks.take i)))) := g5.hh L _ nj hH2
    have htk : nubD (ks.take (i + 1)) = nubA (nubD (ks.take i)) ks[i] := by
      rw [List.take_add_one, List.getElem?_eq_getElem hlt]
      exact nubD_snoc _ _
    refine ⟨_, .inl ks[i], rfl, hH5, ?_, hlt, B5, ?_, ?_, hB6, ?_⟩
    · rw [mkT_map, List.length_map]
      have := nubD_len (ks.take i)
      rw [List.length_take] at this
      exact Nat.lt_of_lt_of_le (show (nubD (ks.take i)).length < 100001 by omega) (by decide)
    · refine ⟨G6.bb, fun b o eb => ?_, G6.kp.put hL hH5 pl0_dK, fun b eb => ?_, G6.fr⟩
      · rw [upd_ne (fun z => by rw [z, hB6] at eb; cases eb)]; exact G6.bh b o eb
      · by_cases hb : b = L
        · rw [hb, upd_same]; simp
        · rw [upd_ne hb]; exact G6.ne b eb
    · refine ⟨fun b z => ?_, tabs_put hH5 pl0_dK w5.tb, w5.nt⟩
      obtain ⟨h1, l, m, c, h0, h2⟩ := w5.dc b z
      exact ⟨h1, l, m, c, h0, by rw [upd_ne (fun q => nj (by rw [z, q]))]; exact h2⟩
    · rw [upd_same, putK_T, ← htk]
  · have ei : i = ks.length := by omega
    subst ei
    have n0 : H0 L = none := Classical.byContradiction fun z => g1.ne L (e.gr.ne L z) hL
    rw [List.take_length] at hH'
    have e3 := e1.step g' w'
    refine .inl ⟨stop (by omega), F.nx hend (e3.putD n0 hB' hH' (by simp) (reps_true _) i)⟩
end
end Dl
/-! xs.index(y, start) -/
namespace L2
open PySem PySem.Spec PyProof.Rows PySem.SeqAt
open AutoSeq1 (wpAny_loadPart')
open MeetsSeq MeetsSeq2 MeetsSeq3 SeqRoads2
theorem list_indexFrom (l : Addr) (items : Array Value) (n : Nat) (dd : Option Addr) (sl : Array (Option Value)) (x : Value) (e : Value → Bool) (i j : Nat) (u : Tok) (hj : j < items.size) (hsmall : (j : Int) < 2 ^ 63 - 1) (hij : i ≤ j)
    (hit : e items[j] = true) (hno : ∀ m (hm : m < items.size), i ≤ m → m < j → e items[m] = false) :
    Meets (Builtin.«list.index» ⟨[.ref l, x, .int (i : Int) u], []⟩)
      (fun A R s => s.heap.get? l = some { cls := .type "list", dict := dd, data := .seq items n, slots := sl } ∧ (∀ y, y ∈ items → EqAt A.in1 s y x (e y)) ∧ R (.ok (.ret (.int j s.toks))) { s with toks := s.toks + 1 }) := by
  intro prog w A R s h
  obtain ⟨hp, g, d, tk, os⟩ := s; obtain ⟨hl, he, h⟩ := h
  have f1 := AutoSeq1.idx_int
  wp_walk using wpAny_loadPart' hl
  have a1 : ((fun i : Int => if i < 0 then max 0 (i + (items.size : Int)) else i) ((some (i : Int)).getD 0)) = ((i : Nat) : Int) := by simp; omega
  have a2 : ((fun i : Int => if i < 0 then max 0 (i + (items.size : Int)) else i) ((none : Option Int).getD (2 ^ 63 - 1))) = 2 ^ 63 - 1 := by simp
  rw [a1, a2]
  exact ⟨plainId_quiet plain_index_loop _, codeAny_builtin entry_index_loop (by
    rw [Around.under_plainId plain_index_loop _]
    exact index_loopAt l items n dd sl x e (2 ^ 63 - 1) j hj hsmall hit _ i rfl hij (fun m hm h1 h2 => hno m hm h1 h2) prog w A R _ ⟨hl, he, h⟩)⟩
section
variable {X : Cx}
def rIndexF (K : PySem.W.Frag) : V → List V → Hp → VK → Prop := fun x xs H Q => ∃ (a : Addr) (ys : List V) (y : V) (i j : Nat) (z : V), x = V.ref a ∧ xs = [y, .int (i : Int)] ∧ SqL K H a ys ∧ flatV y = true ∧ ys.all flatV = true ∧ i ≤ j ∧ ys[j]? = some z ∧ eqV z y = true ∧
  (∀ (m : Nat) (z' : V), i ≤ m → m < j → ys[m]? = some z' → eqV z' y = false) ∧ Q (.int (j : Nat)) H
theorem mt_indexF : MtR X "list.index" (rIndexF X.K) := by
  intro pins s σ H x xs v us Q I rx rxs h
  obtain ⟨a, ys, y, i, j, z, rfl, rfl, hs, fy, fys, hij, hz, hzj, hno, q⟩ := h
  cases rx
  cases rxs with
  | cons ry rt =>
    rename_i uy ut
    cases rt with
    | cons ri rt =>
      rename_i ui ut
      cases rt
      obtain ⟨tk, rfl⟩ := ri
      obtain ⟨its, rv, ⟨⟨cls, dd, data, sl⟩, n, ho, hc, hdn, hd⟩, hlen⟩ := I.list hs
      simp only at hc hd
      subst hc hd
      obtain ⟨u, hu, ru⟩ := rv.get hz
      obtain ⟨hjl, hje⟩ := List.getElem?_eq_some_iff.mp hu
      have hvl := rv.length
      have hj : j < its.toArray.size := by simpa using hjl
      have hsl := sizeLine_eq
      refine call_meets PySem.F.slot_list_index ⟨_, ho, rfl⟩ PySem.F.entry_list_index (PySem.F.args_list_index_3 _ _ _)
        (list_indexFrom a its.toArray n dd sl uy (eqU y) i j tk hj (by omega) hij ?_ ?_) ⟨ho, fun u' hu' => mem_eqAt ry fy rv fys u' (by simpa using hu'), ?_⟩
      · have e1 : its.toArray[j] = u := by simpa using hje
        rw [e1, eqU_of ru (flat_at fys hz)]
        exact hzj
      · intro m hm him hmj
        have hml : m < its.length := by simpa using hm
        have hmy : m < ys.length := by omega
        have hy' : ys[m]? = some ys[m] := List.getElem?_eq_getElem hmy
        obtain ⟨u2, hu2, ru2⟩ := rv.get hy'
        obtain ⟨_, hme⟩ := List.getElem?_eq_some_iff.mp hu2
        have e1 : its.toArray[m] = u2 := by simpa using hme
        rw [e1, eqU_of ru2 (flat_at fys hy')]
        exact hno m _ him hmj hy'
      · exact ⟨.int (j : Nat), H, I.tok _, ⟨_, rfl⟩, q⟩
end
end L2
namespace Dl
open PySem PySem.Spec PyProof.Rows L2
theorem reps_bls {K : PySem.W.Frag} {B : Hp} : ∀ {bs : List Bool} {vs : List V}, Reps K B (bs.map .bl) vs → vs = bs.map V.bl
  | [], _, h => by simpa [Reps] using h
  | b :: bs, _, h => by
    rw [List.map_cons, Reps] at h; obtain ⟨x, r, rfl, h1, h2⟩ := h
    rw [Rep] at h1; subst h1; rw [reps_bls h2]; rfl
theorem flat_bls (bs : List Bool) : (bs.map V.bl).all flatV = true := by
  rw [List.all_eq_true]
  intro x hx
  obtain ⟨b, _, rfl⟩ := List.mem_map.mp hx
  rfl
section
variable {X : Cx} {a b c : Expr} {pos : Pos}
/-- marks.index(True), the marks being a list of truth values -/
def wIndex (wa : DE) : DE := fun δ k => wa δ fun x => ∃ bs : List Bool, rd δ x = some (.lst (bs.map .bl)) ∧ ∃ j : Nat, bs[j]? = some true ∧ (∀ m, m < j → bs[m]? = some false) ∧ k (.c (.int (j : Int)))
/-- .. from a place on -/
def wIndexF (wa wb : DE) : DE := fun δ k => wa δ fun x => ∃ bs : List Bool, rd δ x = some (.lst (bs.map .bl)) ∧ wb δ fun y => ∃ i j : Nat, y = .c (.int (i : Int)) ∧ i ≤ j ∧ bs[j]? = some true ∧ (∀ m, i ≤ m → m < j → bs[m]? = some false) ∧ k (.c (.int (j : Int)))
theorem eqV_bl (b c : Bool) : eqV (.bl b) (.bl c) = (b == c) := by cases b <;> cases c <;> rfl
theorem de_index {wa : DE} {apos cpos tpos : Pos} {jj : Nat} (ha : De X a wa)
    (hbase : attributeBase a "index" X.env (eval a X.env) = eval a X.env := by rfl)
    (hfew : ((backTo cpos (starEach [.Constant (.bool true) jj tpos] X.env)).all (fun x => !x.1) && (backToKw cpos (keywordEach [] X.env)).all (fun x => x.1.isSome)
      && decide ([Expr.Constant (.bool true) jj tpos].length + ([] : List Keyword).length + (if ([] : List Keyword).isEmpty then 0 else 1) < 30)) = true := by rfl)
    (hline : (apos.endLine == cpos.line) = true := by rfl) (hs : starEach [.Constant (.bool true) jj tpos] X.env = (false, eval (.Constant (.bool true) jj tpos) X.env) :: starEach [] X.env := by rfl) (hplain : (backTo cpos (starEach [] X.env)).any (·.1) = false := by rfl) :
    De X (.Call (.Attribute a "index" apos) [.Constant (.bool true) jj tpos] [] cpos) (wIndex wa) := by
  obtain ⟨ta, pa, va⟩ := ha.ex
  refine ⟨_, pe_bm PySem.F.plainAttrs_list PySem.F.slot_list_index PySem.F.type_list_index mt_index pa (pa_cons pe_bl pa_nil hs) hbase hfew hline hs hplain, ?_⟩
  intro J B0 H0 B H σ δ e k h Q q
  refine va e _ h _ fun x v B1 H1 h1 g1 w1 r1 => ?_
  have e1 := e.step g1 w1
  obtain ⟨bs, hr, j, hj, hno, hk⟩ := h1
  have tx := r1.toT e1 e.nod hr
  obtain ⟨l, xs, rfl, hH, rr⟩ := tx.lst e1.bh
  have := reps_bls rr
  subst this
  refine ⟨.inl ⟨rfl, _, SqL.of hH⟩, ⟨l, _, .bl true, j, .bl true, rfl, rfl, SqL.of hH, rfl, flat_bls bs, by rw [List.getElem?_map, hj]; rfl, by rw [eqV_bl]; rfl, fun m z' hm hz => ?_, ?_⟩⟩
  · rw [List.getElem?_map, hno m hm] at hz
    cases hz
    rw [eqV_bl]; rfl
  · exact q (.c (.int (j : Int))) _ B1 H1 hk g1 w1 (by show Rep _ _ _ _; rw [Rep])
theorem de_indexF {wa wb : DE} {apos cpos tpos : Pos} {jj : Nat} (ha : De X a wa) (hb : De X b wb)
    (hbase : attributeBase a "index" X.env (eval a X.env) = eval a X.env := by rfl)
    (hfew : ((backTo cpos (starEach [.Constant (.bool true) jj tpos, b] X.env)).all (fun x => !x.1) && (backToKw cpos (keywordEach [] X.env)).all (fun x => x.1.isSome)
      && decide ([Expr.Constant (.bool true) jj tpos, b].length + ([] : List Keyword).length + (if ([] : List Keyword).isEmpty then 0 else 1) < 30)) = true := by rfl)
    (hline : (apos.endLine == cpos.line) = true := by rfl) (hs : starEach [.Constant (.bool true) jj tpos, b] X.env = (false, eval (.Constant (.bool true) jj tpos) X.env) :: starEach [b] X.env := by rfl)
    (hs2 : starEach [b] X.env = (false, eval b X.env) :: starEach [] X.env := by rfl) (hplain : (backTo cpos (starEach [b] X.env)).any (·.1) = false := by rfl) :
    De X (.Call (.Attribute a "index" apos) [.Constant (.bool true) jj tpos, b] [] cpos) (wIndexF wa wb) := by
  obtain ⟨ta, pa, va⟩ := ha.ex
  obtain ⟨tb, pb, vb⟩ := hb.ex
  refine ⟨_, pe_bm PySem.F.plainAttrs_list PySem.F.slot_list_index PySem.F.type_list_index mt_indexF pa (pa_cons pe_bl (pa_cons pb pa_nil hs2) hs) hbase hfew hline hs hplain, ?_⟩
  intro J B0 H0 B H σ δ e k h Q q
  refine va e _ h _ fun x v B1 H1 h1 g1 w1 r1 => ?_
  have e1 := e.step g1 w1
  obtain ⟨bs, hr, h1⟩ := h1
  have tx := r1.toT e1 e.nod hr
  obtain ⟨l, xs, rfl, hH, rr⟩ := tx.lst e1.bh
  refine ⟨.inl ⟨rfl, _, SqL.of hH⟩, vb e1 _ h1 _ fun y u B2 H2 h2 g2 w2 r2 => ?_⟩
  obtain ⟨i, j, rfl, hij, hj, hno, hk⟩ := h2
  cases rv_int r2
  have e2 := e1.step g2 w2
  obtain ⟨l', xs', el, hH2, rr2⟩ := (tx.step g2).lst e2.bh
  cases el
  have := reps_bls rr2
  subst this
  refine ⟨l, _, .bl true, i, j, .bl true, rfl, rfl, SqL.of hH2, rfl, flat_bls bs, hij, by rw [List.getElem?_map, hj]; rfl, by rw [eqV_bl]; rfl, fun m z' him hm hz => ?_, ?_⟩
  · rw [List.getElem?_map, hno m him hm] at hz
    cases hz
    rw [eqV_bl]; rfl
  · exact q (.c (.int (j : Int))) _ B2 H2 hk (g1.trans g2) w2 (by show Rep _ _ _ _; rw [Rep])
/-- the least of a list of ints -/
def cMinL : RcD := fun ds k => match ds with
  | [.lst xs] => ∃ ns : List Int, xs = ns.map .int ∧ ns ≠ [] ∧ ∀ m, m ∈ ns → (∀ y ∈ ns, m ≤ y) → k (.c (.int m))
  | _ => False
theorem dc_minL {K : PySem.W.Frag} : DCall K (rMin K) cMinL := by
  intro J B H ds k vs Q h s w t q
  unfold cMinL at h
  split at h
  · obtain ⟨ns, rfl, hne, h⟩ := h
    obtain ⟨v, rfl, t1⟩ := ts1 t
    obtain ⟨a, xs, rfl, aH, ra⟩ := t1.lst s
    have : xs = ns.map V.int := reps_ints_eq ra
    subst this
    exact ⟨a, ns, rfl, SqL.of aH, List.length_pos_iff.mpr hne, fun m h1 h2 => fin_c (h m h1 h2) s w (by rw [Rep]) q⟩
  · exact h.elim
/-- tuple(range(n)) -/
def wTupR1 (wa : DE) : DE := fun δ k => wa δ fun x => ∃ j, x = .c (.int j) ∧ small62 j ∧ k (.c (.tup (rangeD 0 j.toNat)))
theorem de_tupR1 {wa : DE} {p q pos pos' : Pos} (hc : X.calm = true) (hg : Gl X "tuple") (hm : X.mg "tuple" = none) (hg2 : Gl X "range") (hm2 : X.mg "range" = none) (ha : De X a wa)
    (na : starEach [a] X.env = (false, eval a X.env) :: starEach [] X.env := by rfl) (nc : starEach [.Call (.Name "range" p) [a] [] pos] X.env = (false, eval (.Call (.Name "range" p) [a] [] pos) X.env) :: starEach [] X.env := by rfl) :
    De X (.Call (.Name "tuple" q) [.Call (.Name "range" p) [a] [] pos] [] pos') (wTupR1 wa) := by
  obtain ⟨ta, pa, va⟩ := ha.ex
  refine ⟨_, pe_tupRg hc hg hm (prg_1 hg2 hm2 pa na) nc, ?_⟩
  intro J B0 H0 B H σ δ e k h Q q
  refine va e _ h _ fun x v B1 H1 h1 g1 w1 r1 => ?_
  obtain ⟨j, rfl, hj, h1⟩ := h1
  cases rv_int r1
  have rr : Reps X.K B1 (rangeD 0 j.toNat) (rgV 0 j) := by
    have := reps_rg (K := X.K) (B := B1) (i := 0) (j := j)
    rw [Int.sub_zero] at this
    exact this
  exact ⟨j, rfl, rgOk_of ⟨by omega, by omega⟩ hj, fun p hp => fin_tup hp h1 (e.step g1 w1).bh w1 rr fun z v B' H' kz g w r => q z v B' H' kz (g1.trans g) w ((r σ δ).back g1.ne)⟩
/-- a def whose last parameter is left out: it is an int -/
def wCallD (n : Nat) (c : Int) (pre : List S → Prop) (post : List S → DV → Prop) (wa : DA) : DE := fun δ k => wa δ fun xs => ∃ ss, toS xs = some ss ∧ ss.length + 1 = n ∧ pre (ss ++ [.val (.int c)]) ∧ ∀ r, post (ss ++ [.val (.int c)]) r → r ≠ .j ∧ k r
theorem argsOk_snoc {K : PySem.W.Frag} {J : JT} {B : Hp} {c : Int} : ∀ {ss : List S} {vs : List V}, ArgsOk K J B ss vs → ArgsOk K J B (ss ++ [.val (.int c)]) (vs ++ [.int c])
  | [], vs, h => by
    rw [show vs = [] from h]
    exact ⟨.int c, [], rfl, by show Rep _ _ _ _; rw [Rep], rfl⟩
  | s :: ss, vs, h => by
    obtain ⟨v, r, rfl, h1, h2⟩ := h
    exact ⟨v, r ++ [.int c], rfl, h1, argsOk_snoc h2⟩
theorem de_callD {CX : CXT} {k n : Nat} {cI : Int} {f : Addr} {fd : FuncData} {ps : List Str} {es : List Expr} {pre : List S → Prop} {post : List S → DV → Prop} {x : Str} {p : Pos} {wa : DA} {E : XK} {e : Expr}
    (F : FnOk X.prog X.w X.K X.mg X.base CX k f fd ps (SpD X.K n pre post)) (hr : Room k X.A) (hg : Gl X x) (hm : X.mg x = some (.ref f)) (hk : PySem.W.keepIn X.K (.ref f) = true) (hb : ∃ ds, Vals [.int cI] ds ∧ Binds X.K fd ps ds) (hx : Passes CX X E)
    (ha : Da X (e :: es) wa) (hdb : (x == ("__debug__" : Str)) = false := by decide) (he : starEach (e :: es) X.env = (false, eval e X.env) :: starEach es X.env := by rfl) (hpl : (backTo pos (starEach es X.env)).any (·.1) = false := by rfl) :
    De X (.Call (.Name x p) (e :: es) [] pos) (wCallD n cI pre post wa) := by
  obtain ⟨ta, pa, va⟩ := ha.ex
  obtain ⟨ds, hv, hb⟩ := hb
  refine ⟨_, pe_call F hr hg hm hk hb hv hx pa hdb he hpl, ?_⟩
  intro J B0 H0 B H σ δ e k h Q q
  refine va e _ h _ fun xs vs B1 H1 h1 g1 w1 r1 => ?_
  obtain ⟨ss, hs, hn, hp, h1⟩ := h1
  obtain ⟨B2, g2, w2, _, r2, _⟩ := r1.args e.nod g1 w1 hs
  show SpD _ _ _ _ (vs ++ [.int cI]) H1 Q _
  exact ⟨J, B2, ss ++ [.val (.int cI)], by simp; omega, argsOk_snoc r2, ⟨g2.bh, e.jl.2⟩, w2, hp, fun r v B' H' po g w rr => q r v B' H' (h1 r po).2 (g2.trans g) w ((rv_any rr (h1 r po).1 σ δ).back g2.ne)⟩
/-- xs[::-1] of a list -/
def wRevL (wa : DE) : DE := fun δ k => wa δ fun x => ∃ ds, rd δ x = some (.lst ds) ∧ k (.f ds.reverse)
theorem de_revL {wa : DE} {k : Nat} {p1 p2 p3 : Pos} (ha : De X a wa) : De X (.Subscript a (.Slice none none (some (.UnaryOp .USub (.Constant (.int 1) k p1) p2)) p3) pos) (wRevL wa) := by
  obtain ⟨ta, pa, va⟩ := ha.ex
  refine ⟨_, pe_revL pa, ?_⟩
  intro J B0 H0 B H σ δ e k h Q q
  refine va e _ h _ fun x v B1 H1 h1 g1 w1 r1 => ?_
  obtain ⟨ds, hr, h1⟩ := h1
  have e1 := e.step g1 w1
  obtain ⟨l, xs, rfl, hH, rr⟩ := (r1.toT e1 e.nod hr).lst e1.bh
  exact ⟨l, xs, rfl, SqL.of hH, fun p hp => fin_lst hp h1 e1.bh w1 rr.reverse fun z v B' H' kz g w r => q z v B' H' kz (g1.trans g) w ((r σ δ).back g1.ne)⟩
/-- an own list is frozen, if it is one still -/
def wFrzM (i : Nat) (w : DS) : DS := fun R δ => (∃ ds, δ[i]? = some (.own ds) ∧ w R (δ.set i (.val (.lst ds)))) ∨ w R δ
theorem ds_frzM {i : Nat} {st : Stmt} {w : DS} (h : Ds X st w) : Ds X st (wFrzM i w) := by
  obtain ⟨t, p, v⟩ := h.ex
  refine ⟨t, p, ?_⟩
  intro J B0 H0 B H σ δ e R h En F
  rcases h with ⟨ds, hd, h⟩ | h
  · obtain ⟨B2, e2, _⟩ := e.freeze hd
    exact v e2 R h En F
  · exact v e R h En F
end
end Dl
/-! sorted(set(xs)) of a tuple of ints -/
namespace Dl
open PySem PySem.Spec PyProof.Rows L2
section
variable {P : Program} {w : World} {A : Around} {E : Value → Shared → Prop} {s : Shared}
theorem fill_tup {l : Addr} {its : Array Value} (ns : List Int) (hh : A.handled = none) (at_ : s.heap.IsTuple l its) (are : IntsAre its.toList ns) (few : ns.length + 1 < scanBound) :
    codeAny (model P w) A (.call (.builtin "set.__init__") ⟨[.ref s.heap.objs.size, .ref l], []⟩) (Filled w s ns E) { s with heap := s.heap.push (eset w) } := by
  have sizes : its.size = ns.length := by rw [← Array.length_toList]; exact IntsAre.length are
  have atD : (s.heap.push (eset w)).get? s.heap.objs.size = some (eset w) := Heap.get?_push_size _ rfl
  have tyD : Shared.TypeIs { s with heap := s.heap.push (eset w) } (.ref s.heap.objs.size) "set" := ⟨_, atD, rfl⟩
  have lows : l < s.heap.objs.size := by obtain ⟨o, e, _⟩ := at_; exact Heap.lt_size e
  have top : (s.heap.push (eset w)).objs.size = s.heap.objs.size + 1 := Heap.size_push ..
  refine codeAny_call_builtin F.called_set.init.plain F.entry_set_init (check_set_init_1 tyD ?_)
  have lists : (s.heap.push (eset w)).IsTuple l its := at_.push _
  obtain ⟨⟨oc, od, odt, osl⟩, e1, e2, en, e3⟩ := lists
  simp only at e2 e3
  subst e2 e3
  have lists : (s.heap.push (eset w)).IsTuple l its := ⟨_, e1, rfl, en, rfl⟩
  have f1 := F.sub_tuple_set
  have f2 := F.sub_tuple_frozenset
  have f3 : (Value.type "tuple" == Value.type "dict") = false := by decide
  unfold Builtin.«set.__init__» noKeywords Builtin.Frozenset.updateFrom
  generalize hIter : pyIter = It
  wp_walk
  subst hIter
  refine wpAny_pyIter_tuple lists (wpAny_bind (wpAny_runValue ?_))
  have apart : l ≠ (s.heap.push (eset w)).objs.size := by rw [top]; exact Nat.ne_of_lt (Nat.lt_succ_of_lt lows)
  refine set_update_ints ((Walks.tuple (by simp [hh]) _ l apart its).toS) s.heap.objs.size ?_ ns sizes few ?_ its.size 0 _ (by omega) (Nat.zero_le _) ⟨⟨_, Heap.get?_push_size _ rfl, rfl, rfl⟩, lists.push _⟩ ?_ ?_
  · rw [top]
    simp only [List.mem_cons, List.not_mem_nil, or_false, not_or]
    exact ⟨Nat.ne_of_lt (Nat.lt_succ_self _), Nat.ne_of_gt lows⟩
  · intro i v hv
    obtain ⟨t, e⟩ := PyProof.Rows.IntsAre.int_at are i v (by rw [Array.getElem?_toList]; exact hv)
    have hi : i < ns.length := by rw [← sizes]; exact (Array.getElem?_eq_some_iff.mp hv).1
    exact ⟨ns[i], t, List.getElem?_eq_getElem hi, by rw [e, List.getD_eq_getElem?_getD, List.getElem?_eq_getElem hi, Option.getD_some]⟩
  · exact ⟨0, Nat.zero_le _, setR_new_at (Heap.get?_push_of_some _ atD)⟩
  · intro s' c moved hc full
    obtain ⟨g, gs, dr, tk, os⟩ := s'
    obtain rfl : gs = s.gens := moved.gens
    obtain rfl : dr = s.drawn := moved.drawn
    obtain rfl : os = s.os := moved.os
    show wpAny _ _ _ _ _ _
    refine wpAny_pure ?_
    show wpAny _ _ (PySem.ret Value.none) _ _ _
    refine wpAny_pure ⟨rfl, g, tk, c, rfl, full, by omega, fun b o e => ?_⟩
    have hb : b < s.heap.objs.size := Heap.lt_size e
    refine moved.heap b o ?_ (Heap.get?_push_of_some _ (Heap.get?_push_of_some _ e))
    simp only [List.mem_cons, List.not_mem_nil, or_false, not_or]
    exact ⟨Nat.ne_of_lt hb, by rw [top]; exact Nat.ne_of_lt (Nat.lt_succ_of_lt hb)⟩
theorem set_of_tup {l : Addr} {its : Array Value} (ns : List Int) {Q : Value → Shared → Prop} (hh : A.handled = none) (at_ : s.heap.IsTuple l its) (are : IntsAre its.toList ns) (few : ns.length + 1 < scanBound)
    (q : ∀ (g : Heap) (tk c : Nat), SetR w g s.heap.objs.size (fun j => decide (j ∈ ns)) c → c ≤ ns.length → (∀ b o, s.heap.get? b = some o → g.get? b = some o) → Q (.ref s.heap.objs.size) { s with heap := g, toks := tk }) :
    wpAny (model P w) A (call (.type "set") [.ref l]) Q E s := by
  have T := F.called_set
  obtain ⟨_, _, m0⟩ := T.mro
  have m1 := T.made; have m2 := T.sub; have m3 := T.notType; have m4 := T.canCreate; have m5 := F.typeCall_set_1 (.ref l)
  refine wpAny_call (codeAny_of_tree ?_)
  show wpAny _ _ (callAny (.type "set") _) _ _ _
  refine wpAny_pure ⟨Code.quiet_builtin _ (by decide +kernel), codeAny_builtin F.entry_type_call ?_⟩
  rw [Around.under_plain (weight_type_call_type _ [.ref l] []) rfl]
  repeat (any_goals (first | assumption | wp_step))
  refine codeAny_mono (code_set_led1 (.ref l) (E := E) (Q₁ := fun v s₁ => v = .ref s.heap.objs.size ∧ s₁ = { s with heap := s.heap.push (eset w) }) ⟨rfl, rfl⟩) fun r s₁ hr => ?_
  rcases r with e | fl
  · exact hr
  cases fl with
  | ret v =>
    obtain ⟨rfl, rfl⟩ := hr
    have ty : Shared.TypeIs { s with heap := s.heap.push (eset w) } (.ref s.heap.objs.size) "set" := ⟨_, Heap.get?_push_size _ rfl, rfl⟩
    have i1 := T.init.lookup; have i2 := T.init.bind (.ref s.heap.objs.size)
    repeat (any_goals (first | assumption | wp_step))
    refine codeAny_mono (fill_tup (E := E) ns (by simp [hh]) at_ are few) fun r s₂ hr => ?_
    rcases r with e | fl
    · exact hr
    cases fl with
    | ret v =>
      obtain ⟨rfl, g, tk, c, rfl, full, hc, kept⟩ := hr
      repeat (any_goals (first | assumption | wp_step))
      exact q _ _ _ full hc kept
    | _ => exact hr.elim
  | _ => exact hr.elim
end
section
variable {X : Cx}
/-- set(xs) by values: xs a tuple of ints -/
def rSetT (K : PySem.W.Frag) (w : World) : List V → Hp → VK → Prop := fun vs H Q => ∃ (l : Addr) (ns : List Int), vs = [V.ref l] ∧ SqT K H l (ns.map V.int) ∧ ns.length ≤ 4000 ∧
  ∀ p c, H p = none → (∀ L : List Int, (∀ x ∈ ns, x ∈ L) → c ≤ L.length) → Q (.ref p) (upd H p (SetO w p (fun j => decide (j ∈ ns)) c))
theorem cr_setT (calm : X.calm = true) : CallR X (.type "set") (rSetT X.K X.w) := by
  intro pins s σ H vs us Q iv r h
  obtain ⟨l, ns, rfl, hq, few, q⟩ := h
  obtain ⟨its, rv, pl, hz⟩ := iv.tuple hq
  rw [Vals.ref1 r]
  refine set_of_tup ns (iv.ok.hd calm) (show _ from pl) (by simpa using RZ.intsAre_vals rv) (by unfold scanBound; omega) fun g tk c full hc kept => ?_
  have le : ∀ L : List Int, (∀ x ∈ ns, x ∈ L) → c ≤ L.length := fun L sub => by
    obtain ⟨o, es, ep, t, _, _, _, _, nd, mem, _, _, en, _⟩ := full
    have z := nodup_le (L := L) nd fun x hx => sub x (by simpa using (mem x).mpr hx)
    rw [List.length_map, Array.length_toList, en] at z
    exact z
  exact ⟨.ref _, _, iv.laid (t' := tk) (fun b o e => kept b o e) (Nat.le_refl _) (setO_new full), rfl, q _ c (iv.hok.fresh (Nat.le_refl _)) le⟩
end
section
variable {X : Cx} {e a b c tg iter elt : Expr} {es ifs : List Expr} {pos p : Pos} {st : Stmt} {rest body : List Stmt}
/-- sorted(set(xs)) of a tuple -/
def wSortSetT (wa : DE) : DE := fun δ k => wa δ fun x => ∃ ns L : List Int, rd δ x = some (.tup (ns.map .int)) ∧ ns.length ≤ 4000 ∧ (∀ x ∈ ns, x ∈ L) ∧ L.length < 64 ∧ ∀ out, Asc out ns → k (.f (out.map .int))
theorem de_sortSetT {wa : DE} {p p2 q pos : Pos} (hc : X.calm = true) (hg : Gl X "sorted") (hm : X.mg "sorted" = none) (hg2 : Gl X "set") (hm2 : X.mg "set" = none) (ha : De X a wa)
    (na : starEach [a] X.env = (false, eval a X.env) :: starEach [] X.env := by rfl) (nb : (backTo q (starEach [] X.env)).any (·.1) = false := by rfl)
    (nc : starEach [.Call (.Name "set" p2) [a] [] q] X.env = (false, eval (.Call (.Name "set" p2) [a] [] q) X.env) :: starEach [] X.env := by rfl) (nd : (backTo pos (starEach [] X.env)).any (·.1) = false := by rfl) :
    De X (.Call (.Name "sorted" p) [.Call (.Name "set" p2) [a] [] q] [] pos) (wSortSetT wa) := by
  obtain ⟨ta, pa, va⟩ := ha.ex
  refine ⟨_, pe_callB (cr_sortedSet hc) hg hm (by decide +kernel) (pa_cons (pe_callTy (cr_setT hc) hg2 hm2 boot_set (pa_cons pa pa_nil na) (by decide) (by decide) na nb) pa_nil nc) (by decide) (by decide) nc nd, ?_⟩
  intro J B0 H0 B H σ δ e k h Q q
  refine va e _ h _ fun x v B1 H1 h1 g1 w1 r1 => ?_
  have e1 := e.step g1 w1
  obtain ⟨ns, L, hr, few, sub, hL, h1⟩ := h1
  obtain ⟨l, xs, rfl, _, hH, rr⟩ := (r1.toT e1 e.nod hr).tup e1.bh
  obtain rfl : xs = ns.map V.int := reps_ints_eq rr
  refine ⟨l, ns, rfl, hH, few, fun p c hp hc => ?_⟩
  have le := hc L sub
  refine ⟨p, _, c, rfl, upd_same, by omega, fun out r asc mem _ hr' => ?_⟩
  have e2 := e1.bh
  have nj := w1.no hp
  have f1 : Grow J B1 H1 B1 (upd H1 p (SetO X.w p (fun j => decide (j ∈ ns)) c)) := .fresh e2 hp
  refine fin_lst (K := X.K) hr' (h1 out ⟨asc, fun k => by rw [mem]; simp⟩) f1.bh (w1.fresh hp) (reps_ints out) fun z v B' H' kz g w r => ?_
  exact q z v B' H' kz ((g1.trans f1).trans g) w ((r σ δ).back ((g1.trans f1).ne))
end
end Dl
/-! own errors over any built-in base, whose __init__ stores one field -/
namespace PySem
namespace OwnEx
open PySem.W PySem.Calls PyProof.Rows PySem.HandSPX Builtin Builtin.ObjectAttr
/-- what is known of an own class of errors: its base B, its field f, its __init__ at fI -/
structure OwnC (K : Frag) (B newId initId : String) (bmB : List Value) (C fI : Addr) (f : Str) : Prop where
  FB : ExcBaseFacts B newId initId bmB
  SF : StoreFacts B bmB "object.__setattr__" "object"
  ini : excInitIn K C bmB newId = true
  ov : excOver K C bmB = true
  tk : takerIn K C f = some none
  dct : hasDictIn K C = true
  sa : findIn K (.ref C) "__setattr__" = some (some (.builtin "object.__setattr__"))
  iC : findIn K (.ref C) "__init__" = some (some (.ref fI))
  tI : typeIn K (.ref fI) = some (.type "function")
  kC : keepIn K (.ref C) = true
  exC : subIn K (.ref C) (.type "BaseException") = some true
  tyC : typeIn K (.ref C) = some (.type "type")
section
variable {prog : Program} {w : World} {A : Around} {E : Value → Shared → Prop} {R : Result → Shared → Prop} {hp : Heap} {g : Array GenState} {d : Drawn} {t : Nat} {os : OsState} {K : Frag} {B newId initId : String} {bmB : List Value} {C fI : Addr} {f : Str}
/-- self.f = v, the error having no dict yet -/
theorem own_put (T : OwnC K B newId initId bmB C fI f) {tk : Tok} {v : Value} {x t0 : Addr} (X : K.In hp) (hx : hp.get? x = some (excO C t0))
    (hq : ∀ h' tk' dx, (∀ b o, b ≠ x → hp.get? b = some o → h'.get? b = some o) → hp.objs.size ≤ dx → dx ≠ x → h'.get? x = some { cls := .ref C, dict := some dx, data := .fields #[.ref t0, .none, .none, .none, .bool false, .none] } →
      h'.Ns1 dx (fun y => if y = f then some v else none) → R (.ok (.ret .none)) ⟨h', g, d, tk', os⟩) :
    codeAny (model prog w) A (.call (.builtin "object.__setattr__") ⟨[.ref x, .str f tk, v], []⟩) R ⟨hp, g, d, t, os⟩ := by
  have lt : x < hp.objs.size := Heap.lt_size hx
  have ne : x ≠ hp.objs.size := Nat.ne_of_lt lt
  refine osa_openX (s := ⟨hp, g, d, t, os⟩) (od := none) T.SF X ⟨hx, rfl, rfl, trivial⟩ T.ov T.tk fun b => ?_
  obtain ⟨cd, hc, hcd⟩ := any_some T.dct
  have hx2 : (⟨hp, g, d, t, os⟩ : Shared).heap.get? x = some (excObj C t0 none .none) := hx
  refine wpAny_bind (wpAny_pure (wpAny_bind ?_))
  refine instanceDict_exc hx2 (looks_clsIn X hc) hcd ?_
  show wpAny _ _ (storeInDict hp.objs.size (.str f tk) f v) _ _ _
  refine store_in_new ⟨_, #[], _, (Heap.get?_update_ne _ _ _ _ ne.symm).trans (Heap.get?_push_at rfl rfl), rfl, fun e he => absurd he (by simp), fun _ => rfl⟩ ?_
  intro h' tk' hn' hs
  have hx3 : (hp.push (dictOf [] 0)).get? x = some (excObj C t0 none .none) := Heap.get?_push_of_some _ hx
  refine hq h' tk' hp.objs.size ?_ (Nat.le_refl _) ne.symm ?_ hn'
  · intro b o hb ho
    rw [hs.2 b (Nat.ne_of_lt (Heap.lt_size ho)), Heap.get?_update_ne _ _ _ _ hb]
    exact Heap.get?_push_of_some _ ho
  · rw [hs.2 x ne, Heap.get?_update_self _ hx3 rfl]
end
/-- what is known of an own class of errors by its name -/
structure ErrC (K : Frag) (mg : Str → Option Value) (B newId initId : String) (bmB : List Value) (cn f : Str) : Prop where
  nm : mg cn = some (.ref (He.ga K cn))
  ow : OwnC K B newId initId bmB (He.ga K cn) (He.ma K (He.ga K cn) "__init__") f
  xf : L2.XfC K (He.ga K cn)
  nf : findIn K (.ref (He.ga K cn)) f = some none
  ex : exmOne K (.ref (He.ga K cn)) (.ref (He.ga K cn)) = some true
def errB (K : Frag) (newId : String) (bmB : List Value) (cn f : Str) : Bool :=
  let C := He.ga K cn
  let fI := He.ma K C "__init__"
  excInitIn K C bmB newId && (excOver K C bmB && (decide (takerIn K C f = some none) && (hasDictIn K C && (decide (findIn K (.ref C) "__setattr__" = some (some (.builtin "object.__setattr__"))) && (decide (findIn K (.ref C) "__init__" = some (some (.ref fI))) &&
    (decide (typeIn K (.ref fI) = some (.type "function")) && (keepIn K (.ref C) && (decide (subIn K (.ref C) (.type "BaseException") = some true) && (decide (typeIn K (.ref C) = some (.type "type")) && (L2.xfB K C && (decide (findIn K (.ref C) f = some none) && decide (exmOne K (.ref C) (.ref C) = some true))))))))))))
theorem errB_ok {K : Frag} {mg : Str → Option Value} {cn f : Str} {B newId initId : String} {bmB : List Value} (nm : mg cn = some (.ref (He.ga K cn))) (FB : ExcBaseFacts B newId initId bmB) (SF : StoreFacts B bmB "object.__setattr__" "object") (h : errB K newId bmB cn f = true) : ErrC K mg B newId initId bmB cn f := by
  unfold errB at h
  obtain ⟨h1, h⟩ := Bool.and_eq_true_iff.mp h
  obtain ⟨h2, h⟩ := Bool.and_eq_true_iff.mp h
  obtain ⟨h3, h⟩ := Bool.and_eq_true_iff.mp h
  obtain ⟨h4, h⟩ := Bool.and_eq_true_iff.mp h
  obtain ⟨h5, h⟩ := Bool.and_eq_true_iff.mp h
  obtain ⟨h6, h⟩ := Bool.and_eq_true_iff.mp h
  obtain ⟨h7, h⟩ := Bool.and_eq_true_iff.mp h
  obtain ⟨h8, h⟩ := Bool.and_eq_true_iff.mp h
  obtain ⟨h9, h⟩ := Bool.and_eq_true_iff.mp h
  obtain ⟨h10, h⟩ := Bool.and_eq_true_iff.mp h
  obtain ⟨h11, h⟩ := Bool.and_eq_true_iff.mp h
  obtain ⟨h12, h13⟩ := Bool.and_eq_true_iff.mp h
  exact ⟨nm, ⟨FB, SF, h1, h2, of_decide_eq_true h3, h4, of_decide_eq_true h5, of_decide_eq_true h6, of_decide_eq_true h7, h8, of_decide_eq_true h9, of_decide_eq_true h10⟩, L2.xfB_ok h11, of_decide_eq_true h12, of_decide_eq_true h13⟩
end OwnEx
end PySem
namespace L2
open PySem PySem.Spec PyProof.Rows
theorem one_field {f : Str} {v : V} {v' : Value} (r : RelV v v') (g : Str) : RelO (List.lookup g [(f, v)]) (if g = f then some v' else none) := by
  by_cases hw : g = f
  · subst hw
    rw [if_pos rfl]
    have q : List.lookup g [(g, v)] = some v := by simp [List.lookup]
    rw [q]
    exact r
  · rw [if_neg hw]
    have qw : (g == f) = false := by simpa using hw
    have q2 : List.lookup g [(f, v)] = none := by simp [List.lookup, qw]
    rw [q2]
    trivial
/-- C(e): a new error, its dict new and with the one field f -/
def tMkF (C : Addr) (f : Str) (ta : TA) : St → Hp → XK → Prop := fun σ H Q => ta σ H fun vs H1 => ∃ v, vs = [v] ∧ ∀ dx, H1 dx = none → Q (.ref C) (some dx) (upd H1 dx (.xd [(f, v)]))
end L2
/-! the errors of class TooMany, with their limit -/
namespace PySem
namespace OwnTooMany
open PySem.W PySem.Calls PyProof.Rows PySem.HandSPX Builtin Builtin.ObjectAttr OwnEx
def ags (p1 p2 : Pos) : Arguments := { posonlyargs := [], args := [{ arg := "self", annotation := none, pos := p1 }, { arg := "limit", annotation := none, pos := p2 }], vararg := none, kwonlyargs := [], kw_defaults := [], kwarg := none, defaults := [] }
def bdy (q1 q2 q3 q4 : Pos) : List Stmt := [.Assign [.Attribute (.Name "self" q1) "limit" q2] (.Name "limit" q3) q4]
def scp : Scope := { kind := .function, names := [(PySem.Str.ofString "self", .local), (PySem.Str.ofString "limit", .local)], isGenerator := false, isCoroutine := false, more := [] }
/-- the def __init__ as it stands -/
structure InitD (K : Frag) (fI : Addr) : Prop where
  fn : ∃ (oc : Value) (od : Option Addr) (kV doc pm : Value) (an : Option Addr) (cdv ct : Value) (osl : Array (Option Value)) (p1 p2 q1 q2 q3 q4 : Pos),
    K.lookup fI = some ⟨oc, od, .func (fnOf "__init__" "TooMany.__init__" (ags p1 p2) (bdy q1 q2 q3 q4) scp .none kV doc pm an cdv ct), osl⟩ ∧ codeIn K cdv "TooMany.__init__" = true
theorem own_name {M : Model} {s : Shared} {nm : Str} {sc : Scope} {L a : Addr} {cd : Value} {m : Str → Option Value} {x : Str} {pos : Pos} {v : Value} {Q : Value → Shared → Prop} {A : Around} {E : Value → Shared → Prop} (hn : s.heap.Ns L m) (hv : m x = some v) (h : Q v s)
    (hk : sc.kind = .function := by rfl) (hl : (envOfC nm sc L a cd).kindOf x = some .local := by rfl) (hd : (x == ("__debug__" : Str)) = false := by decide) :
    wpAny M A (eval (.Name x pos) (envOfC nm sc L a cd)) Q E s := wpAny_Name (wpAny_loadName_local hk hl hn hv h) hd
/-- what a new error is -/
structure Made (h h' : Heap) (e C dx : Addr) (v : Value) : Prop where
  keep : ∀ b o, h.get? b = some o → h'.get? b = some o
  new : h.objs.size ≤ e
  obj : ∃ t1 : Addr, h'.get? e = some { cls := .ref C, dict := some dx, data := .fields #[.ref t1, .none, .none, .none, .bool false, .none] }
  dbig : h.objs.size ≤ dx
  dne : dx ≠ e
  ns : h'.Ns1 dx (fun y => if y = "limit" then some v else none)
section
variable {prog : Program} {w : World} {A : Around} {E : Value → Shared → Prop} {R : Result → Shared → Prop} {s : Shared} {K : Frag} {B newId initId : String} {bmB : List Value} {C fI : Addr}
theorem own_init (T : OwnC K B newId initId bmB C fI "limit") (D : InitD K fI) {x t0 : Addr} {v : Value} (X : K.In s.heap) (hlim : s.heap.NoLimit) (hx : s.heap.get? x = some (excO C t0)) (hroom : A.depth < recursionLimit)
    (hq : ∀ h' tk dx, (∀ b o, b ≠ x → s.heap.get? b = some o → h'.get? b = some o) → h'.get? x = some { cls := .ref C, dict := some dx, data := .fields #[.ref t0, .none, .none, .none, .bool false, .none] } → s.heap.objs.size ≤ dx → dx ≠ x → h'.Ns1 dx (fun y => if y = "limit" then some v else none) → R (.ok (.ret .none)) { s with heap := h', toks := tk }) :
    codeAny (model prog w) A (.call (.ref fI) ⟨[.ref x, v], []⟩) R s := by
  obtain ⟨oc, od, kV, doc, pm, an, cdv, ct, osl, p1, p2, q1, q2, q3, q4, ho, hcd⟩ := D.fn
  refine Att.call_fn (binds := [("self", .ref x), ("limit", v)]) X hlim ho hcd hroom (BindsTo.of_eq (by first | rfl | with_unfolding_all rfl)) (by first | rfl | decide | with_unfolding_all rfl) (fun s₁ IC => ?_) rfl rfl rfl
  obtain ⟨h₁, tk₁, rfl⟩ := IC.toInCall.same
  have k : ∀ b o, s.heap.get? b = some o → h₁.get? b = some o := IC.toInCall.keep
  have hn := IC.toInCall.ns
  have X₁ : K.In h₁ := X.keeps k
  have hx₁ := k _ _ hx
  show wpAny _ _ (execs _ _) _ _ _
  refine wpAny_execs_cons (plainObj_wpAny_Assign_Attribute ?_)
  refine own_name (v := v) hn (by first | rfl | with_unfolding_all rfl | kernel_rfl) ?_
  refine own_name (v := .ref x) hn (by first | rfl | with_unfolding_all rfl | kernel_rfl) ?_
  refine set_plain X₁ (ox := excO C t0) (od := none) ⟨hx₁, rfl, rfl, trivial⟩ T.sa ?_
  refine own_put T X₁ hx₁ fun h₃ tk₃ dx k₃ dn dne hx₃ hn₃ => ?_
  show wpAny _ _ (execs _ _) _ _ _
  have z : s.heap.objs.size < h₁.objs.size := hn.lt
  exact wpAny_execs_nil (hq h₃ tk₃ dx (fun b o hb e => k₃ b o hb (k b o e)) hx₃ (Nat.le_of_lt (Nat.lt_of_lt_of_le z dn)) dne hn₃)
/-- TooMany(v) -/
theorem own_made (T : OwnC K B newId initId bmB C fI "limit") (D : InitD K fI) {v : Value} (X : K.In s.heap) (hlim : s.heap.NoLimit) (hroom : A.depth + 1 < recursionLimit)
    (hq : ∀ h' tk e dx, Made s.heap h' e C dx v → R (.ok (.ret (.ref e))) { s with heap := h', toks := tk }) :
    codeAny (model prog w) A (.call (.ref C) ⟨[v], []⟩) R s := by
  obtain ⟨nm, N, qn, bs, bm, hdct, sn, sub, ab, col, dd, k0, k1, k2, k3, k5, hC, hT⟩ := excInit_of X T.ini
  obtain ⟨hp, g, dr, tk, os⟩ := s
  have up2 : ∀ b o, hp.get? b = some o → ((hp.push (kdv_tup [v])).push (excO C hp.objs.size)).get? b = some o := fun b o e => Heap.get?_push_of_some _ (Heap.get?_push_of_some _ e)
  have hget : ((hp.push (kdv_tup [v])).push (excO C hp.objs.size)).get? (hp.objs.size + 1) = some (excO C hp.objs.size) := by heap_get
  refine call_own T.FB hT hC (looks_findIn X T.iC) (fun self => bind_fn X self T.tI) (show [v].length ≤ sizeLine by rw [sizeLine_eq]; exact (by decide : 1 ≤ 16777216)) ?_
  refine own_init (s := ⟨(hp.push (kdv_tup [v])).push (excO C hp.objs.size), g, dr, tk, os⟩) T D (X.keeps up2) (hlim.keeps up2) hget ?_ fun h' tk' dx k' hx dn dne hns => ?_
  · show A.depth + 1 < recursionLimit
    exact hroom
  · have z : hp.objs.size + 1 + 1 ≤ dx := by
      have q := dn
      simp only [Heap.size_push] at q
      omega
    exact ⟨rfl, hq h' tk' (hp.objs.size + 1) dx ⟨fun b o e => k' b o (Nat.ne_of_lt (Nat.lt_succ_of_lt (Heap.lt_size e))) (up2 b o e), Nat.le_succ _, ⟨_, hx⟩, by show hp.objs.size ≤ dx; omega, dne, hns⟩⟩
end
end OwnTooMany
end PySem
namespace L2
open PySem PySem.Spec PyProof.Rows
section
variable {X : Cx} {B newId initId : String} {bmB : List Value} {C fI : Addr}
theorem pmk_TooMany {a : Expr} {ta : TA} {p pos : Pos} {k : Nat} (T : PySem.OwnEx.OwnC X.K B newId initId bmB C fI "limit") (D : PySem.OwnTooMany.InitD X.K fI) (hm : X.mg "TooMany" = some (.ref C)) (hr : Room k X.A) (ha : PA X [a] ta) (hg : Gl X "TooMany" := by rfl)
    (he : starEach (a :: []) X.env = (false, eval a X.env) :: starEach [] X.env := by rfl) (hpl : (backTo pos (starEach [] X.env)).any (·.1) = false := by rfl) :
    PMk X (.Call (.Name "TooMany" p) [a] [] pos) (tMkF C "limit" ta) := by
  intro pins s σ H Q I h
  refine wpAny_Call_Name_kw (ld_glob I hg hm ?_)
  refine PySem.W.callWith_K (h₀ := X.base) I.ok.mod.kin T.kC (thn (ha.run pos pins s σ H _ I h) fun us s1 hh => ?_) he hpl
  obtain ⟨vs, H1, I1, r1, v, ev, q1⟩ := hh
  subst ev
  refine ⟨I1.kIn, ?_⟩
  cases r1 with
  | cons rv rn =>
    rename_i v' us'
    cases rn
    show wpAny _ _ (call (.ref C) [v']) _ _ _
    have hlim := I1.nolimit
    obtain ⟨hp, g, dr, tk, os⟩ := s1
    refine wpAny_call (PySem.OwnTooMany.own_made T D I1.kIn hlim (by have := hr.dp; omega) fun h' tk' e dx M => ?_)
    show MkP X pins σ Q (.ref e) ⟨h', g, dr, tk', os⟩
    obtain ⟨t1, hoe⟩ := M.obj
    obtain ⟨G', g1, g2⟩ := restrict h' fun b => decide (b ≠ e)
    have gk : ∀ b, b ≠ e → G'.get? b = h'.get? b := fun b hb => g1 b (decide_eq_true hb)
    have ge : G'.get? e = none := g2 e (by simp)
    have old : ∀ b o, hp.get? b = some o → G'.get? b = some o := fun b o q => (gk b (Nat.ne_of_lt (Nat.lt_of_lt_of_le (Heap.lt_size q) M.new))).trans (M.keep b o q)
    have ob : ObjOk X.prog X.w (upd H1 dx (.xd [(("limit" : Str), v)])) G' dx (.xd [(("limit" : Str), v)]) :=
      ⟨_, M.ns.at (fun o q => (gk dx M.dne).trans q), fun f => one_field rv f⟩
    have J : Inv X pins σ (upd H1 dx (.xd [(("limit" : Str), v)])) ⟨G', g, dr, tk', os⟩ := I1.laid (t' := tk') old M.dbig ob
    refine ⟨e, _, _, ⟨G', g, dr, tk', os⟩, _, .ref C, some dx, rfl, J, fun b o q => ?_, ge, hoe, ⟨rfl, rfl⟩, rfl, rfl, ?_, rfl, I1.bare, raises_own T.exC T.tyC, q1 dx (I1.hok.fresh M.dbig)⟩
    · by_cases hb : b = e
      · have q' : G'.get? b = some o := q
        rw [hb, ge] at q'; cases q'
      · exact (gk b hb).symm.trans q
    · rw [upd_ne (Ne.symm M.dne)]
      exact I1.hok.fresh M.new
end
end L2
namespace PySem
namespace OwnTooMany
open PySem.W PySem.Calls PyProof.Rows PySem.HandSPX OwnEx L2
theorem init_of {K : Frag} {s : Stmt} {fI : Addr} {fd : FuncData} (F : FunD K "__init__" "TooMany.__init__" (defArgs s) (defBody s) (defScope s) [] [] fI fd) (h1 : ∃ p1 p2, defArgs s = ags p1 p2) (h2 : ∃ q1 q2 q3 q4, defBody s = bdy q1 q2 q3 q4) (h3 : defScope s = scp) : InitD K fI := by
  obtain ⟨p1, p2, h1⟩ := h1
  obtain ⟨q1, q2, q3, q4, h2⟩ := h2
  obtain ⟨oc, od, dV, kV, doc, pm, an, cdv, ct, osl, _, lk, hcd, hdv, _⟩ := F.ex
  rcases hdv with ⟨_, rfl⟩ | ⟨z, _⟩
  · rw [h1, h2, h3] at *
    subst_vars
    exact ⟨oc, od, kV, doc, pm, an, cdv, ct, osl, p1, p2, q1, q2, q3, q4, lk, hcd⟩
  · exact absurd rfl z
end OwnTooMany
end PySem
/-! statements that may raise, over data -/
namespace Dl
open PySem PySem.Spec PyProof.Rows L2
/-- an error, as data: its class's name, its fields -/
abbrev XV := Str × List (Str × D)
def FieldsRep (K : PySem.W.Frag) (B : Hp) : List (Str × D) → List (Str × V) → Prop
  | [], vs => vs = []
  | (f, d) :: r, vs => ∃ v r', vs = (f, v) :: r' ∧ Rep K B d v ∧ FieldsRep K B r r'
def RepX (K : PySem.W.Frag) (B : Hp) (x : XV) (cls : Value) (d : Option Addr) : Prop := cls = .ref (He.ga K x.1) ∧ (x.2 = [] ∨ ∃ dx vs, d = some dx ∧ B dx = some (.xd vs) ∧ FieldsRep K B x.2 vs)
/-- the run of a def that may raise: what is let out, and what it is asked there -/
structure XP (K : PySem.W.Frag) where
  J : JT
  B0 : Hp
  H0 : Hp
  q : XV → Prop
  W : WX
  ok : ∀ (x : XV) (cls : Value) (d : Option Addr) (B H : Hp) (σ : L2.St), q x → Grow J B0 H0 B H → Own J B H → RepX K B x cls d → W cls d σ H
def EvX (K : PySem.W.Frag) (P : XP K) (t : TS) (w : DS) : Prop := ∀ ⦃B H : Hp⦄ ⦃σ : L2.St⦄ ⦃δ : List S⦄, Env K P.J P.B0 P.H0 B H σ δ → ∀ R : DEnds, w R δ → ∀ En : Ends, Fits K P.J P.B0 P.H0 R En → t En σ H
structure Dx (X : Cx) (P : XP X.K) (st : Stmt) (w : DS) : Prop where
  ex : ∃ t, PS X st t ∧ EvX X.K P t w
structure Dxs (X : Cx) (P : XP X.K) (sts : List Stmt) (w : DS) : Prop where
  ex : ∃ t, PSs X sts t ∧ EvX X.K P t w
section
variable {X : Cx} {P : XP X.K} {st : Stmt} {rest A C : List Stmt} {c e : Expr} {pos : Pos}
theorem dx_of {w : DS} (h : Ds X st w) : Dx X P st w := by
  obtain ⟨t, p, v⟩ := h.ex
  exact ⟨t, p, fun B H σ δ e R h En F => v e R h En F⟩
theorem dxs_of {w : DS} (h : Dss X rest w) : Dxs X P rest w := by
  obtain ⟨t, p, v⟩ := h.ex
  exact ⟨t, p, fun B H σ δ e R h En F => v e R h En F⟩
theorem dxs_cons {w1 w2 : DS} (h1 : Dx X P st w1) (h2 : Dxs X P rest w2) : Dxs X P (st :: rest) (wSeq w1 w2) := by
  obtain ⟨t1, p1, v1⟩ := h1.ex
  obtain ⟨t2, p2, v2⟩ := h2.ex
  refine ⟨_, pss_cons p1 p2, ?_⟩
  intro B H σ δ e R h En F
  exact v1 e _ h _ ⟨fun h' e' => v2 e' R h' En F, F.rt, F.bk, F.ct⟩
theorem dxs_one {w1 : DS} (h1 : Dx X P st w1) : Dxs X P [st] w1 := by
  obtain ⟨t1, p1, v1⟩ := h1.ex
  exact ⟨t1, pss_one p1, v1⟩
theorem dx_if {wc : DT} {wa wb : DS} (hc : Dt X c wc) (ha : Dxs X P A wa) (hb : Dxs X P C wb) : Dx X P (.If c A C pos) (wIfS wc wa wb) := by
  obtain ⟨tc, pc, vc⟩ := hc.ex
  obtain ⟨ta, pa, va⟩ := ha.ex
  obtain ⟨tb, pb, vb⟩ := hb.ex
  refine ⟨_, ps_if pc pa pb, ?_⟩
  intro B H σ δ e R h En F
  refine vc e _ h _ fun b B1 H1 h1 g1 w1 => ?_
  have e1 := e.step g1 w1
  cases b with
  | true => exact va e1 R (by simpa using h1) En F
  | false => exact vb e1 R (by simpa using h1) En F
/-- raise C(a), C an own class that keeps a as its field f -/
def wRaise (q : XV → Prop) (C f : Str) (wa : DE) : DS := fun _ δ => wa δ fun x => ∃ d, x = .c d ∧ q (C, [(f, d)])
theorem dx_raiseF {x C f : Str} {a : Expr} {p pos1 pos2 : Pos} {wa : DE} (hc : X.calm = true) (tk : Takes X P.W) (ha : De X a wa)
    (hp : ∀ ta : TE, PE X a ta → PMk X (.Call (.Name x p) [a] [] pos1) (tMkF (He.ga X.K C) f (tCons ta tNil))) : Dx X P (.Raise (some (.Call (.Name x p) [a] [] pos1)) none pos2) (wRaise P.q C f wa) := by
  obtain ⟨ta, pa, va⟩ := ha.ex
  refine ⟨_, ps_raise hc tk (hp ta pa), ?_⟩
  intro B H σ δ e R h En F
  show ta σ H _
  refine va e _ h _ fun y v B1 H1 h1 g1 w1 r1 => ?_
  have e1 := e.step g1 w1
  obtain ⟨d, rfl, hq⟩ := h1
  refine ⟨v, rfl, fun dx hn => ?_⟩
  have g2 : Grow P.J B1 H1 (upd B1 dx (.xd [(f, v)])) (upd H1 dx (.xd [(f, v)])) := Grow.new e1.bh hn
  exact P.ok _ _ _ _ _ _ hq (e1.gr.trans g2) (w1.new hn) ⟨rfl, .inr ⟨dx, [(f, v)], rfl, upd_same, v, [], rfl, r1.mono g2.bb, rfl⟩⟩
end
/-! ### expressions that may raise -/
def EvEX (K : PySem.W.Frag) (P : XP K) (te : TE) (w : DE) : Prop := ∀ ⦃B H : Hp⦄ ⦃σ : L2.St⦄ ⦃δ : List S⦄, Env K P.J P.B0 P.H0 B H σ δ → ∀ k : DV → Prop, w δ k → ∀ Q : VK,
  (∀ x v B' H', k x → Grow P.J B H B' H' → Own P.J B' H' → RepV K P.J H B' H' σ δ x v → Q v H') → te σ H Q
structure Dex (X : Cx) (P : XP X.K) (e : Expr) (w : DE) : Prop where
  ex : ∃ t, PE X e t ∧ EvEX X.K P t w
/-- a def's promise, which may be to raise -/
def SpDX (K : PySem.W.Frag) (n : Nat) (pre : List S → Prop) (post : List S → DV → Prop) (xpost : List S → XV → Prop) : Sp := fun vs H Q E => ∃ J B xs, xs.length = n ∧ ArgsOk K J B xs vs ∧ SameJ K J B H ∧ Own J B H ∧ pre xs ∧
  (∀ r v B' H', post xs r → Grow J B H B' H' → Own J B' H' → RepV K J H B' H' [] [] r v → Q v H') ∧ ∀ x cls d B' H', xpost xs x → Grow J B H B' H' → Own J B' H' → RepX K B' x cls d → E cls d H'
def wCallX (q : XV → Prop) (n : Nat) (pre : List S → Prop) (post : List S → DV → Prop) (xpost : List S → XV → Prop) (wa : DA) : DE := fun δ k => wa δ fun xs => ∃ ss, toS xs = some ss ∧ ss.length = n ∧ pre ss ∧ (∀ r, post ss r → r ≠ .j ∧ k r) ∧ ∀ x, xpost ss x → q x
section
variable {X : Cx} {P : XP X.K} {st : Stmt} {rest A C : List Stmt} {c e a : Expr} {es : List Expr} {pos : Pos}
theorem dex_of {w : DE} (h : De X e w) : Dex X P e w := by
  obtain ⟨t, p, v⟩ := h.ex
  exact ⟨t, p, fun B H σ δ e k h Q q => v e k h Q q⟩
theorem dex_call {CX : CXT} {k n : Nat} {f : Addr} {fd : FuncData} {ps : List Str} {pre : List S → Prop} {post : List S → DV → Prop} {xpost : List S → XV → Prop} {x : Str} {p : Pos} {wa : DA}
    (F : FnOk X.prog X.w X.K X.mg X.base CX k f fd ps (SpDX X.K n pre post xpost)) (hr : Room k X.A) (hg : Gl X x) (hm : X.mg x = some (.ref f)) (hk : PySem.W.keepIn X.K (.ref f) = true) (hb : Binds X.K fd ps []) (hx : ∀ σ, PassesAt CX X σ (L2.WE P.W σ))
    (ha : Da X (e :: es) wa) (hdb : (x == ("__debug__" : Str)) = false := by decide) (he : starEach (e :: es) X.env = (false, eval e X.env) :: starEach es X.env := by rfl) (hpl : (backTo pos (starEach es X.env)).any (·.1) = false := by rfl) :
    Dex X P (.Call (.Name x p) (e :: es) [] pos) (wCallX P.q n pre post xpost wa) := by
  obtain ⟨ta, pa, va⟩ := ha.ex
  refine ⟨_, pe_callS (E := L2.WE P.W) F hr hg hm hk hb hx pa hdb he hpl, ?_⟩
  intro B H σ δ e k h Q q
  show ta σ H _
  refine va e _ h _ fun xs vs B1 H1 h1 g1 w1 r1 => ?_
  obtain ⟨ss, hs, hn, hp, h1, hx1⟩ := h1
  obtain ⟨B2, g2, w2, _, r2, _⟩ := r1.args e.nod g1 w1 hs
  refine ⟨P.J, B2, ss, hn, r2, ⟨g2.bh, e.jl.2⟩, w2, hp, fun r v B' H' po g w rr => q r v B' H' (h1 r po).2 (g2.trans g) w ((rv_any rr (h1 r po).1 σ δ).back g2.ne), ?_⟩
  intro x cls d B' H' hxp g w rx
  exact P.ok x cls d B' H' σ (hx1 x hxp) (e.gr.trans (g2.trans g)) w rx
theorem dx_ret {wa : DE} (ha : Dex X P a wa) : Dx X P (.Return (some a) pos) (wRet wa) := by
  obtain ⟨ta, pa, va⟩ := ha.ex
  refine ⟨_, ps_ret pa, ?_⟩
  intro B H σ δ e R h En F
  refine va e _ h _ fun x v B1 H1 h1 g1 w1 r1 => ?_
  obtain ⟨z, hz, h1⟩ := h1
  exact F.rt h1 (e.step g1 w1) (rv_ret (e.step g1 w1) e.gr.ne r1 hz)
theorem dx_drop {wa : DE} (ha : Dex X P a wa) (hs : swapsWith a none pos.line X.env = pure false := by rfl) : Dx X P (.Expr a pos) (wDrop wa) := by
  obtain ⟨ta, pa, va⟩ := ha.ex
  refine ⟨_, ps_expr pa hs, ?_⟩
  intro B H σ δ e R h En F
  exact va e _ h _ fun x v B1 H1 h1 g1 w1 r1 => F.nx h1 (e.step g1 w1)
theorem dx_set {i : Nat} {x : Str} {pos' : Pos} {wa : DE} (hN : X.N.Nodup) (hi : X.N[i]? = some x) (hx : Loc X.env.scope x) (ha : Dex X P e wa) (hs : swapsWith e (some (.Name x pos')) pos.line X.env = pure false := by rfl) (hf : X.fn x = true ∨ X.env.scope.names.lookup x = some .local := by first | exact .inl rfl | exact .inr rfl | assumption) :
    Dx X P (.Assign [.Name x pos'] e pos) (wSet i wa) := by
  obtain ⟨ta, pa, va⟩ := ha.ex
  refine ⟨_, ps_set hN hi hx pa hs hf, ?_⟩
  intro B H σ δ e R h En F
  refine va e _ h _ fun x v B1 H1 h1 g1 w1 r1 => ?_
  obtain ⟨s, hs, h1⟩ := h1
  exact F.nx h1 (e.put g1 w1 r1 hs i)
end
/-- what the body of a def that may raise is asked -/
def GoalX (w : (XV → Prop) → DS) (N : List Str) (n : Nat) (pre : List S → Prop) (post : List S → DV → Prop) (xpost : List S → XV → Prop) : Prop := ∀ xs : List S, xs.length = n → pre xs → w (xpost xs) { nx := fun _ => post xs (.c .non), rt := fun _ => post xs } (xs ++ List.replicate (N.length - n) .no)
theorem fn_x {Pr : Program} {w : World} {K : PySem.W.Frag} {mg : Str → Option Value} {base : Heap} {x qual : Str} {params : Arguments} {body : List Stmt} {scope : Scope} {dvs : List V} {kws : List (Str × V)} {f : Addr} {fd : FuncData} {N ps : List Str} {k n : Nat}
    {pre : List S → Prop} {post : List S → DV → Prop} {xpost : List S → XV → Prop} {wb : (XV → Prop) → DS} (F : FunD K x qual params body scope dvs kws f fd) (Sc : FnScope N ps scope) (hn : ps.length = n) (hN : n ≤ N.length)
    (hbody : ∀ (cdv : Value) (A : Around) (outer : List PySem.Env) (s : Shared) (H : Hp) (E : XK), Room k (A.deeper (envOfC qual scope s.heap.objs.size f cdv)) → ∀ P : XP K, Takes (cxOf (L2.CX Pr w) Pr w K mg base N qual scope f cdv A outer s H E) P.W →
      Dxs (cxOf (L2.CX Pr w) Pr w K mg base N qual scope f cdv A outer s H E) P body (wb P.q))
    (goal : GoalX wb N n pre post xpost) : FnOk Pr w K mg base (L2.CX Pr w) (k + 1) f fd ps (SpDX K n pre post xpost) := by
  refine F.ok Sc (fun vs H Q E h => ?_) (fun cdv A outer s H vs Q E hr h => ?_)
  · obtain ⟨J, B, xs, hl, ha, _⟩ := h
    rw [ha.len, hl, hn]
  · obtain ⟨J, B, xs, hl, ha, hs, ow, hp, q, qx⟩ := h
    obtain ⟨t, p, v⟩ := (hbody cdv A outer s H E hr ⟨J, B, H, xpost xs, fun cls d _ H' => E cls d H', fun x cls d B' H' _ hx g w rx => qx x cls d B' H' hx g w rx⟩ (takes_of rfl rfl rfl rfl)).ex
    have st := start_env (N := N) hs ow ha (by omega)
    rw [hl] at st
    refine ⟨t, p, v st _ (goal xs hl hp) _ ⟨fun h' e' => ?_, fun h' e' r => q _ _ _ _ h' e'.gr e'.ow r, fun h' _ => h'.elim, fun h' _ => h'.elim⟩⟩
    exact q (.c .non) .non _ _ h' e'.gr e'.ow (by show Rep _ _ _ _; rw [Rep])
end Dl
/-! a def that calls what it got, and tells what comes of it: (r1, what comes back) or (r2, the field of the error) -/
namespace Dl
open PySem PySem.Spec PyProof.Rows L2
open LamX (GivesTo CodeO)
/-- what it makes of the lambda's reading -/
def TTas (K : PySem.W.Frag) (CS : Addr) (f r1 r2 : Str) : (XK → Hp → VK → Prop) → Hp → VK → Prop := fun tl H Q =>
  tl (fun cls d H' => cls = .ref CS ∧ PySem.W.exmOne K cls (.ref CS) = some true ∧ ∃ (dd : Addr) (fs : List (Str × V)) (v : V), d = some dd ∧ H' dd = some (.xd fs) ∧ fs.lookup f = some v ∧ ∀ p, H' p = none → Q (.ref p) (upd H' p (.tup [.str r2, v])))
    H (fun v H1 => [V.str r1, v].length ≤ sizeLine ∧ ∀ p, H1 p = none → Q (.ref p) (upd H1 p (.tup [.str r1, v])))
theorem two_size (x y : V) : [x, y].length ≤ sizeLine := by
  rw [sizeLine_eq]
  exact (by decide : 2 ≤ 16777216)
/-- a name, read where the slots are as many as the names -/
def tVarL (i : Nat) : TE := fun σ H Q => i < σ.length → tVar i σ H Q
theorem pe_varL {X : Cx} {i : Nat} {x : Str} {pos : Pos} (hN : X.N[i]? = some x) (hv : Vis X.env.scope x) (hd : (x == ("__debug__" : Str)) = false := by decide) (hcd : (x == ("__classdict__" : Str)) = false := by decide) : PE X (.Name x pos) (tVarL i) :=
  ⟨fun pins s σ H Q I h => (pe_var (pos := pos) hN hv hd hcd).run pins s σ H Q I (h (by rw [I.len]; exact (List.getElem?_eq_some_iff.mp hN).1))⟩
section
variable {X : Cx}
theorem told_as {Ng : List Str} {x a er e f q r1 r2 : Str} {sg : Scope} {g CS : Addr} {cdg : Value} {j1 j2} {k1 k2} {p0 p1 p2 p3 p3' p4 p5 p6 p7 p8 p9 p10 p11 : Pos} (hge : sg.names.lookup e = some .globalImplicit) (hme : X.mg e = some (.ref CS)) (hde : (e == ("__debug__" : Str)) = false)
    (T : XfC X.K CS) (hno : PySem.W.findIn X.K (.ref CS) f = some none) (hNd : Ng.Nodup) (h1 : Ng[1]? = some er) (hv : Vis sg er) (hln : sg.names.lookup er = some .local) (hd1 : (er == ("__debug__" : Str)) = false) (hd2 : (er == ("__classdict__" : Str)) = false) (h0 : ∀ f : Addr, (L2.start Ng [V.ref f])[0]? = some (some (V.ref f)))
    (hat : ∀ (en : PySem.Env), attributeBase (.Name er p6) f en (eval (.Name er p6) en) = eval (.Name er p6) en) :
    GivesTo X Ng x sg g cdg [.Try [.Return (some (.Tuple [.Constant (.str r1) j1 p0, .Call (.Name a p1) [] [] p2] k1 p3)) p3'] [.ExceptHandler (some (.Name e p4)) (some er) [.Return (some (.Tuple [.Constant (.str r2) j2 p5, .Attribute (.Name er p6) f p7] k2 p8)) p9] p10] [] [] p11] a q (TTas X.K CS f r1 r2) := by
  intro fl c' s H Q tl act hc h
  refine ⟨_, pss_one (ps_try_as (X := (cxOf C8.CX0 X.prog X.w X.K X.mg X.base Ng x sg g cdg X.A X.stack s H C8.E0).nox) (c := .ref CS) (i := 1)
      (tb := fun W D σ H => ∃ Ech : XK, (∀ cls d σ' H', Ech cls d H' → W cls d σ' H') ∧ σ[0]? = some (some (.ref fl)) ∧ H c' = some (CodeO c' q) ∧ tl Ech H (fun v H1 => [V.str r1, v].length ≤ sizeLine ∧ ∀ p, H1 p = none → D.rt (.ref p) (upd H1 p (.tup [.str r1, v]))))
      (ts := fun a cls d => tRet (tTup (tCons (tC (.str r2)) (tCons (tXf a cls d CS f (tVarL 1)) tNil))))
      rfl rfl hNd h1 hln ⟨hge, hde, .inl hme⟩ LamX.takes0 (fun W pn xe tk _ => ?_) (fun a oe cls d pn hz hf => ?_)), ?_⟩
  · refine ⟨fun pins s' σ H' D I h' => ?_⟩
    obtain ⟨Ech, hW, g1, g2, g3⟩ := h'
    have hp := act W pn xe Ech p1 p2 tk hW
    have hq : PSs _ [.Return (some (.Tuple [.Constant (.str r1) j1 p0, .Call (.Name a p1) [] [] p2] k1 p3)) p3'] _ := pss_one (ps_ret (pe_tup (pa_cons pe_str (pa_cons hp pa_nil))))
    exact hq.run pins s' σ H' D I ⟨g1, g2, g3⟩
  · exact pss_one (ps_ret (pe_tup (pa_cons pe_str (pa_cons (pe_xf T hno hz hf (pe_varL (X := Cx.suite _ a _) h1 hv hd1 hd2) (hat _)) pa_nil))))
  · refine ⟨fun cls d H' => cls = .ref CS ∧ PySem.W.exmOne X.K cls (.ref CS) = some true ∧ ∃ (dd : Addr) (fs : List (Str × V)) (v : V), d = some dd ∧ H' dd = some (.xd fs) ∧ fs.lookup f = some v ∧ ∀ p, H' p = none → Q (.ref p) (upd H' p (.tup [.str r2, v])), ?_, h0 fl, hc, h⟩
    rintro cls d σ' H' ⟨ec, em, dd, fs, v, ed, ef, el, hq⟩
    refine ⟨true, em, fun _ a ha => ?_, fun hb => by cases hb⟩
    intro hl
    refine ⟨.ref a, ?_, rfl, ec, dd, fs, v, ed, ef, el, two_size _ _, hq⟩
    rw [List.length_set] at hl
    rw [List.getElem?_set_self hl]
end
end Dl
/-! one reading for all contexts: what is asked over data -/
namespace Dl
open PySem PySem.Spec PyProof.Rows L2
def taOf (K : PySem.W.Frag) (wa : DA) : TA := fun σ H Q => ∃ (J : JT) (B0 H0 B : Hp) (δ : List S) (k : List DV → Prop), Env K J B0 H0 B H σ δ ∧ wa δ k ∧ ∀ xs vs B' H', k xs → Grow J B H B' H' → Own J B' H' → RepVs K J H B' H' σ δ xs vs → Q vs H'
def teOf (K : PySem.W.Frag) (w : DE) : TE := fun σ H Q => ∃ (J : JT) (B0 H0 B : Hp) (δ : List S) (k : DV → Prop), Env K J B0 H0 B H σ δ ∧ w δ k ∧ ∀ x v B' H', k x → Grow J B H B' H' → Own J B' H' → RepV K J H B' H' σ δ x v → Q v H'
theorem pa_of {X : Cx} {es : List Expr} {wa : DA} (h : Da X es wa) : PA X es (taOf X.K wa) := by
  obtain ⟨t, p, v⟩ := h.ex
  exact ⟨fun pos pins s σ H Q I ⟨J, B0, H0, B, δ, k, e, hk, hq⟩ => p.run pos pins s σ H Q I (v e k hk Q hq)⟩
theorem pe_of {X : Cx} {a : Expr} {w : DE} (h : De X a w) : PE X a (teOf X.K w) := by
  obtain ⟨t, p, v⟩ := h.ex
  exact ⟨fun pins s σ H Q I ⟨J, B0, H0, B, δ, k, e, hk, hq⟩ => p.run pins s σ H Q I (v e k hk Q hq)⟩
theorem ea_of {K : PySem.W.Frag} {wa : DA} : EvA K (taOf K wa) wa := fun J B0 H0 B H σ δ e k h Q q => ⟨J, B0, H0, B, δ, k, e, h, q⟩
theorem ev_of {K : PySem.W.Frag} {w : DE} : EvE K (teOf K w) w := fun J B0 H0 B H σ δ e k h Q q => ⟨J, B0, H0, B, δ, k, e, h, q⟩
/-- a lambda's body: the call of a def that may raise; what it lets out is E's -/
theorem pe_lambody {X : Cx} {k : Nat} {f : Addr} {fd : FuncData} {ps : List Str} {sp : Sp} {x : Str} {p pos : Pos} {e : Expr} {es : List Expr} {wa : DA} {E : XK}
    (F : FnOk X.prog X.w X.K X.mg X.base (L2.CX X.prog X.w) k f fd ps sp) (hr : Room k X.A) (hg : Gl X x) (hm : X.mg x = some (.ref f)) (hk : PySem.W.keepIn X.K (.ref f) = true) (hb : Binds X.K fd ps []) (tk : Takes X (fun cls d _ H => E cls d H))
    (ha : Da X (e :: es) wa) (hdb : (x == ("__debug__" : Str)) = false := by decide) (he : starEach (e :: es) X.env = (false, eval e X.env) :: starEach es X.env := by rfl) (hpl : (backTo pos (starEach es X.env)).any (·.1) = false := by rfl) :
    PE X (.Call (.Name x p) (e :: es) [] pos) (tCallS sp (fun _ => E) (taOf X.K wa)) :=
  pe_callS (E := fun _ => E) F hr hg hm hk hb (fun σ => passAt tk σ) (pa_of ha) hdb he hpl
end Dl
/-! lambdas handed to a def that tells what they do: nothing that is tracked is lost -/
namespace Dl
open PySem PySem.Spec PyProof.Rows L2
open LamX (CodeO Tabs TabS TabB ExtN)
/-- all but the tables stays, the tables of T are tables, nothing is lost -/
structure ExtT (T : List (Addr × Str)) (H H1 : Hp) : Prop where
  x : ExtN H H1
  t : Tabs T H1
  n : ∀ b, H b ≠ none → H1 b ≠ none
section
variable {X : Cx} {pins : List (Addr × Obj)} {σ : L2.St} {H : Hp} {s : Shared}
abbrev lamO (X : Cx) (params : Arguments) (body : Expr) (scope : Scope) (pm ctv : Value) (cc : Addr) : Obj :=
  PySem.W.kla_obj "<lambda>" (X.env.qual ++ "<lambda>") params body scope (cloFrom X.env.cells scope.names []) pm cc ctv
/-- what is known once a lambda is made -/
structure Made (X : Cx) (pins : List (Addr × Obj)) (σ : L2.St) (T : List (Addr × Str)) (H : Hp) (params : Arguments) (body : Expr) (scope : Scope) (f cc : Addr) (pm ctv : Value) (H1 : Hp) (s1 : Shared) : Prop where
  iv : Inv X pins σ H1 s1
  ex : ExtT T H H1
  at_ : s1.heap.get? f = some (lamO X params body scope pm ctv cc)
  fn : H1 f = none
  fr : f ∉ frs X.stack
  co : H1 cc = some (CodeO cc (X.env.qual ++ "<lambda>"))
theorem old_frame (I : Inv X pins σ H s) {f : Addr} (hf : s.heap.objs.size ≤ f) : f ∉ frs X.stack := by
  intro z
  cases List.mem_cons.mp (I.stkSub _ z) with
  | inl e => exact absurd (Nat.lt_of_lt_of_le (e ▸ I.lt) hf) (Nat.lt_irrefl f)
  | inr e => exact absurd e (I.nofs hf)
theorem mk_lam {T : List (Addr × Str)} {c P : Addr} {params : Arguments} {body : Expr} {scope : Scope} {pos : Pos} {E Q : Value → Shared → Prop} (I : Inv X pins σ H s) (tb : TabB X.base X.mg c P) (cc : X.env.code = .ref c)
    (mem : (P, X.env.qual ++ "<lambda>") ∈ T) (one : ∀ p ∈ T, p.1 = P → p.2 = X.env.qual ++ "<lambda>") (tabs : Tabs T H) (nd : defaultsOf params X.env = ([], [])) (has : ∀ y ∈ scope.names, y.2 = .free → ∃ c, X.env.cells.lookup y.1 = some c)
    (h : ∀ (f cc : Addr) (pm ctv : Value) (H1 : Hp) (s1 : Shared), Made X pins σ T H params body scope f cc pm ctv H1 s1 → Q (.ref f) s1) :
    wpAny (model X.prog X.w) X.A (eval (.Lambda params body scope pos) X.env) Q E s := by
  refine PySem.W.kla_eval nd ?_
  obtain ⟨ts, tP, tok, tall⟩ := tabs _ mem
  have oP := I.hok P _ tP
  have bmP := tb.bm.keeps I.bk
  cases hit : codeAmong pos ts.toList with
  | some old =>
    obtain ⟨o, rfl, co⟩ := tall pos old hit
    refine PySem.W.kla_makeFunctionHit (mg := X.mg) (c := c) (P := P) (ps := ts) (closure_ok has) I.ok.glob (I.mod.glob.keeps I.bk) cc (tb.code.keeps I.bk) oP tok hit bmP ?_
    intro ctv h1 tk kx ksz
    exact h h1.objs.size o _ ctv H _ ⟨I.kept fun b o e => Heap.get?_push_of_some _ (kx b o e), ⟨.refl H, tabs, fun _ e => e⟩, Heap.get?_push_size _ rfl, I.hok.fresh ksz, old_frame I ksz, co⟩
  | none =>
    refine PySem.W.kla_makeFunction (mg := X.mg) (c := c) (P := P) (ps := ts) (closure_ok has) I.ok.glob (I.mod.glob.keeps I.bk) cc (tb.code.keeps I.bk) oP tok hit tb.gP bmP ?_
    intro o ctv h1 tk kx kge klt krec ktb
    obtain ⟨o2, oc, vs, t, eo, g1, g2, g3⟩ := krec
    cases eo
    have up : s.heap.objs.size ≤ h1.objs.size := Nat.le_of_lt (Nat.lt_of_le_of_lt kge klt)
    have no : H o = none := I.hok.fresh kge
    have oneP : P ≠ o := fun z => by rw [z, no] at tP; cases tP
    let row : Array Value := #[rawInt pos.line, rawInt pos.col, .ref o]
    let H1 : Hp := upd (upd H P (.tbl (ts ++ row))) o (CodeO o (X.env.qual ++ "<lambda>"))
    have atP : H1 P = some (.tbl (ts ++ row)) := by
      show upd (upd H P _) o _ P = _
      rw [upd_ne oneP, upd_same]
    have off : ∀ b, b ≠ P → b ≠ o → H1 b = H b := fun b z1 z2 => by
      show upd (upd H P _) o _ b = _
      rw [upd_ne z2, upd_ne z1]
    have xn : ExtN H H1 := fun b u e nt => by
      rw [off b (fun z => nt ts (by rw [z, tP] at e; exact (Option.some.inj e).symm)) (fun z => by rw [z, no] at e; cases e)]
      exact e
    have lst : (ts ++ row).toList = ts.toList ++ [rawInt pos.line, rawInt pos.col, .ref o] := by simp [row]
    have J := LamX.inv_table (t' := tk) (more := row) (h' := h1.push (lamO X params body scope ((X.mg "__name__").getD .none) ctv o)) I tP (fun b u hb e => Heap.get?_push_of_some _ (kx b u hb e)) (Heap.get?_push_of_some _ ktb) kge ⟨oc, vs, t, Heap.get?_push_of_some _ g1, g2, g3⟩
    have newT : Tabs T H1 := fun p hp => by
      by_cases hb : p.1 = P
      · refine ⟨ts ++ row, by rw [hb]; exact atP, by rw [lst]; exact PySem.TriplesOk_snoc _ _ _ _ tok, fun p' cv z => ?_⟩
        rw [one p hp hb]
        rw [lst] at z
        cases LamX.among_app _ tok z with
        | inl z =>
          obtain ⟨c0, e1, e2⟩ := tall p' cv z
          exact ⟨c0, e1, xn _ _ e2 LamX.codeO_ne⟩
        | inr z => exact ⟨o, z, upd_same⟩
      · obtain ⟨us, a1, a2, a3⟩ := tabs p hp
        refine ⟨us, ?_, a2, fun p' cv z => ?_⟩
        · rw [off _ hb (fun z => by rw [z, no] at a1; cases a1)]; exact a1
        · obtain ⟨c0, e1, e2⟩ := a3 p' cv z
          exact ⟨c0, e1, xn _ _ e2 LamX.codeO_ne⟩
    have keep : ∀ b, H b ≠ none → H1 b ≠ none := fun b e z => by
      by_cases h1 : b = P
      · rw [h1, atP] at z; cases z
      · by_cases h2 : b = o
        · rw [h2] at e; exact e no
        · rw [off b h1 h2] at z; exact e z
    have fresh : H1 h1.objs.size = none := by
      rw [off _ (fun z => by rw [← z] at oP; exact absurd (Heap.lt_size oP) (Nat.not_lt.mpr up)) (Nat.ne_of_gt klt)]
      exact I.hok.fresh up
    exact h h1.objs.size o ((X.mg "__name__").getD .none) ctv H1 _ ⟨J, ⟨xn, newT, keep⟩, Heap.get?_push_size _ rfl, fresh, old_frame I up, upd_same⟩
end
def tLamT (T : List (Addr × Str)) (TT : (XK → Hp → VK → Prop) → Hp → VK → Prop) (t : XK → TE) : TE := fun σ H Q => Tabs T H ∧ ∀ H1, ExtT T H H1 → TT (fun E H' Q' => t E σ H' Q') H1 Q
/-- x(lambda: body): x is a def with one parameter that makes TT of it -/
theorem pe_lamT {X : Cx} {T : List (Addr × Str)} {TT : (XK → Hp → VK → Prop) → Hp → VK → Prop} {x a : Str} {g c P : Addr} {k : Nat} {pg : Arguments} {bg : List Stmt} {sg : Scope} {dV kV doc pm cdv ct oc : Value} {an od : Option Addr} {osl : Array (Option Value)} {Ng : List Str}
    {params : Arguments} {body : Expr} {scope : Scope} {t : XK → TE} {p lpos pos : Pos} (hg : Gl X x) (hm : X.mg x = some (.ref g)) (hk : PySem.W.keepIn X.K (.ref g) = true)
    (lk : X.K.lookup g = some ⟨oc, od, .func (PySem.W.fnOf x x pg bg sg dV kV doc pm an cdv ct), osl⟩) (hcg : PySem.W.codeIn X.K cdv x = true) (hb : L2.Binds X.K (PySem.W.fnOf x x pg bg sg dV kV doc pm an cdv ct) [a] []) (Sg : FnScope Ng [a] sg) (hNg : Ng[0]? = some a) (hva : Vis sg a)
    (give : LamX.GivesTo X Ng x sg g cdv bg a (X.env.qual ++ "<lambda>") TT) (tb : TabB X.base X.mg c P) (hc : X.env.code = .ref c) (mem : (P, X.env.qual ++ "<lambda>") ∈ T) (one : ∀ p ∈ T, p.1 = P → p.2 = X.env.qual ++ "<lambda>")
    (hr : Room (k + 2) X.A) (L : LamX.LamS X.env.scope scope) (nd : defaultsOf params X.env = ([], [])) (bnd : ∀ (q : Str) (cl : List (Str × Addr)) (pm cv ctv : Value), bindArgs (PySem.W.kla_fn "<lambda>" q params body scope cl pm cv ctv) ⟨[], []⟩ = pure [])
    (hbody : ∀ (A : Around) (outer : List PySem.Env) (s : Shared) (H : Hp) (E : XK) (f cc : Addr), Room k (A.deeper (LamX.lamEnv X scope s.heap.objs.size f cc)) → PE (LamX.lamCx X A outer s H E scope f cc) body (t E))
    (hdb : (x == ("__debug__" : Str)) = false := by decide) (hd : (a == ("__debug__" : Str)) = false := by decide) (hcd : (a == ("__classdict__" : Str)) = false := by decide) :
    PE X (.Call (.Name x p) [.Lambda params body scope lpos] [] pos) (tLamT T TT t) := by
  constructor
  intro pins s σ H Q I ⟨hT, h⟩
  refine wpAny_Call_Name_kw (ld_glob I hg hm ?_ hdb)
  refine PySem.W.callWith_K (h₀ := X.base) I.ok.mod.kin hk ?_ (by rfl) (by rfl)
  show wpAny _ _ (spliced ((false, eval (.Lambda params body scope lpos) X.env) :: backTo pos (starEach [] X.env))) _ _ s
  refine Calls.spliced_cons (mk_lam I tb hc mem one hT nd (L.has I.ok) fun f cc pm' ctv H1 s1 M => ?_)
  refine Calls.spliced_nil ⟨M.iv.kIn, wpAny_call ?_⟩
  have run : codeAny (model X.prog X.w) X.A (.call (.ref g) ⟨[.ref f], []⟩) (CR C8.CX0 X.stack X.prog X.w H1 s1 Q C8.E0) s1 :=
    LamX.run_ofS (N := Ng) (ps := [a]) (us := [.ref f]) (vs := [.ref f]) lk hcg Sg hr M.iv.env0 (hb s1 [.ref f] M.iv.kIn rfl) (.cons rfl .nil) rfl fun hr1 => by
      obtain ⟨t1, ok1, get1⟩ := give f cc s1 H1 Q (fun E H' Q' => t E σ H' Q')
        (fun W pn xe E p1 p2 tk hW => LamX.pe_act (i := 0) M.iv L M.at_ M.fn M.fr (bnd _ _ _ _ _) tk hW hr1 (fun A outer s H hr2 => hbody A outer s H E f cc hr2) hNg hva hd hcd) M.co (h H1 M.ex)
      exact ⟨t1, ok1.nox, get1⟩
  refine codeAny_mono run fun r s2 hq => ?_
  match r, hq with
  | .error e, hq => exact (show False from hq).elim
  | .ok (.ret u), hq => exact M.iv.after hq
  | .ok .next, hq => exact False.elim hq
  | .ok .brk, hq => exact False.elim hq
  | .ok .cont, hq => exact False.elim hq
/-- told: ("r1", what comes back), or ("r2", the field f of the error of the class C) -/
def wTold (n : Nat) (pre : List S → Prop) (post : List S → DV → Prop) (xpost : List S → XV → Prop) (C f r1 r2 : Str) (wa : DA) : DE := fun δ k => wa δ fun xs => ∃ ss, toS xs = some ss ∧ ss.length = n ∧ pre ss ∧
  (∀ r, post ss r → ∃ d, cl r = some d ∧ k (.c (.tup [.str r1, d]))) ∧ ∀ x, xpost ss x → ∃ d, x = (C, [(f, d)]) ∧ k (.c (.tup [.str r2, d]))
theorem de_told {X : Cx} {ce : Expr} {T : List (Addr × Str)} {n : Nat} {pre : List S → Prop} {post : List S → DV → Prop} {xpost : List S → XV → Prop} {C f r1 r2 : Str} {wa : DA}
    (hpe : PE X ce (tLamT T (TTas X.K (He.ga X.K C) f r1 r2) fun E => tCallS (SpDX X.K n pre post xpost) (fun _ => E) (taOf X.K wa))) (hT : T = tabsK X.K) (hex : PySem.W.exmOne X.K (.ref (He.ga X.K C)) (.ref (He.ga X.K C)) = some true) : De X ce (wTold n pre post xpost C f r1 r2 wa) := by
  refine ⟨_, hpe, ?_⟩
  intro J B0 H0 B H σ δ e k h Q q
  have eT : J.T = T := by rw [hT]; exact e.jl.2
  refine ⟨by rw [← eT]; exact e.ow.tb, fun H1 x => ?_⟩
  have g1 : Grow J B H B H1 := ⟨.refl B, fun b o eb => x.x b o (e.bh b o eb) (fun ps z => e.ow.nt b ps (by rw [eb, z])), ⟨fun b o _ nt eb => x.x b o eb nt, fun _ => by rw [eT]; exact x.t⟩, x.n, fun _ _ => rfl⟩
  have w1 : Own J B H1 := ⟨fun a ha => by
    obtain ⟨h1, l, m, c, h0, h2⟩ := e.ow.dc a ha
    exact ⟨h1, l, m, c, h0, x.x a _ h2 (fun ps z => by cases z)⟩, by rw [eT]; exact x.t, e.ow.nt⟩
  have e1 := e.step g1 w1
  show taOf X.K wa σ H1 _
  refine ⟨J, B0, H0, B, δ, _, e1, h, fun xs vs B2 H2 hx g2 w2 rv2 => ?_⟩
  obtain ⟨ss, hs, hn, hp, hk, hxk⟩ := hx
  obtain ⟨B3, g3, w3, _, r3, _⟩ := rv2.args e1.nod g2 w2 hs
  have tupl : ∀ (r : Str) (d : D) (v : V) (B' H' : Hp) (p : Addr), Grow J B H1 B' H' → Own J B' H' → Rep X.K B' d v → H' p = none → k (.c (.tup [.str r, d])) → Q (.ref p) (upd H' p (.tup [.str r, v])) := fun r d v B' H' p g w rp hp hk => by
    refine q (.c (.tup [.str r, d])) _ (upd B' p (.tup [.str r, v])) _ hk (g1.trans (g.trans (.new g.bh hp))) (w.new hp) ?_
    have sm : Same B' (upd B' p (.tup [.str r, v])) := upd_same_of (g.bh.free hp)
    show Rep _ _ _ _
    rw [Rep]
    exact ⟨p, [.str r, v], rfl, .inl (.inl upd_same), .cons (by rw [Rep]) (.cons (rp.mono sm) .nil)⟩
  refine ⟨J, B3, ss, hn, r3, ⟨g3.bh, e.jl.2⟩, w3, hp, fun r v B' H' po g w rr => ?_, fun y cls d B' H' xp g w rx => ?_⟩
  · obtain ⟨dd, hcl, hkk⟩ := hk r po
    have nj : NoD J H2 := fun a z => g3.ne a (e1.nod a z)
    obtain ⟨B4, g4, w4, _, r4, _⟩ := rr.keep nj g w hcl
    exact ⟨two_size _ _, fun p hp => tupl r1 dd v B4 H' p (g3.trans g4) w4 r4 hp hkk⟩
  · obtain ⟨dd, rfl, hkk⟩ := hxk y xp
    obtain ⟨rfl, z | ⟨dx, vs, rfl, hB, v, r', rfl, hv, rfl⟩⟩ := rx
    · cases z
    · refine ⟨rfl, hex, dx, _, v, rfl, g.bh _ _ hB, ?_, fun p hp => tupl r2 dd v B' H' p (g3.trans g) w hv hp hkk⟩
      simp
end Dl
/-! defs that make lambdas; calls of defs that might raise, but do not -/
namespace Dl
open PySem PySem.Spec PyProof.Rows L2
open LamX (TabB lamSB lamS_by lamCx lamEnv GivesTo)
/-- a def that makes lambdas: its code object's table -/
structure LamMk (K : PySem.W.Frag) (mg : Str → Option Value) (base : Heap) (x : Str) (fd : FuncData) : Prop where
  ex : ∃ c P, fd.code = .ref c ∧ TabB base mg c P ∧ (P, x ++ ".<locals>." ++ "<lambda>") ∈ tabsK K ∧ ∀ p ∈ tabsK K, p.1 = P → p.2 = x ++ ".<locals>." ++ "<lambda>"
/-- fn_d, with the code object known -/
theorem fn_dc {P : Program} {w : World} {K : PySem.W.Frag} {mg : Str → Option Value} {base : Heap} {x qual : Str} {params : Arguments} {body : List Stmt} {scope : Scope} {dvs : List V} {kws : List (Str × V)} {f : Addr} {fd : FuncData} {N ps : List Str} {k n : Nat}
    {pre : List S → Prop} {post : List S → DV → Prop} {wb : DS} (F : FunD K x qual params body scope dvs kws f fd) (Sc : FnScope N ps scope) (hn : ps.length = n) (hN : n ≤ N.length)
    (hbody : ∀ (cdv : Value) (A : Around) (outer : List PySem.Env) (s : Shared) (H : Hp) (E : XK), fd.code = cdv → Room k (A.deeper (envOfC qual scope s.heap.objs.size f cdv)) → Dss (cxOf CX0 P w K mg base N qual scope f cdv A outer s H E).nox body wb)
    (goal : Goal wb N n pre post) : FnOk P w K mg base CX0 (k + 1) f fd ps (SpD K n pre post) := by
  obtain ⟨oc, od, dV, kV, doc, pm, an, cdv, ct, osl, rfl, lk, hcd, _, _⟩ := F.ex
  refine L2.fn_of lk hcd Sc (fun vs H Q E h => ?_) (fun A outer s H vs Q E hr h => ?_)
  · obtain ⟨J, B, xs, hl, ha, _⟩ := h
    rw [ha.len, hl, hn]
  · obtain ⟨J, B, xs, hl, ha, hs, ow, hp, q⟩ := h
    obtain ⟨t, p, v⟩ := (hbody cdv A outer s H E rfl hr).ex
    have st := start_env (N := N) hs ow ha (by omega)
    rw [hl] at st
    refine ⟨t, p.nox, v st _ (goal xs hl hp) _ ⟨fun h' e' => ?_, fun h' e' r => q _ _ _ _ h' e'.gr e'.ow r, fun h' _ => h'.elim, fun h' _ => h'.elim⟩⟩
    exact q (.c .non) .non _ _ h' e'.gr e'.ow (by show Rep _ _ _ _; rw [Rep])
section
variable {P : Program} {w : World} {K : PySem.W.Frag} {mg : Str → Option Value} {base : Heap} {N : List Str} {x : Str} {scope : Scope} {f : Addr} {cdv : Value} {A : Around} {outer : List PySem.Env} {s : Shared} {H : Hp} {E : XK}
theorem de_toldc {B newId initId : String} {bmB : List Value} {tn a cn fl r1 r2 : Str} {g : Addr} {pg : Arguments} {bg : List Stmt} {sg ls : Scope} {fdx fdg : FuncData} {Ng : List Str} {k n : Nat} {params : Arguments} {body : Expr} {p lpos pos : Pos} {pre : List S → Prop} {post : List S → DV → Prop} {xpost : List S → XV → Prop} {wa : DA}
    (M : LamMk K mg base x fdx) (hcd : fdx.code = cdv) (e : PySem.OwnEx.ErrC K mg B newId initId bmB cn fl) (Fg : FunD K tn tn pg bg sg [] [] g fdg) (hmg : mg tn = some (.ref g)) (hb : Binds K fdg [a] []) (Sg : FnScope Ng [a] sg) (hr : Room (k + 2) (A.deeper (envOfC x scope s.heap.objs.size f cdv)))
    (give : ∀ (X : Cx), X.K = K → X.mg = mg → ∀ cdg q, GivesTo X Ng tn sg g cdg bg a q (TTas K (He.ga K cn) fl r1 r2))
    (hbody : ∀ (A1 : Around) (outer1 : List PySem.Env) (s1 : Shared) (H1 : Hp) (E1 : XK) (f1 cc : Addr), Room k (A1.deeper (lamEnv (cxOf CX0 P w K mg base N x scope f cdv A outer s H E).nox ls s1.heap.objs.size f1 cc)) →
      PE (lamCx (cxOf CX0 P w K mg base N x scope f cdv A outer s H E).nox A1 outer1 s1 H1 E1 ls f1 cc) body (tCallS (SpDX K n pre post xpost) (fun _ => E1) (taOf K wa)))
    (hg : Gl (cxOf CX0 P w K mg base N x scope f cdv A outer s H E).nox tn := by rfl) (L : lamSB scope ls = true := by decide +kernel) (hNg : Ng[0]? = some a := by rfl) (hva : Vis sg a := by first | exact Or.inl rfl | exact Or.inr (Or.inl rfl))
    (nd : defaultsOf params (cxOf CX0 P w K mg base N x scope f cdv A outer s H E).nox.env = ([], []) := by rfl) (bnd : ∀ (q : Str) (cl : List (Str × Addr)) (pm cv ctv : Value), bindArgs (PySem.W.kla_fn "<lambda>" q params body ls cl pm cv ctv) ⟨[], []⟩ = pure [] := by intros; rfl)
    (hdb : (tn == ("__debug__" : Str)) = false := by decide) (hd : (a == ("__debug__" : Str)) = false := by decide) (hcd2 : (a == ("__classdict__" : Str)) = false := by decide) :
    De (cxOf CX0 P w K mg base N x scope f cdv A outer s H E).nox (.Call (.Name tn p) [.Lambda params body ls lpos] [] pos) (wTold n pre post xpost cn fl r1 r2 wa) := by
  obtain ⟨c, Pt, hc, tb, mem, one⟩ := M.ex
  obtain ⟨oc, od, dV, kV, doc, pm, an, cdg, ct, osl, rfl, lk, hcg, _, _⟩ := Fg.ex
  exact de_told (X := (cxOf CX0 P w K mg base N x scope f cdv A outer s H E).nox) (T := tabsK K) (pe_lamT hg hmg Fg.kp lk hcg hb Sg hNg hva (give _ rfl rfl cdg _) tb (hcd.symm.trans hc) mem one hr (lamS_by L) nd bnd (fun A1 o1 s1 H1 E1 f1 cc hr1 => hbody A1 o1 s1 H1 E1 f1 cc hr1) hdb hd hcd2) rfl e.ex
end
section
variable {X : Cx} {e : Expr} {es : List Expr} {pos : Pos}
/-- a def that may raise, called where it does not -/
theorem de_callN {k n : Nat} {f : Addr} {fd : FuncData} {ps : List Str} {pre : List S → Prop} {post : List S → DV → Prop} {xpost : List S → XV → Prop} {x : Str} {p : Pos} {wa : DA}
    (F : FnOk X.prog X.w X.K X.mg X.base (L2.CX X.prog X.w) k f fd ps (SpDX X.K n pre post xpost)) (hr : Room k X.A) (hg : Gl X x) (hm : X.mg x = some (.ref f)) (hk : PySem.W.keepIn X.K (.ref f) = true) (hb : Binds X.K fd ps [])
    (ha : Da X (e :: es) wa) (hdb : (x == ("__debug__" : Str)) = false := by decide) (he : starEach (e :: es) X.env = (false, eval e X.env) :: starEach es X.env := by rfl) (hpl : (backTo pos (starEach es X.env)).any (·.1) = false := by rfl) :
    De X (.Call (.Name x p) (e :: es) [] pos) (wCallX (fun _ => False) n pre post xpost wa) := by
  obtain ⟨ta, pa, va⟩ := ha.ex
  refine ⟨_, pe_callS (E := L2.WE (fun _ _ _ _ => False)) F hr hg hm hk hb (fun σ => passAt LamX.takes0 σ) pa hdb he hpl, ?_⟩
  intro J B0 H0 B H σ δ e k h Q q
  show ta σ H _
  refine va e _ h _ fun xs vs B1 H1 h1 g1 w1 r1 => ?_
  obtain ⟨ss, hs, hn, hp, h1, hx1⟩ := h1
  obtain ⟨B2, g2, w2, _, r2, _⟩ := r1.args e.nod g1 w1 hs
  exact ⟨J, B2, ss, hn, r2, ⟨g2.bh, e.jl.2⟩, w2, hp, fun r v B' H' po g w rr => q r v B' H' (h1 r po).2 (g2.trans g) w ((rv_any rr (h1 r po).1 σ δ).back g2.ne), fun x cls d B' H' hxp => (hx1 x hxp).elim⟩
end
end Dl
/-! the head of a law with lambdas and errors -/
namespace Dl
open PySem PySem.Spec PyProof.Rows L2
open LamX (TabB Tabs TabS)
theorem lamMk_of {K : PySem.W.Frag} {mg : Str → Option Value} {base : Heap} {x : Str} {params : Arguments} {body : List Stmt} {scope : Scope} {dvs : List V} {kws : List (Str × V)} {fd : FuncData} (F : FunD K x x params body scope dvs kws (He.fAd K (x, none)) fd)
    (tb : TabB base mg (He.cT K (x, none)).1 (He.cT K (x, none)).2) (mem : x ∈ lamNm K) (one : ∀ p ∈ tabsK K, p.1 = (He.cT K (x, none)).2 → p.2 = x ++ ".<locals>." ++ "<lambda>") : LamMk K mg base x fd := by
  obtain ⟨oc, od, dV, kV, doc, pm, an, cdv, ct, osl, rfl, lk, hcd, _, _⟩ := F.ex
  obtain ⟨c, rfl⟩ := He.codeIn_ref hcd
  have e : He.codeOf K (x, none) = c := He.codeOf_eq lk rfl
  refine ⟨(He.cT K (x, none)).1, _, ?_, tb, List.mem_map.mpr ⟨x, mem, rfl⟩, one⟩
  show Value.ref c = .ref (He.codeOf K (x, none))
  rw [e]
/-- what the head says of the law's defs that make lambdas -/
def lamB (law makers : List Str) (K : PySem.W.Frag) : Bool := (lamNm K).all (fun x => decide (x ∈ law)) && makers.all fun x => decide (x ∈ lamNm K) && (tabsK K).all fun p => !decide (p.1 = (He.cT K (x, none)).2) || decide (p.2 = x ++ ".<locals>." ++ "<lambda>")
theorem lamB_law {law makers : List Str} {K : PySem.W.Frag} (h : lamB law makers K = true) {x : Str} (hx : x ∈ lamNm K) : x ∈ law := by
  obtain ⟨h1, _⟩ := Bool.and_eq_true_iff.mp h
  exact of_decide_eq_true (List.all_eq_true.mp h1 x hx)
theorem lamB_mk {law makers : List Str} {K : PySem.W.Frag} (h : lamB law makers K = true) {x : Str} (hx : x ∈ makers) : x ∈ lamNm K ∧ ∀ p ∈ tabsK K, p.1 = (He.cT K (x, none)).2 → p.2 = x ++ ".<locals>." ++ "<lambda>" := by
  obtain ⟨_, h2⟩ := Bool.and_eq_true_iff.mp h
  obtain ⟨h3, h4⟩ := Bool.and_eq_true_iff.mp (List.all_eq_true.mp h2 x hx)
  refine ⟨of_decide_eq_true h3, fun p hp e => ?_⟩
  have := List.all_eq_true.mp h4 p hp
  rcases Bool.or_eq_true_iff.mp this with z | z
  · rw [Bool.not_eq_true', decide_eq_false_iff_not] at z
    exact absurd e z
  · exact of_decide_eq_true z
def noTb (H : Hp) : Hp := fun b => match H b with
  | some (.tbl _) => none
  | o => o
theorem noTb_at {H : Hp} {b : Addr} {o : HO} (h : H b = some o) (n : ∀ ps, o ≠ .tbl ps) : noTb H b = some o := by
  unfold noTb
  rw [h]
  cases o <;> first | rfl | exact absurd rfl (n _)
theorem noTb_of {H : Hp} {b : Addr} {o : HO} (h : noTb H b = some o) : H b = some o ∧ ∀ ps, o ≠ .tbl ps := by
  unfold noTb at h
  split at h
  · cases h
  · rename_i z
    refine ⟨h, fun ps e => ?_⟩
    subst e
    exact z ps h
theorem law_inT {K : PySem.W.Frag} {H : Hp} {a : Addr} {ns : List Int} {pre : List S → Prop} {post : List S → DV → Prop} {law : List Str} (hl : ∀ x ∈ lamNm K, x ∈ law) (hp : pre [.val (.frl (ns.map .int))]) (hpo : ∀ r, post [.val (.frl (ns.map .int))] r → r = .c (.bl true))
    (hT : ∀ p ∈ (law.map fun x => (x, none)).map (He.cT K), H p.2 = some (.tbl #[])) (hS : SqL K H a (ns.map V.int)) : SpD K 1 pre post [.ref a] H (fun v _ => v = .bl true) (fun _ _ _ => False) := by
  refine ⟨⟨none, tabsK K⟩, noTb H, [.val (.frl (ns.map .int))], rfl, ⟨_, _, rfl, ?_, rfl⟩, ⟨fun b o e => (noTb_of e).1, rfl⟩, ⟨fun _ z => (nomatch (show (none : Option Addr) = some _ from z)), ?_, fun b ps e => (noTb_of e).2 ps rfl⟩, hp, fun r v B' H' po _ _ rr => ?_⟩
  · show Rep _ _ _ _
    rw [Rep]
    refine ⟨a, _, rfl, ?_, reps_ints ns⟩
    rcases hS with (h | ⟨o, h⟩) | h
    · exact .inl (.inl (noTb_at h (fun _ z => by cases z)))
    · exact .inl (.inr ⟨o, noTb_at h (fun _ z => by cases z)⟩)
    · exact .inr h
  · intro p hp
    obtain ⟨x, hx, rfl⟩ := List.mem_map.mp hp
    exact TabS.nil (hT _ (List.mem_map.mpr ⟨(x, none), List.mem_map.mpr ⟨x, hl x hx, rfl⟩, rfl⟩))
  · have po := hpo r po
    subst po
    exact rv_bl rr
def clsInit (s : Stmt) : Stmt := match s with
  | .ClassDef _ _ _ body _ _ _ _ _ _ _ => (body.find? fun st => match st with | .FunctionDef _ _ _ _ _ _ _ _ _ _ => true | _ => false).getD (.Pass ⟨0, 0, 0, 0⟩)
  | _ => .Pass ⟨0, 0, 0, 0⟩
end Dl
-- sixth
namespace Km
/-! terms raised -/
def rzL (n : Int) (cs : List Int) (es : List Nat) : List Int := List.zipWith (fun c (d : Nat) => if (d : Int) < c then c + n else c) cs es
def rz (n : Int) (ns : List Int) : List Int := rzL n ns (dep [0] ns)
theorem rzL_cons {n c : Int} {d : Nat} {cs : List Int} {es : List Nat} : rzL n (c :: cs) (d :: es) = (if (d : Int) < c then c + n else c) :: rzL n cs es := rfl
theorem dep_rzL {n : Int} (hn : 0 ≤ n) : ∀ {cs : List Int} {st : List Nat}, (∀ c ∈ cs, -1 ≤ c) → dep st (rzL n cs (dep st cs)) = dep st cs
  | [], st, _ => by cases st <;> rfl
  | c :: cs, [], _ => by
    show dep [] (rzL n (c :: cs) []) = []
    rfl
  | c :: cs, d :: st, h => by
    rw [dep_cons, rzL_cons, dep_cons]
    have e : stk d st (if (d : Int) < c then c + n else c) = stk d st c := by
      by_cases hc : (d : Int) < c
      · rw [if_pos hc]
        unfold stk
        rw [if_neg (by omega), if_neg (by omega), if_neg (by omega), if_neg (by omega)]
      · rw [if_neg hc]
    rw [e, dep_rzL hn fun x hx => h x (List.mem_cons_of_mem _ hx)]
theorem jI_rzL {n : Int} (hn : 0 ≤ n) : ∀ {cs : List Int} {es : List Nat} {w : Nat}, es.length = cs.length → jI w (rzL n cs es) = jI w cs
  | [], [], _, _ => rfl
  | c :: cs, d :: es, w, h => by
    rw [rzL_cons]
    unfold jI
    have e : up (if (d : Int) < c then c + n else c) w = up c w := by
      by_cases hc : (d : Int) < c
      · rw [if_pos hc]
        unfold up
        rw [if_neg (by omega), if_pos (by omega), if_neg (by omega), if_pos (by omega)]
      · rw [if_neg hc]
    rw [e, jI_rzL hn (by simpa using h)]
  | [], _ :: _, _, h => by simp at h
  | _ :: _, [], _, h => by simp at h
theorem rzL_len {n : Int} {cs : List Int} {es : List Nat} (h : es.length = cs.length) : (rzL n cs es).length = cs.length := by
  unfold rzL; rw [List.length_zipWith, h, Nat.min_self]
theorem rzL_mem {n : Int} {x : Int} : ∀ {cs : List Int} {es : List Nat}, x ∈ rzL n cs es → ∃ c ∈ cs, ∃ d : Nat, x = if (d : Int) < c then c + n else c
  | [], es, h => by unfold rzL at h; simp at h
  | _ :: _, [], h => by unfold rzL at h; simp at h
  | c :: cs, d :: es, h => by
    rw [rzL_cons] at h
    rcases List.mem_cons.mp h with rfl | h
    · exact ⟨c, List.mem_cons_self, d, rfl⟩
    · obtain ⟨c', h1, d', h2⟩ := rzL_mem h
      exact ⟨c', List.mem_cons_of_mem _ h1, d', h2⟩
theorem rzL_add {a b : Int} (ha : 0 ≤ a) : ∀ {cs : List Int} {es : List Nat}, rzL b (rzL a cs es) es = rzL (a + b) cs es
  | [], es => by cases es <;> rfl
  | _ :: _, [] => rfl
  | c :: cs, d :: es => by
    rw [rzL_cons, rzL_cons, rzL_cons, rzL_add ha]
    congr 1
    by_cases hc : (d : Int) < c
    · rw [if_pos hc, if_pos (by omega), if_pos hc]; omega
    · rw [if_neg hc, if_neg hc, if_neg hc]
theorem rzL_get {n : Int} {cs : List Int} {es : List Nat} {i : Nat} {c : Int} {d : Nat} (h1 : cs[i]? = some c) (h2 : es[i]? = some d) : (rzL n cs es)[i]? = some (if (d : Int) < c then c + n else c) := by
  unfold rzL; rw [List.getElem?_zipWith, h1, h2]
/-- whole terms of any size -/
structure Wt (ns : List Int) : Prop where
  jd : jI 1 ns = true
  lo : ∀ c ∈ ns, -1 ≤ c
theorem Wt.dl {ns : List Int} (h : Wt ns) : (dep [0] ns).length = ns.length := dep_len (st := [0]) h.jd h.lo
theorem Tm.wt {ns : List Int} (t : Tm ns) : Wt ns := ⟨t.jd, fun c h => (t.rng c h).1⟩
theorem Wt.rz {ns : List Int} (h : Wt ns) {n : Int} (hn : 0 ≤ n) : Wt (rz n ns) := ⟨by
  unfold Km.rz; rw [jI_rzL hn h.dl]; exact h.jd, fun x hx => by
  obtain ⟨c, hc, d, rfl⟩ := rzL_mem hx
  have := h.lo c hc
  split <;> omega⟩
theorem rz_len {n : Int} {ns : List Int} (h : Wt ns) : (rz n ns).length = ns.length := rzL_len h.dl
theorem rz_dep {n : Int} {ns : List Int} (h : Wt ns) (hn : 0 ≤ n) : dep [0] (rz n ns) = dep [0] ns := dep_rzL hn h.lo
theorem rz_add {a b : Int} {ns : List Int} (h : Wt ns) (ha : 0 ≤ a) : rz b (rz a ns) = rz (a + b) ns := by
  unfold rz at *
  rw [show dep [0] (rzL a ns (dep [0] ns)) = dep [0] ns from rz_dep h ha, rzL_add ha]
theorem rz_up {a b : Int} {ns : List Int} {B : Int} (ha : a ≤ b) (hb : ∀ x ∈ rz b ns, x ≤ B) : ∀ x ∈ rz a ns, x ≤ B := by
  intro x hx
  unfold rz at *
  obtain ⟨i, hi⟩ := List.mem_iff_getElem?.mp hx
  have e : (rzL a ns (dep [0] ns))[i]? = some x := hi
  unfold rzL at e
  rw [List.getElem?_zipWith] at e
  cases h1 : ns[i]? with
  | none => rw [h1] at e; cases e
  | some c =>
    cases h2 : (dep [0] ns)[i]? with
    | none => rw [h1, h2] at e; cases e
    | some d =>
      rw [h1, h2] at e
      have := hb _ (List.mem_of_getElem? (rzL_get (n := b) h1 h2))
      have e2 : (if (d : Int) < c then c + a else c) = x := Option.some.inj e
      rw [← e2]
      split at this <;> split <;> omega
end Km
namespace Dl
open PySem PySem.Spec PyProof.Rows L2 Km
/-! terms made of terms: what they may be, and what is refused -/
def limD (ns : List Int) : D := if (400 : Int) < (ns.length : Int) then .int 400 else if (ns.any fun x => decide (1000 < x)) = true then .int 1000 else .non
theorem limD_non {ns : List Int} (h : limD ns = .non) : ns.length ≤ 400 ∧ ∀ x ∈ ns, x ≤ 1000 := by
  unfold limD at h
  split at h
  · cases h
  · split at h
    · cases h
    · rename_i h1 h2
      refine ⟨by omega, fun x hx => ?_⟩
      rcases Int.lt_or_le 1000 x with z | z
      · exact absurd (List.any_eq_true.mpr ⟨x, hx, by simpa using z⟩) h2
      · exact z
theorem limD_ok {ns : List Int} (h1 : ns.length ≤ 400) (h2 : ∀ x ∈ ns, x ≤ 1000) : limD ns = .non := by
  unfold limD
  rw [if_neg (by omega), if_neg fun z => by
    obtain ⟨x, hx, hx2⟩ := List.any_eq_true.mp z
    have := h2 x hx
    have : (1000 : Int) < x := by simpa using hx2
    omega]
theorem limD_long {ns : List Int} (h : 400 < ns.length) : limD ns = .int 400 := by
  unfold limD; rw [if_pos (by omega)]
theorem limD_big {ns : List Int} {x : Int} (h : ns.length ≤ 400) (hx : x ∈ ns) (h2 : 1000 < x) : limD ns = .int 1000 := by
  unfold limD; rw [if_neg (by omega), if_pos (List.any_eq_true.mpr ⟨x, hx, by simpa using h2⟩)]
theorem limD_cases (ns : List Int) : limD ns = .non ∨ ∃ i, limD ns = .int i := by
  unfold limD
  split
  · exact .inr ⟨_, rfl⟩
  · split
    · exact .inr ⟨_, rfl⟩
    · exact .inl rfl
theorem Wt.tm {ns : List Int} (h : Wt ns) (hl : limD ns = .non) : Tm ns := ⟨(limD_non hl).1, fun c hc => ⟨h.lo c hc, (limD_non hl).2 c hc⟩, h.jd⟩
def pre_raised_parts : List S → Prop
  | [.val t, .val (.int n)] => ∃ ns : List Int, t = tI ns ∧ Wt ns ∧ ns.length ≤ 10000
  | _ => False
def post_raised_parts : List S → DV → Prop
  | [.val t, .val (.int n)], r => r = .f ((rz n (unI t)).map .int)
  | _, _ => False
def w_raised_parts_1 : DE := wIf (wB (wOp rGt (wVar 3) (wVar 4))) (wOp rPlus (wVar 3) (wVar 1)) (wVar 3)
def w_raised_parts_2 : DS := wRet (wLc (wcZip (waCons (wVar 0) (waCons (wVar 2) (waNil)))) [3, 4] (wgTup 2 (wgCons (wgName 3) (wgCons (wgName 4) (wgNil)))) (wYes) w_raised_parts_1)
def w_raised_parts : DS := wSeq (wSet 2 (wCall 1 pre_depths_in post_depths_in (waCons (wVar 0) (waNil)))) (w_raised_parts_2)
theorem goal_raised_parts : Goal w_raised_parts ["term", "number", "depths", "part", "depth"] 2 pre_raised_parts post_raised_parts := by
  intro xs hl hp
  unfold pre_raised_parts at hp
  split at hp
  · rename_i t n
    obtain ⟨ns, rfl, hw, hlen⟩ := hp
    unfold w_raised_parts
    simp only [List.length_cons, List.length_nil]
    sleep 90002
    refine ⟨rfl, ⟨ns, rfl, hw.jd, hw.lo, hlen⟩, fun r hr => ?_⟩
    simp only [post_depths_in, unI_tI] at hr
    subst hr
    sleep 90001
    unfold w_raised_parts_2
    sleep 90001
    unfold wLc
    sleep 90001
    have hdl := hw.dl
    refine ⟨by simp, fun i acc => acc = ((rz n ns).take i).map .int, rfl, ?_, ?_, ?_⟩
    · intro i d acc hd hacc _
      unfold zipD at hd
      rw [List.getElem?_zipWith, List.getElem?_map, List.getElem?_map] at hd
      cases h1 : ns[i]? with
      | none => rw [h1] at hd; cases hd
      | some c =>
        cases h2 : (dep [0] ns)[i]? with
        | none => rw [h1, h2] at hd; cases hd
        | some e =>
          rw [h1, h2] at hd
          cases hd
          refine ⟨_, rfl, rfl, _, _, rfl, _, _, rfl, rfl, ?_⟩
          have hz : (rz n ns)[i]? = some (if (e : Int) < c then c + n else c) := rzL_get h1 h2
          have ht : (rz n ns).take (i + 1) = (rz n ns).take i ++ [if (e : Int) < c then c + n else c] := by
            rw [List.take_add_one, hz]; rfl
          unfold w_raised_parts_1
          simp only [wipeD]
          sleep 90001
          by_cases hlt : (e : Int) < c
          · rw [if_pos hlt]
            rw [ht, hacc, if_pos hlt, List.map_append]
            rfl
          · rw [if_neg hlt]
            rw [ht, hacc, if_neg hlt, List.map_append]
            rfl
    · unfold zipD
      rw [List.length_zipWith, List.length_map]
      omega
    · intro acc hacc _
      unfold zipD at hacc
      rw [List.length_zipWith, List.length_map, List.length_map, hdl, Nat.min_self] at hacc
      rw [← rz_len (n := n) hw, List.take_length] at hacc
      subst hacc
      simp only [post_raised_parts, unI_tI]
  · exact hp.elim
def pre_passed_limit : List S → Prop
  | [.val t] => ∃ ns : List Int, t = tI ns ∧ ns ≠ []
  | _ => False
def post_passed_limit : List S → DV → Prop
  | [.val t], r => r = .c (limD (unI t))
  | _, _ => False
def w_passed_limit_1 : DS := wRet (wC .non)
def w_passed_limit_2 : DS := wSeq (wIfS (wB (wOp rGt (wCB cMax1 (waCons (wVar 0) (waNil))) (wC (.int c_MAX_VARIABLE)))) (wRet (wC (.int c_MAX_VARIABLE))) ((fun R δ => R.nx δ))) (w_passed_limit_1)
def w_passed_limit : DS := wSeq (wIfS (wB (wOp rGt (wCB cLen (waCons (wVar 0) (waNil))) (wC (.int c_MAX_PARTS)))) (wRet (wC (.int c_MAX_PARTS))) ((fun R δ => R.nx δ))) (w_passed_limit_2)
theorem goal_passed_limit : Goal w_passed_limit ["term"] 1 pre_passed_limit post_passed_limit := by
  intro xs hl hp
  unfold pre_passed_limit at hp
  split at hp
  · rename_i t
    obtain ⟨ns, rfl, hne⟩ := hp
    unfold w_passed_limit
    simp only [List.length_cons, List.length_nil]
    sleep 90001
    by_cases h4 : (400 : Int) < ((ns.map D.int).length : Int)
    · rw [if_pos h4]
      rw [List.length_map] at h4
      simp only [post_passed_limit, unI_tI]
      rw [limD_long (by omega)]
    · rw [if_neg h4]
      rw [List.length_map] at h4
      unfold w_passed_limit_2
      sleep 90001
      unfold cMax1
      refine ⟨ns, rfl, hne, fun m h1 h2 => ?_⟩
      sleep 90001
      by_cases hm : (1000 : Int) < m
      · rw [if_pos hm]
        simp only [post_passed_limit, unI_tI]
        rw [limD_big (by omega) h1 hm]
      · rw [if_neg hm]
        unfold w_passed_limit_1
        sleep 90001
        simp only [post_passed_limit, unI_tI]
        rw [limD_ok (by omega) fun x hx => by have := h2 x hx; omega]
  · exact hp.elim
def tooMany (i : Int) : XV := ("TooMany", [("limit", .int i)])
def pre_Xcheck_limits : List S → Prop := pre_passed_limit
def post_Xcheck_limits : List S → DV → Prop
  | [.val t], r => limD (unI t) = .non ∧ r = .c .non
  | _, _ => False
def xpost_Xcheck_limits : List S → XV → Prop
  | [.val t], x => ∃ i, limD (unI t) = .int i ∧ x = tooMany i
  | _, _ => False
def w_Xcheck_limits_1 (q : XV → Prop) : DS := wIfS (wB (wOp rNotN (wVar 1) (wC .non))) (wRaise q "TooMany" "limit" (wVar 1)) ((fun R δ => R.nx δ))
def w_Xcheck_limits (q : XV → Prop) : DS := wSeq (wSet 1 (wCall 1 pre_passed_limit post_passed_limit (waCons (wVar 0) (waNil)))) (w_Xcheck_limits_1 q)
theorem goal_Xcheck_limits : GoalX w_Xcheck_limits ["term", "limit"] 1 pre_Xcheck_limits post_Xcheck_limits xpost_Xcheck_limits := by
  intro xs hl hp
  unfold pre_Xcheck_limits pre_passed_limit at hp
  split at hp
  · rename_i t
    obtain ⟨ns, rfl, hne⟩ := hp
    unfold w_Xcheck_limits
    simp only [List.length_cons, List.length_nil]
    sleep 90002
    refine call_one (x := limD ns) rfl ⟨ns, rfl, hne⟩ (fun r q => by simpa only [post_passed_limit, unI_tI] using q) ?_
    sleep 90001
    unfold w_Xcheck_limits_1
    sleep 90001
    rcases limD_cases ns with h | ⟨i, h⟩
    · rw [h]
      simp [isNone, post_Xcheck_limits, unI_tI, h]
    · rw [h]
      simp only [isNone, wRaise]
      sleep 90001
      exact ⟨i, by rw [unI_tI]; exact h, rfl⟩
  · exact hp.elim
/-- what comes of a term that is made: it, or the bound -/
def madeP (f : List S → List Int) : List S → DV → Prop := fun xs r => limD (f xs) = .non ∧ r = .c (tI (f xs))
def madeX (f : List S → List Int) : List S → XV → Prop := fun xs x => ∃ i, limD (f xs) = .int i ∧ x = tooMany i
theorem limits_call {ns : List Int} {k : DV → Prop} {q : XV → Prop} (hne : ns ≠ []) (h1 : limD ns = .non → k (.c .non)) (h2 : ∀ i, limD ns = .int i → q (tooMany i)) :
    [S.val (.tup (ns.map .int))].length = 1 ∧ pre_Xcheck_limits [S.val (.tup (ns.map .int))] ∧ (∀ r, post_Xcheck_limits [S.val (.tup (ns.map .int))] r → r ≠ .j ∧ k r) ∧ ∀ x, xpost_Xcheck_limits [S.val (.tup (ns.map .int))] x → q x := by
  show [S.val (tI ns)].length = 1 ∧ pre_Xcheck_limits [S.val (tI ns)] ∧ (∀ r, post_Xcheck_limits [S.val (tI ns)] r → r ≠ .j ∧ k r) ∧ ∀ x, xpost_Xcheck_limits [S.val (tI ns)] x → q x
  refine ⟨rfl, ⟨ns, rfl, hne⟩, fun r hr => ?_, fun x hx => ?_⟩
  · obtain ⟨a, rfl⟩ := hr
    rw [unI_tI] at a
    exact ⟨by simp, h1 a⟩
  · obtain ⟨i, a, rfl⟩ := hx
    rw [unI_tI] at a
    exact h2 i a
def pre_Xraised_term : List S → Prop
  | [.val t, .val (.int n)] => ∃ ns : List Int, t = tI ns ∧ Tm ns ∧ 0 ≤ n ∧ n ≤ 1000
  | _ => False
def rzS : List S → List Int
  | [.val t, .val (.int n)] => rz n (unI t)
  | _ => []
def post_Xraised_term : List S → DV → Prop := madeP rzS
def xpost_Xraised_term : List S → XV → Prop := madeX rzS
def w_Xraised_term_1 (q : XV → Prop) : DS := wRet (wVar 2)
def w_Xraised_term_2 (q : XV → Prop) : DS := wSeq (wDrop (wCallX q 1 pre_Xcheck_limits post_Xcheck_limits xpost_Xcheck_limits (waCons (wVar 2) (waNil)))) (w_Xraised_term_1 q)
def w_Xraised_term_3 (q : XV → Prop) : DS := wSeq (wSet 2 (wCB cTuple (waCons (wCall 2 pre_raised_parts post_raised_parts (waCons (wVar 0) (waCons (wVar 1) (waNil)))) (waNil)))) (w_Xraised_term_2 q)
def w_Xraised_term_4 (q : XV → Prop) : DS := wSeq (wIfS (wNotT (wB (wCall 3 pre_is_whole_within post_is_whole_within (waCons (wVar 1) (waCons (wC (.int 0)) (waCons (wC (.int c_MAX_VARIABLE)) (waNil))))))) (wNever) ((fun R δ => R.nx δ))) (w_Xraised_term_3 q)
def w_Xraised_term (q : XV → Prop) : DS := wSeq (wDrop (wCall 1 pre_check_term post_check_term (waCons (wVar 0) (waNil)))) (w_Xraised_term_4 q)
theorem goal_Xraised_term : GoalX w_Xraised_term ["term", "number", "raised"] 2 pre_Xraised_term post_Xraised_term xpost_Xraised_term := by
  intro xs hl hp
  unfold pre_Xraised_term at hp
  split at hp
  · rename_i t n
    obtain ⟨ns, rfl, ht, n0, n1⟩ := hp
    have hlen := ht.len
    unfold w_Xraised_term w_Xraised_term_4
    simp only [List.length_cons, List.length_nil]
    sleep 90002
    refine call_one (x := .non) rfl ⟨ns, rfl, ht⟩ (fun r q => q) ?_
    refine call_one (x := .bl true) rfl (by simp [pre_is_whole_within, noTy]) (fun r q => by
      simp only [post_is_whole_within, within] at q
      rw [q]
      have z : c_MAX_VARIABLE = 1000 := rfl
      unfold WE
      simp
      omega) ?_
    unfold w_Xraised_term_3
    sleep 90002
    refine call_at (.f ((rz n ns).map .int)) (by simp) rfl ⟨ns, rfl, ht.wt, by omega⟩ (fun r q => by
      simpa only [post_raised_parts, unI_tI] using q) ?_
    sleep 90001
    unfold w_Xraised_term_2 w_Xraised_term_1
    sleep 90002
    have ne : rz n ns ≠ [] := fun z => by
      have := rz_len (n := n) ht.wt
      rw [z] at this
      have := ht.pos
      simp at *
      omega
    refine limits_call ne (fun h => ?_) (fun i h => ?_)
    · exact ⟨by simpa only [rzS, unI_tI] using h, by simp only [rzS, unI_tI]⟩
    · exact ⟨i, by simpa only [rzS, unI_tI] using h, rfl⟩
  · exact hp.elim
def pre_Xcalled : List S → Prop
  | [.val t, .val v] => ∃ ns ms : List Int, t = tI ns ∧ v = tI ms ∧ Tm ns ∧ Tm ms
  | _ => False
def calledS : List S → List Int
  | [.val t, .val v] => 0 :: (unI t ++ unI v)
  | _ => []
def post_Xcalled : List S → DV → Prop := madeP calledS
def xpost_Xcalled : List S → XV → Prop := madeX calledS
def w_Xcalled_1 (q : XV → Prop) : DS := wRet (wVar 2)
def w_Xcalled_2 (q : XV → Prop) : DS := wSeq (wDrop (wCallX q 1 pre_Xcheck_limits post_Xcheck_limits xpost_Xcheck_limits (waCons (wVar 2) (waNil)))) (w_Xcalled_1 q)
def w_Xcalled_3 (q : XV → Prop) : DS := wSeq (wSet 2 (wOp rPlus (wOp rPlus (wTup (waCons (wC (.int 0)) (waNil))) (wVar 0)) (wVar 1))) (w_Xcalled_2 q)
def w_Xcalled_4 (q : XV → Prop) : DS := wSeq (wDrop (wCall 1 pre_check_term post_check_term (waCons (wVar 1) (waNil)))) (w_Xcalled_3 q)
def w_Xcalled (q : XV → Prop) : DS := wSeq (wDrop (wCall 1 pre_check_term post_check_term (waCons (wVar 0) (waNil)))) (w_Xcalled_4 q)
theorem goal_Xcalled : GoalX w_Xcalled ["term", "other", "call"] 2 pre_Xcalled post_Xcalled xpost_Xcalled := by
  intro xs hl hp
  unfold pre_Xcalled at hp
  split at hp
  · rename_i t v
    obtain ⟨ns, ms, rfl, rfl, h1, h2⟩ := hp
    have l1 := h1.len
    have l2 := h2.len
    unfold w_Xcalled w_Xcalled_4 w_Xcalled_3
    simp only [List.length_cons, List.length_nil]
    sleep 90002
    refine call_one (x := .non) rfl ⟨ns, rfl, h1⟩ (fun r q => q) ?_
    refine call_one (x := .non) rfl ⟨ms, rfl, h2⟩ (fun r q => q) ?_
    (repeat (refine And.intro ?_ ?_; · (first | rfl | decide | omega | (simp; done) | (simp; omega))))
    (try sleep 90001)
    unfold w_Xcalled_2 w_Xcalled_1
    sleep 90002
    have e : (D.int 0 :: (ns.map D.int ++ ms.map D.int)) = (0 :: (ns ++ ms)).map D.int := by simp
    rw [e]
    refine limits_call (ns := 0 :: (ns ++ ms)) (by simp) (fun h => ?_) (fun i h => ?_)
    · exact ⟨by simpa only [calledS, unI_tI] using h, by simp only [calledS, unI_tI]⟩
    · exact ⟨i, by simpa only [calledS, unI_tI] using h, rfl⟩
  · exact hp.elim
def pre_Xfunction_with : List S → Prop
  | [.val t] => ∃ ns : List Int, t = tI ns ∧ Tm ns
  | _ => False
def funS : List S → List Int
  | [.val t] => -1 :: unI t
  | _ => []
def post_Xfunction_with : List S → DV → Prop := madeP funS
def xpost_Xfunction_with : List S → XV → Prop := madeX funS
def w_Xfunction_with_1 (q : XV → Prop) : DS := wRet (wVar 1)
def w_Xfunction_with_2 (q : XV → Prop) : DS := wSeq (wDrop (wCallX q 1 pre_Xcheck_limits post_Xcheck_limits xpost_Xcheck_limits (waCons (wVar 1) (waNil)))) (w_Xfunction_with_1 q)
def w_Xfunction_with_3 (q : XV → Prop) : DS := wSeq (wSet 1 (wOp rPlus (wTup (waCons (wUn rNeg (wC (.int 1))) (waNil))) (wVar 0))) (w_Xfunction_with_2 q)
def w_Xfunction_with (q : XV → Prop) : DS := wSeq (wDrop (wCall 1 pre_check_term post_check_term (waCons (wVar 0) (waNil)))) (w_Xfunction_with_3 q)
theorem goal_Xfunction_with : GoalX w_Xfunction_with ["term", "function"] 1 pre_Xfunction_with post_Xfunction_with xpost_Xfunction_with := by
  intro xs hl hp
  unfold pre_Xfunction_with at hp
  split at hp
  · rename_i t
    obtain ⟨ns, rfl, h1⟩ := hp
    have l1 := h1.len
    unfold w_Xfunction_with w_Xfunction_with_3
    simp only [List.length_cons, List.length_nil]
    sleep 90002
    refine call_one (x := .non) rfl ⟨ns, rfl, h1⟩ (fun r q => q) ?_
    (repeat (refine And.intro ?_ ?_; · (first | rfl | decide | omega | (simp; done) | (simp; omega))))
    (try sleep 90001)
    unfold w_Xfunction_with_2 w_Xfunction_with_1
    sleep 90002
    refine limits_call (ns := -1 :: ns) (by simp) (fun h => ?_) (fun i h => ?_)
    · exact ⟨by simpa only [funS, unI_tI] using h, by simp only [funS, unI_tI]; rfl⟩
    · exact ⟨i, by simpa only [funS, unI_tI] using h, rfl⟩
  · exact hp.elim
/-! the law's own raising -/
def pre__law_raised_open : List S → Prop
  | [.val t, .val (.int n)] => ∃ ns : List Int, t = tI ns ∧ Wt ns ∧ ns.length ≤ 10000
  | _ => False
def post__law_raised_open : List S → DV → Prop
  | [.val t, .val (.int n)], r => r = .f ((rz n (unI t)).map .int)
  | _, _ => False
def w__law_raised_open_1 : DE := wIf (wB (wOp rGt (wVar 4) (wOp rIxD (wVar 2) (wVar 3)))) (wOp rPlus (wVar 4) (wVar 1)) (wVar 4)
def w__law_raised_open_2 : DS := wRet (wLc (wcEnum (waCons (wVar 0) (waNil))) [3, 4] (wgTup 2 (wgCons (wgName 3) (wgCons (wgName 4) (wgNil)))) (wYes) w__law_raised_open_1)
def w__law_raised_open : DS := wSeq (wSet 2 (wCall 1 pre__law_depths post__law_depths (waCons (wVar 0) (waNil)))) (w__law_raised_open_2)
theorem goal__law_raised_open : Goal w__law_raised_open ["part", "more", "depths", "at", "code"] 2 pre__law_raised_open post__law_raised_open := by
  intro xs hl hp
  unfold pre__law_raised_open at hp
  split at hp
  · rename_i t n
    obtain ⟨ns, rfl, hw, hlen⟩ := hp
    unfold w__law_raised_open
    simp only [List.length_cons, List.length_nil]
    sleep 90002
    refine ⟨rfl, ⟨ns, rfl, hw.jd, hw.lo, hlen⟩, fun r hr => ?_⟩
    simp only [post__law_depths, unI_tI] at hr
    subst hr
    refine ⟨by simp, ?_⟩
    sleep 90001
    unfold w__law_raised_open_2 wLc
    sleep 90001
    have hdl := hw.dl
    refine ⟨fun i acc => acc = ((rz n ns).take i).map .int, rfl, ?_, ?_, ?_⟩
    · intro i d acc hd hacc _
      rw [enumD_get, List.getElem?_map] at hd
      cases h1 : ns[i]? with
      | none => rw [h1] at hd; cases hd
      | some c =>
        rw [h1] at hd
        cases hd
        have hlt := (List.getElem?_eq_some_iff.mp h1).1
        have h2 : (dep [0] ns)[i]? = some (dep [0] ns)[i] := List.getElem?_eq_getElem (by rw [hdl]; exact hlt)
        generalize he : (dep [0] ns)[i]'(by rw [hdl]; exact hlt) = e at h2
        refine ⟨_, rfl, rfl, _, _, rfl, _, _, rfl, rfl, ?_⟩
        have hz : (rz n ns)[i]? = some (if (e : Int) < c then c + n else c) := rzL_get h1 h2
        have ht : (rz n ns).take (i + 1) = (rz n ns).take i ++ [if (e : Int) < c then c + n else c] := by
          rw [List.take_add_one, hz]; rfl
        have ha : atI ((dep [0] ns).map nI) (i : Int) = some (nI e) := atI_of rfl (by rw [List.getElem?_map, h2]; rfl)
        unfold w__law_raised_open_1
        simp only [wipeD]
        sleep 90001
        refine ⟨_, ha, ?_⟩
        sleep 90001
        by_cases hlt : (e : Int) < c
        · rw [if_pos hlt]
          rw [ht, hacc, if_pos hlt, List.map_append]
          rfl
        · rw [if_neg hlt]
          rw [ht, hacc, if_neg hlt, List.map_append]
          rfl
    · rw [enumD_len, List.length_map]; omega
    · intro acc hacc _
      rw [enumD_len, List.length_map] at hacc
      rw [← rz_len (n := n) hw, List.take_length] at hacc
      subst hacc
      simp only [post__law_raised_open, unI_tI]
  · exact hp.elim
end Dl
-- sixth
namespace Km
/-! open variables by codes and depths -/
def opM (cs : List Int) (ds : List Nat) (x : Int) : Prop := ∃ (i : Nat) (c : Int) (d : Nat), cs[i]? = some c ∧ ds[i]? = some d ∧ (d : Int) < c ∧ x = c - (d : Int)
theorem opM_cons {c : Int} {d : Nat} {cs : List Int} {ds : List Nat} {x : Int} : opM (c :: cs) (d :: ds) x ↔ ((d : Int) < c ∧ x = c - (d : Int)) ∨ opM cs ds x := by
  constructor
  · rintro ⟨i, c', d', h1, h2, h3, h4⟩
    cases i with
    | zero =>
      simp at h1 h2
      subst h1 h2
      exact .inl ⟨h3, h4⟩
    | succ i => exact .inr ⟨i, c', d', by simpa using h1, by simpa using h2, h3, h4⟩
  · rintro (⟨h1, h2⟩ | ⟨i, c', d', h1, h2, h3, h4⟩)
    · exact ⟨0, c, d, rfl, rfl, h1, h2⟩
    · exact ⟨i + 1, c', d', by simpa using h1, by simpa using h2, h3, h4⟩
theorem opM_nil {x : Int} : ¬ opM [] [] x := by
  rintro ⟨i, c, d, h1, _⟩
  simp at h1
theorem opM_app : ∀ {cs : List Int} {ds : List Nat} {cs2 : List Int} {ds2 : List Nat} {x : Int}, ds.length = cs.length → (opM (cs ++ cs2) (ds ++ ds2) x ↔ opM cs ds x ∨ opM cs2 ds2 x)
  | [], [], _, _, x, _ => by
    rw [List.nil_append, List.nil_append]
    exact ⟨.inr, fun h => h.resolve_left opM_nil⟩
  | c :: cs, d :: ds, _, _, x, h => by
    rw [List.cons_append, List.cons_append, opM_cons, opM_cons, opM_app (by simpa using h), or_assoc]
  | [], _ :: _, _, _, _, h => by simp at h
  | _ :: _, [], _, _, _, h => by simp at h
theorem opM_up {cs : List Int} {ds : List Nat} {x : Int} : opM cs (ds.map (· + 1)) x ↔ opM cs ds (x + 1) ∧ 1 ≤ x := by
  constructor
  · rintro ⟨i, c, d, h1, h2, h3, h4⟩
    rw [List.getElem?_map] at h2
    cases h : ds[i]? with
    | none => rw [h] at h2; cases h2
    | some e =>
      rw [h] at h2
      have h2 : e + 1 = d := Option.some.inj h2
      exact ⟨⟨i, c, e, h1, h, by omega, by omega⟩, by omega⟩
  · rintro ⟨⟨i, c, d, h1, h2, h3, h4⟩, h5⟩
    exact ⟨i, c, d + 1, h1, by rw [List.getElem?_map, h2]; rfl, by omega, by omega⟩
theorem opM_rz {n : Int} (hn : 0 ≤ n) {cs : List Int} {ds : List Nat} {x : Int} : opM (rzL n cs ds) ds x ↔ opM cs ds (x - n) := by
  constructor
  · rintro ⟨i, c, d, h1, h2, h3, h4⟩
    unfold rzL at h1
    rw [List.getElem?_zipWith] at h1
    cases h : cs[i]? with
    | none => rw [h] at h1; cases h1
    | some e =>
      rw [h, h2] at h1
      have h1 : (if (d : Int) < e then e + n else e) = c := Option.some.inj h1
      by_cases he : (d : Int) < e
      · rw [if_pos he] at h1
        exact ⟨i, e, d, h, h2, he, by omega⟩
      · rw [if_neg he] at h1
        omega
  · rintro ⟨i, c, d, h1, h2, h3, h4⟩
    exact ⟨i, c + n, d, by rw [rzL_get h1 h2, if_pos h3], h2, by omega, by omega⟩
theorem stk_up1 (k d : Nat) (st : List Nat) (c : Int) : stk (d + k) (st.map (· + k)) c = (stk d st c).map (· + k) := by
  unfold stk
  split
  · rfl
  · split
    · simp; omega
    · rfl
theorem dep_shift (k : Nat) : ∀ {ns : List Int} {st : List Nat}, dep (st.map (· + k)) ns = (dep st ns).map (· + k)
  | [], st => by cases st <;> rfl
  | c :: r, [] => rfl
  | c :: r, d :: st => by
    show dep ((d + k) :: st.map (· + k)) (c :: r) = _
    rw [dep_cons, dep_cons, stk_up1, dep_shift k]
    rfl
theorem stk_app (d : Nat) (st st' : List Nat) (c : Int) : stk d (st ++ st') c = stk d st c ++ st' := by
  unfold stk
  split
  · rfl
  · split <;> rfl
theorem dep_app : ∀ {ns : List Int} {st st' : List Nat} {ms : List Int}, jI st.length ns = true → (∀ c ∈ ns, -1 ≤ c) → dep (st ++ st') (ns ++ ms) = dep st ns ++ dep st' ms
  | [], [], st', ms, _, _ => by
    rw [List.nil_append, List.nil_append]
    have : dep [] ([] : List Int) = [] := rfl
    rw [this, List.nil_append]
  | [], _ :: _, _, _, h, _ => by simp [jI] at h
  | c :: r, [], _, _, h, _ => by have := (jI_cons h).1; simp at this
  | c :: r, d :: st, st', ms, h, hc => by
    have h1 := hc c List.mem_cons_self
    have hj := (jI_cons h).2
    rw [List.cons_append, List.cons_append, dep_cons, dep_cons, stk_app, dep_app (by rw [stk_up h1]; exact hj) fun x hx => hc x (List.mem_cons_of_mem _ hx), List.cons_append]
theorem dep_fun (ns : List Int) : dep [0] (-1 :: ns) = 0 :: (dep [0] ns).map (· + 1) := by
  rw [dep_cons]
  have : stk 0 [] (-1) = [0].map (· + 1) := rfl
  rw [this, dep_shift]
theorem dep_call {ns ms : List Int} (h : Wt ns) : dep [0] (0 :: (ns ++ ms)) = 0 :: (dep [0] ns ++ dep [0] ms) := by
  rw [dep_cons]
  have : stk 0 [] 0 = [0] ++ [0] := rfl
  rw [this, dep_app (st := [0]) (st' := [0]) (ms := ms) h.jd h.lo]
theorem Wt.fn {ns : List Int} (h : Wt ns) : Wt (-1 :: ns) := ⟨by
  unfold jI
  rw [if_neg (by omega)]
  exact h.jd, fun c hc => by
  rcases List.mem_cons.mp hc with rfl | hc
  · omega
  · exact h.lo c hc⟩
theorem jI_add : ∀ {ns : List Int} {v w : Nat} {ms : List Int}, jI v ns = true → jI w ms = true → jI (v + w) (ns ++ ms) = true
  | [], v, w, ms, h1, h2 => by
    have : v = 0 := by simpa [jI] using h1
    subst this
    rw [Nat.zero_add]
    exact h2
  | c :: r, v, w, ms, h1, h2 => by
    obtain ⟨hv, hj⟩ := jI_cons h1
    rw [List.cons_append]
    unfold jI
    rw [if_neg (by omega)]
    have e : up c (v + w) = up c v + w := by unfold up; split; omega; split <;> omega
    rw [e]
    exact jI_add hj h2
theorem Wt.call {ns ms : List Int} (h : Wt ns) (g : Wt ms) : Wt (0 :: (ns ++ ms)) := ⟨by
  unfold jI
  rw [if_neg (by omega)]
  exact jI_add h.jd g.jd, fun c hc => by
  rcases List.mem_cons.mp hc with rfl | hc
  · omega
  · rcases List.mem_append.mp hc with hc | hc
    · exact h.lo c hc
    · exact g.lo c hc⟩
theorem Wt.ok {ns : List Int} (h : Wt ns) : Ok ns := ⟨h.jd, h.lo⟩
end Km
namespace Dl
open PySem PySem.Spec PyProof.Rows L2 Km
def opD (ns : List Int) (x : Int) : Prop := opM ns (dep [0] ns) x
theorem mem_opens {ns : List Int} (h : Wt ns) {x : Int} : x ∈ opens ns ↔ opD ns x := by
  unfold opens opensTo
  rw [List.mem_map]
  have dk : ∀ k, k < ns.length → (dep [0] ns)[k]? = some (dpt (wyA ns k)) := fun k hk => by
    rw [dep_wy, List.getElem?_map, wyA_at h.ok hk]; rfl
  constructor
  · rintro ⟨k, hk, rfl⟩
    obtain ⟨hk, ho⟩ := List.mem_filter.mp hk
    have hk := List.mem_range.mp hk
    exact ⟨k, cd ns k, dpt (wyA ns k), cd_at hk, dk k hk, by simpa [isOpen] using ho, rfl⟩
  · rintro ⟨i, c, d, h1, h2, h3, rfl⟩
    have hi := (List.getElem?_eq_some_iff.mp h1).1
    have e1 : cd ns i = c := Option.some.inj ((cd_at hi).symm.trans h1)
    have e2 : dpt (wyA ns i) = d := Option.some.inj ((dk i hi).symm.trans h2)
    refine ⟨i, List.mem_filter.mpr ⟨List.mem_range.mpr hi, ?_⟩, ?_⟩
    · unfold isOpen; rw [e1, e2]; simpa using h3
    · unfold opNo; rw [e1, e2]
theorem opD_rz {ns : List Int} {n : Int} (h : Wt ns) (hn : 0 ≤ n) {x : Int} : opD (rz n ns) x ↔ opD ns (x - n) := by
  unfold opD
  rw [rz_dep h hn]
  exact opM_rz hn
theorem opD_fn {ns : List Int} {x : Int} : opD (-1 :: ns) x ↔ opD ns (x + 1) ∧ 1 ≤ x := by
  unfold opD
  rw [dep_fun, opM_cons, opM_up]
  constructor
  · rintro (⟨h, _⟩ | h)
    · simp at h
    · exact h
  · exact .inr
theorem opD_call {ns ms : List Int} (h : Wt ns) {x : Int} : opD (0 :: (ns ++ ms)) x ↔ opD ns x ∨ opD ms x := by
  unfold opD
  rw [dep_call h, opM_cons, opM_app h.dl]
  constructor
  · rintro (⟨z, _⟩ | z)
    · simp at z
    · exact z
  · exact .inr
theorem opD_pos {ns : List Int} {x : Int} (h : opD ns x) : 1 ≤ x := by
  obtain ⟨i, c, d, _, _, h3, rfl⟩ := h
  omega
/-- few open variables -/
def Few (ns : List Int) (m : Nat) : Prop := ∃ L : List Int, L.length ≤ m ∧ ∀ x, opD ns x → x ∈ L
theorem Few.mono {ns : List Int} {m m' : Nat} (h : Few ns m) (le : m ≤ m') : Few ns m' := by
  obtain ⟨L, h1, h2⟩ := h
  exact ⟨L, by omega, h2⟩
theorem Few.rz {ns : List Int} {n : Int} {m : Nat} (f : Few ns m) (h : Wt ns) (hn : 0 ≤ n) : Few (rz n ns) m := by
  obtain ⟨L, h1, h2⟩ := f
  refine ⟨L.map (· + n), by rw [List.length_map]; exact h1, fun x hx => ?_⟩
  have := h2 _ ((opD_rz h hn).mp hx)
  exact List.mem_map.mpr ⟨_, this, by omega⟩
theorem Few.fn {ns : List Int} {m : Nat} (f : Few ns m) : Few (-1 :: ns) m := by
  obtain ⟨L, h1, h2⟩ := f
  refine ⟨L.map (· - 1), by rw [List.length_map]; exact h1, fun x hx => ?_⟩
  have := h2 _ (opD_fn.mp hx).1
  exact List.mem_map.mpr ⟨_, this, by omega⟩
theorem Few.call {ns ms : List Int} {a b : Nat} (f : Few ns a) (g : Few ms b) (h : Wt ns) : Few (0 :: (ns ++ ms)) (a + b) := by
  obtain ⟨L, h1, h2⟩ := f
  obtain ⟨M, g1, g2⟩ := g
  refine ⟨L ++ M, by rw [List.length_append]; omega, fun x hx => ?_⟩
  rcases (opD_call h).mp hx with z | z
  · exact List.mem_append_left _ (h2 x z)
  · exact List.mem_append_right _ (g2 x z)
theorem Few.of {ns : List Int} {m : Nat} (h : ∀ x, opD ns x → x ≤ m) : Few ns m := by
  refine ⟨(List.range m).map fun k => ((k : Nat) : Int) + 1, by rw [List.length_map, List.length_range]; exact Nat.le_refl _, fun x hx => ?_⟩
  have h1 := opD_pos hx
  have h2 := h x hx
  exact List.mem_map.mpr ⟨(x - 1).toNat, List.mem_range.mpr (by omega), by omega⟩
theorem Few.opens {ns : List Int} {m : Nat} (f : Few ns m) (h : Wt ns) : ∃ L : List Int, L.length ≤ m ∧ ∀ x ∈ opens ns, x ∈ L := by
  obtain ⟨L, h1, h2⟩ := f
  exact ⟨L, h1, fun x hx => h2 x ((mem_opens h).mp hx)⟩
/-- the ascending open variables -/
def AscO (out ns : List Int) : Prop := out.Pairwise (· < ·) ∧ ∀ x, x ∈ out ↔ opD ns x
theorem asc_opens {out ns : List Int} (h : Wt ns) (a : Asc out (opens ns)) : AscO out ns := ⟨a.1, fun x => by rw [a.2, mem_opens h]⟩
theorem AscO.eq {a b ns : List Int} (h : AscO a ns) (g : AscO b ns) : a = b := asc_eq h.1 g.1 fun k => by rw [h.2, g.2]
theorem AscO.rz {a ns : List Int} {n : Int} (h : AscO a ns) (w : Wt ns) (hn : 0 ≤ n) : AscO (a.map (· + n)) (rz n ns) := by
  refine ⟨List.pairwise_map.mpr (h.1.imp fun z => by omega), fun x => ?_⟩
  rw [List.mem_map, opD_rz w hn, ← h.2]
  constructor
  · rintro ⟨y, hy, rfl⟩
    rwa [show y + n - n = y by omega]
  · exact fun z => ⟨_, z, by omega⟩
theorem AscO.fn {a ns : List Int} (h : AscO a ns) : AscO ((a.filter fun x => decide (1 < x)).map (· - 1)) (-1 :: ns) := by
  refine ⟨List.pairwise_map.mpr ((h.1.sublist List.filter_sublist).imp fun z => by omega), fun x => ?_⟩
  rw [List.mem_map, opD_fn, ← h.2]
  constructor
  · rintro ⟨y, hy, rfl⟩
    obtain ⟨h1, h2⟩ := List.mem_filter.mp hy
    have h2 : 1 < y := by simpa using h2
    exact ⟨by rwa [show y - 1 + 1 = y by omega], by omega⟩
  · rintro ⟨h1, h2⟩
    exact ⟨x + 1, List.mem_filter.mpr ⟨h1, by simp; omega⟩, by omega⟩
theorem AscO.call {a b out ns ms : List Int} (h : AscO a ns) (g : AscO b ms) (w : Wt ns) (o : Asc out (a ++ b)) : AscO out (0 :: (ns ++ ms)) := ⟨o.1, fun x => by rw [o.2, List.mem_append, opD_call w, h.2, g.2]⟩
/-! the law's own depths, in one pass -/
def pre__law_flat_depths : List S → Prop := pre_depths_in
def post__law_flat_depths : List S → DV → Prop := post_depths_in
def w__law_flat_depths_1 : DS := wApp 2 (wOp rPlus (wVar 4) (wC (.int 1)))
def w__law_flat_depths_2 : DS := wExt 2 (wLst (waCons (wVar 4) (waCons (wVar 4) (waNil))))
def w__law_flat_depths_3 : DS := wIfS (wB (wOp rLt (wVar 3) (wC (.int 0)))) (w__law_flat_depths_1) ((fun R δ => R.nx δ))
def w__law_flat_depths_4 : DS := wSeq (wIfS (wB (wOp rEqq (wVar 3) (wC (.int 0)))) (w__law_flat_depths_2) ((fun R δ => R.nx δ))) (w__law_flat_depths_3)
def w__law_flat_depths_5 : DS := wSeq (wApp 1 (wVar 4)) (w__law_flat_depths_4)
def w__law_flat_depths_6 : DS := wSeq (wPop 2 (wgName 4)) (w__law_flat_depths_5)
def w__law_flat_depths_7 : DS := wRet (wVar 1)
def w__law_flat_depths_8 : DS := wSeq (wFor (wVar 0) (wgName 3) (w__law_flat_depths_6)) (w__law_flat_depths_7)
def w__law_flat_depths : DS := wSeq (wPar 1 2 (waCons (wLst (waNil)) (waCons (wLst (waCons (wC (.int 0)) (waNil))) (waNil)))) (w__law_flat_depths_8)
def inv__law_flat_depths (ns : List Int) (i : Nat) (δ : List S) : Prop := ∃ (made st : List Nat) (s3 s4 : S), δ = [.val (tI ns), .own (made.map nI), .own (st.reverse.map nI), s3, s4] ∧ made.length = i ∧ dep [0] ns = made ++ dep st (ns.drop i) ∧ jI st.length (ns.drop i) = true ∧ st.length ≤ i + 1
theorem goal__law_flat_depths : Goal w__law_flat_depths ["term", "found", "waiting", "code", "here"] 1 pre__law_flat_depths post__law_flat_depths := by
  intro xs hl hp
  unfold pre__law_flat_depths pre_depths_in at hp
  split at hp
  · rename_i t
    obtain ⟨ns, rfl, hj, hc, hlen⟩ := hp
    unfold w__law_flat_depths
    simp only [List.length_cons, List.length_nil]
    sleep 90001
    (repeat (refine And.intro ?_ ?_; · (first | rfl | decide | omega | (simp; done) | (simp; omega))))
    unfold w__law_flat_depths_8 wFor
    sleep 90001
    refine ⟨inv__law_flat_depths ns, ⟨[], [0], _, _, rfl, rfl, rfl, hj, Nat.le_refl _⟩, ?_, ?_⟩
    · rintro i d δ hi ⟨made, st, s3, s4, rfl, hm, hd, hs, hsl⟩
      obtain ⟨c, rfl, hci⟩ : ∃ c, d = .int c ∧ ns[i]? = some c := by
        rw [List.getElem?_map] at hi
        cases h : ns[i]? with
        | none => rw [h] at hi; cases hi
        | some c => rw [h] at hi; cases hi; exact ⟨c, rfl, rfl⟩
      have hlt := (List.getElem?_eq_some_iff.mp hci).1
      have hdr := drop_get hci
      have hc1 : -1 ≤ c := hc c (List.mem_of_getElem? hci)
      rw [hdr] at hd hs
      obtain ⟨hw, hs'⟩ := jI_cons hs
      cases st with
      | nil => simp at hw
      | cons e st =>
        have hd' : dep [0] ns = (made ++ [e]) ++ dep (stk e st c) (ns.drop (i + 1)) := by rw [hd, dep_cons]; simp
        have hs2 : jI (stk e st c).length (ns.drop (i + 1)) = true := by rw [stk_up hc1]; exact hs'
        have pop1 : ((e :: st).reverse.map nI)[((e :: st).reverse.map nI).length - 1]? = some (nI e) := by simp
        have pop2 : ((e :: st).reverse.map nI).dropLast = st.reverse.map nI := by simp
        unfold w__law_flat_depths_6
        sleep 90001
        refine ⟨_, pop1, ?_⟩
        rw [pop2]
        unfold w__law_flat_depths_5
        sleep 90001
        refine ⟨by simp; omega, ?_⟩
        have hst : st.length ≤ i := by simpa using hsl
        have fin : ∀ (δ : List S), δ = [.val (tI ns), .own (made.map nI ++ [nI e]), .own ((stk e st c).reverse.map nI), .val (.int c), .val (nI e)] → inv__law_flat_depths ns (i + 1) δ := by
          rintro δ rfl
          refine ⟨made ++ [e], stk e st c, .val (.int c), .val (nI e), by simp, by simp [hm], hd', hs2, ?_⟩
          rw [stk_up hc1]
          unfold up
          split
          · omega
          · split <;> omega
        unfold w__law_flat_depths_4 w__law_flat_depths_3 w__law_flat_depths_2 w__law_flat_depths_1
        sleep 90001
        by_cases h0 : c = 0
        · rw [if_pos (by simpa using h0)]
          subst h0
          (repeat (refine And.intro ?_ ?_; · (first | rfl | decide | omega | (simp; done) | (simp; omega))))
          rw [if_neg (by omega)]
          refine fin _ ?_
          unfold stk
          rw [if_pos rfl]
          simp
        · rw [if_neg (by simpa using h0)]
          by_cases h1 : c < 0
          · rw [if_pos h1]
            refine ⟨by simp; omega, fin _ ?_⟩
            unfold stk
            rw [if_neg h0, if_pos (by omega)]
            simp
          · rw [if_neg h1]
            refine fin _ ?_
            unfold stk
            rw [if_neg h0, if_neg (by omega)]
    · rintro δ ⟨made, st, s3, s4, rfl, hm, hd, hs, hsl⟩
      unfold w__law_flat_depths_7
      sleep 90001
      have : ns.drop (ns.map D.int).length = [] := by simp
      rw [this] at hd
      have he : dep st ([] : List Int) = [] := by unfold dep; rfl
      rw [he, List.append_nil] at hd
      simp only [post__law_flat_depths, post_depths_in, unI_tI, hd]
  · exact hp.elim
/-! the law's own open variables -/
def pre__law_opened : List S → Prop
  | [.val t] => ∃ ns : List Int, t = tI ns ∧ Wt ns ∧ ns.length ≤ 1000 ∧ Few ns 63
  | _ => False
def post__law_opened : List S → DV → Prop
  | [.val t], r => ∃ out, r = .f (out.map .int) ∧ AscO out (unI t)
  | _, _ => False
def w__law_opened_1 : DE := wOp rMinus (wVar 3) (wOp rIxD (wVar 1) (wVar 2))
def w__law_opened_2 : DS := wRet (wSortSet (wLc (wcEnum (waCons (wVar 0) (waNil))) [2, 3] (wgTup 2 (wgCons (wgName 2) (wgCons (wgName 3) (wgNil)))) (wB (wOp rGt (wVar 3) (wOp rIxD (wVar 1) (wVar 2)))) w__law_opened_1))
def w__law_opened : DS := wSeq (wSet 1 (wCall 1 pre__law_flat_depths post__law_flat_depths (waCons (wVar 0) (waNil)))) (w__law_opened_2)
def opTo (ns : List Int) (ds : List Nat) : Nat → List Int
  | 0 => []
  | i + 1 => opTo ns ds i ++ match ns[i]?, ds[i]? with
    | some c, some d => if (d : Int) < c then [c - (d : Int)] else []
    | _, _ => []
theorem opTo_len (ns : List Int) (ds : List Nat) : ∀ i, (opTo ns ds i).length ≤ i
  | 0 => Nat.le_refl _
  | i + 1 => by
    have := opTo_len ns ds i
    unfold opTo
    rw [List.length_append]
    split
    · split <;> simp <;> omega
    · simp; omega
theorem opTo_mem (ns : List Int) (ds : List Nat) {x : Int} : ∀ i, x ∈ opTo ns ds i ↔ ∃ (j : Nat) (c : Int) (d : Nat), j < i ∧ ns[j]? = some c ∧ ds[j]? = some d ∧ (d : Int) < c ∧ x = c - (d : Int)
  | 0 => by simp [opTo]
  | i + 1 => by
    unfold opTo
    rw [List.mem_append, opTo_mem ns ds i]
    constructor
    · rintro (⟨j, c, d, h1, h2, h3, h4, h5⟩ | h)
      · exact ⟨j, c, d, by omega, h2, h3, h4, h5⟩
      · split at h
        · rename_i c d e1 e2
          split at h
          · rename_i hlt
            exact ⟨i, c, d, by omega, e1, e2, hlt, by simpa using h⟩
          · simp at h
        · simp at h
    · rintro ⟨j, c, d, h1, h2, h3, h4, h5⟩
      by_cases hj : j = i
      · subst hj
        right
        rw [h2, h3]
        simp only
        rw [if_pos h4, h5]
        simp
      · exact .inl ⟨j, c, d, by omega, h2, h3, h4, h5⟩
theorem goal__law_opened : Goal w__law_opened ["term", "depths", "at", "code"] 1 pre__law_opened post__law_opened := by
  intro xs hl hp
  unfold pre__law_opened at hp
  split at hp
  · rename_i t
    obtain ⟨ns, rfl, hw, hlen, L, hL, few⟩ := hp
    unfold w__law_opened
    simp only [List.length_cons, List.length_nil]
    sleep 90002
    refine call_at (.f ((dep [0] ns).map nI)) (by simp) rfl ⟨ns, rfl, hw.jd, hw.lo, by omega⟩ (fun r q => by simpa only [post__law_flat_depths, post_depths_in, unI_tI] using q) ?_
    sleep 90001
    unfold w__law_opened_2 wRet wSortSet wLc
    sleep 90001
    have hdl := hw.dl
    refine ⟨fun i acc => acc = (opTo ns (dep [0] ns) i).map .int, rfl, ?_, ?_, ?_⟩
    · intro i d acc hd hacc _
      rw [enumD_get, List.getElem?_map] at hd
      cases h1 : ns[i]? with
      | none => rw [h1] at hd; cases hd
      | some c =>
        rw [h1] at hd
        cases hd
        have hlt := (List.getElem?_eq_some_iff.mp h1).1
        have h2 : (dep [0] ns)[i]? = some (dep [0] ns)[i] := List.getElem?_eq_getElem (by rw [hdl]; exact hlt)
        generalize he : (dep [0] ns)[i]'(by rw [hdl]; exact hlt) = e at h2
        have ha : atI ((dep [0] ns).map nI) (i : Int) = some (nI e) := atI_of rfl (by rw [List.getElem?_map, h2]; rfl)
        have hs : opTo ns (dep [0] ns) (i + 1) = opTo ns (dep [0] ns) i ++ (if (e : Int) < c then [c - (e : Int)] else []) := by
          show opTo ns (dep [0] ns) i ++ _ = _
          rw [h1, h2]
        refine ⟨_, rfl, rfl, _, _, rfl, _, _, rfl, rfl, ?_⟩
        simp only [wipeD]
        sleep 90001
        refine ⟨_, ha, ?_⟩
        sleep 90001
        rw [hs]
        by_cases hlt : (e : Int) < c
        · rw [if_pos (by simpa using hlt), if_pos hlt]
          unfold w__law_opened_1
          sleep 90001
          refine ⟨_, ha, ?_⟩
          sleep 90001
          rw [hacc, List.map_append]
          rfl
        · rw [if_neg (by simpa using hlt), if_neg hlt, List.append_nil]
          exact hacc
    · rw [enumD_len, List.length_map]; omega
    · intro acc hacc _
      rw [enumD_len, List.length_map] at hacc
      subst hacc
      have hm : ∀ x, x ∈ opTo ns (dep [0] ns) ns.length ↔ opD ns x := fun x => by
        rw [opTo_mem]
        constructor
        · rintro ⟨j, c, d, _, h2, h3, h4, h5⟩
          exact ⟨j, c, d, h2, h3, h4, h5⟩
        · rintro ⟨j, c, d, h2, h3, h4, h5⟩
          exact ⟨j, c, d, (List.getElem?_eq_some_iff.mp h2).1, h2, h3, h4, h5⟩
      refine ⟨_, rfl, by have := opTo_len ns (dep [0] ns) ns.length; omega, L, fun x hx => few x ((hm x).mp hx), by omega, fun out asc => ?_⟩
      exact ⟨out, rfl, asc.1, fun x => by rw [asc.2, hm, unI_tI]⟩
  · exact hp.elim
end Dl
-- sixth
namespace Dl
open PySem L2 Km
def pr (p : Int × Int) : D := .tup [.int p.1, .int p.2]
theorem plains_pr : ∀ l : List (Int × Int), plains (l.map pr) = true
  | [] => by rw [List.map_nil, plains]
  | p :: l => by rw [List.map_cons, plains, plains_pr l, pr, plain, plains, plains, plain, plains, plain]; rfl
def ppr (p : Int × Int) : PyData := .tuple [.int p.1, .int p.2]
theorem pys_pr : ∀ l : List (Int × Int), pys (l.map pr) = l.map ppr
  | [] => by rw [List.map_nil, pys]; rfl
  | p :: l => by rw [List.map_cons, pys, pys_pr l, pr, py, pys, pys, py, pys, py]; rfl
theorem lay_pr : ∀ l : List (Int × Int), PyData.canLayAll0 (l.map ppr) = true
  | [] => by rw [List.map_nil, PyData.canLayAll0]
  | p :: l => by rw [List.map_cons, PyData.canLayAll0, lay_pr l, ppr, PyData.canLay0, PyData.canLayAll0, PyData.canLayAll0, PyData.canLay0, PyData.canLayAll0, PyData.canLay0]; rfl
theorem depth_pr : ∀ l : List (Int × Int), PyData.depthAll (l.map ppr) ≤ 1
  | [] => by rw [List.map_nil, PyData.depthAll]; decide
  | p :: l => by
    have := depth_pr l
    rw [List.map_cons, PyData.depthAll, ppr, PyData.depth, PyData.depthAll, PyData.depthAll, PyData.depth, PyData.depthAll, PyData.depth]
    omega
theorem okD_prs (l : List (Int × Int)) : okD (.lst (l.map pr)) := by
  refine ⟨by rw [plain, plains_pr], ?_⟩
  rw [py, pys_pr]
  unfold SeqAt.shaped
  have := depth_pr l
  rw [PyData.canLay0, lay_pr, PyData.depth, decide_eq_true (by omega)]
  rfl
theorem okD_nil : okD (.lst []) := okD_prs []
theorem eqD_prs (l : List (Int × Int)) : eqD (.lst (l.map pr)) (.lst []) = l.isEmpty := by
  unfold eqD
  rw [py, py, pys_pr, pys, PyData.eqv]
  cases l with
  | nil => rw [List.map_nil, PyData.eqvAll]; rfl
  | cons p l => rw [List.map_cons, PyData.eqvAll]; rfl
/-- how many ints a place still makes at most -/
def cst (o : Int) (p : Int × Int) : Nat := if p.2 + o = 0 then 3 * (max p.1 1).toNat else (max p.1 1).toNat
def csts (o : Int) (l : List (Int × Int)) : Nat := (l.map (cst o)).sum
theorem csts_app (o : Int) (l m : List (Int × Int)) : csts o (l ++ m) = csts o l + csts o m := by
  unfold csts; rw [List.map_append, List.sum_append]
theorem csts_one (o : Int) (p : Int × Int) : csts o [p] = cst o p := by simp [csts]
theorem csts_two (o : Int) (p q : Int × Int) : csts o [p, q] = cst o p + cst o q := by simp [csts]
def stkI (d : Int) (st : List Int) (c : Int) : List Int := if c = 0 then d :: d :: st else if c = -1 then (d + 1) :: st else st
/-- each variable is at most o over its depth -/
def leO (o : Int) : List Int → List Int → Prop
  | _, [] => True
  | [], _ :: _ => True
  | d :: st, c :: r => c ≤ d + o ∧ leO o (stkI d st c) r
theorem leO_stk (d : Nat) (st : List Nat) (c : Int) : stkI (d : Int) (st.map fun k => ((k : Nat) : Int)) c = (stk d st c).map fun k => ((k : Nat) : Int) := by
  unfold stkI stk
  split
  · rfl
  · split <;> rfl
theorem leO_at {o : Int} : ∀ {ns : List Int} {st : List Nat} {i : Nat} {c : Int} {d : Nat}, leO o (st.map fun k => ((k : Nat) : Int)) ns → ns[i]? = some c → (dep st ns)[i]? = some d → c ≤ (d : Int) + o
  | [], _, _, _, _, _, h1, _ => by simp at h1
  | _ :: _, [], _, _, _, _, _, h2 => by simp [dep] at h2
  | a :: r, e :: st, i, c, d, h, h1, h2 => by
    obtain ⟨h3, h4⟩ : a ≤ (e : Int) + o ∧ leO o (stkI (e : Int) (st.map fun k => ((k : Nat) : Int)) a) r := h
    rw [dep_cons] at h2
    cases i with
    | zero =>
      simp at h1 h2
      subst h1 h2
      exact h3
    | succ i =>
      rw [leO_stk] at h4
      exact leO_at h4 (by simpa using h1) (by simpa using h2)
structure Drawn (n o : Int) (found : List Int) (todo : List (Int × Int)) : Prop where
  dp : ∀ p ∈ todo, 0 ≤ p.1 ∧ 0 ≤ p.2 ∧ p.2 ≤ found.length ∧ (1 ≤ p.1 ∨ 0 < p.2 + o)
  rng : ∀ c ∈ found, -1 ≤ c ∧ c ≤ 400
  jd : ∀ l, jI 1 (found ++ l) = jI todo.length l
  len : ((found.length + csts o todo : Nat) : Int) ≤ 3 * n
  op : ∀ l, leO o (todo.map (·.2)).reverse l → leO o [0] (found ++ l)
theorem csts_len (o : Int) : ∀ t : List (Int × Int), t.length ≤ csts o t
  | [] => by simp
  | a :: r => by
    have h : 1 ≤ cst o a := by unfold cst; split <;> omega
    have := csts_len o r
    unfold csts at this ⊢
    simp only [List.length_cons, List.map_cons, List.sum_cons]; omega
theorem Drawn.step {n o : Int} {found : List Int} {t : List (Int × Int)} {p : Int × Int} (inv : Drawn n o found (t ++ [p])) (add : List Int) (new : List (Int × Int)) (hadd : ∀ c ∈ add, -1 ≤ c ∧ c ≤ 400)
    (hj : ∀ (v : Nat) (l : List Int), jI (v + 1) (add ++ l) = jI (v + new.length) l) (hdp : ∀ q ∈ new, 0 ≤ q.1 ∧ 0 ≤ q.2 ∧ q.2 ≤ found.length + add.length ∧ (1 ≤ q.1 ∨ 0 < q.2 + o)) (hc : add.length + csts o new ≤ cst o p) (hop : ∀ (st l : List Int), leO o ((new.map (·.2)).reverse ++ st) l → leO o (p.2 :: st) (add ++ l)) : Drawn n o (found ++ add) (t ++ new) := by
  refine ⟨fun q hq => ?_, fun c hc => ?_, fun l => ?_, ?_, fun l hl => ?_⟩
  · rcases List.mem_append.mp hq with h | h
    · have := inv.dp q (List.mem_append_left _ h)
      rw [List.length_append]
      omega
    · have := hdp q h
      rw [List.length_append]
      omega
  · rcases List.mem_append.mp hc with h | h
    · exact inv.rng c h
    · exact hadd c h
  · rw [List.append_assoc, inv.jd, List.length_append, List.length_append]
    exact hj _ _
  · have := inv.len
    rw [csts_app, csts_one] at this
    rw [csts_app, List.length_append]
    omega
  · rw [List.append_assoc]
    refine inv.op _ ?_
    rw [List.map_append, List.reverse_append]
    refine hop _ _ ?_
    rw [List.map_append, List.reverse_append] at hl
    exact hl
def inv_drawn (n o : Int) (m : Nat) (δ : List S) : Prop := ∃ (found : List Int) (todo : List (Int × Int)) (s5 s6 s7 s8 : S), δ = [.dice, .val (.int n), .val (.int o), .own (found.map .int), .own (todo.map pr), s5, s6, s7, s8] ∧ Drawn n o found todo ∧ m = csts o todo
theorem last_app {α : Type} (xs : List α) (x : α) : (xs ++ [x])[(xs ++ [x]).length - 1]? = some x := by simp
def post_2law_term_drawn : List S → DV → Prop
  | [.dice, .val (.int n), .val (.int o)], r => ∃ ns : List Int, r = .c (tI ns) ∧ Tm ns ∧ (ns.length : Int) ≤ 3 * n ∧ (∀ c ∈ ns, c ≤ 400) ∧ ∀ x, opD ns x → x ≤ o
  | _, _ => False
theorem goal_2law_term_drawn : Goal w__law_term_drawn ["dice", "size", "open_count", "found", "todo", "left", "depth", "known", "inner"] 3 pre__law_term_drawn post_2law_term_drawn := by
  intro xs hl hp
  unfold pre__law_term_drawn at hp
  split at hp
  · rename_i n o
    obtain ⟨n1, n2, o1, o2⟩ := hp
    unfold w__law_term_drawn
    simp only [List.length_cons, List.length_nil]
    sleep 90001
    (repeat (refine And.intro ?_ ?_; · (first | rfl | decide | omega | (simp; done) | (simp; omega))))
    unfold w__law_term_drawn_19 wWhile
    sleep 90001
    refine ⟨inv_drawn n o, ⟨csts o [(n, 0)], [], [(n, 0)], .no, .no, .no, .no, rfl, ⟨?_, ?_, ?_, ?_, fun l h => h⟩, rfl⟩, ?_⟩
    · intro p hp
      simp at hp; subst hp
      simp; omega
    · simp
    · intro l; rfl
    · rw [csts_one]
      unfold cst
      simp only [List.length_nil]
      split <;> omega
    rintro m δ ⟨found, todo, s5, s6, s7, s8, rfl, inv, rfl⟩
    sleep 90001
    refine ⟨by simp, okD_prs _, okD_nil, ?_⟩
    rw [eqD_prs]
    rcases List.eq_nil_or_concat todo with rfl | ⟨t, p, rfl⟩
    · rw [if_neg (by simp)]
      unfold w__law_term_drawn_18
      sleep 90001
      refine ⟨found, rfl, ⟨?_, fun c h => ⟨(inv.rng c h).1, by have := (inv.rng c h).2; omega⟩, ?_⟩, ?_, fun c h => (inv.rng c h).2, ?_⟩
      · have := inv.len
        omega
      · have := inv.jd []
        rw [List.append_nil] at this
        rw [this]
        rfl
      · have := inv.len
        omega
      · rintro x ⟨i, c, d, h1, h2, h3, rfl⟩
        have z := inv.op [] trivial
        rw [List.append_nil] at z
        have := leO_at (st := [0]) z h1 h2
        omega
    · rw [if_pos (by simp)]
      rw [List.concat_eq_append] at inv ⊢
      obtain ⟨l, d⟩ := p
      obtain ⟨l0, d0, d1, ld⟩ := inv.dp (l, d) (by simp)
      simp only at l0 d0 d1 ld
      have fl := inv.len
      -- where a turn may end
      have fin : ∀ (add : List Int) (new : List (Int × Int)) (s5 s6 s7 s8 : S), (∀ c ∈ add, -1 ≤ c ∧ c ≤ 400) → (∀ (v : Nat) (l : List Int), jI (v + 1) (add ++ l) = jI (v + new.length) l) → (∀ q ∈ new, 0 ≤ q.1 ∧ 0 ≤ q.2 ∧ q.2 ≤ found.length + add.length ∧ (1 ≤ q.1 ∨ 0 < q.2 + o)) →
          0 < add.length → add.length + csts o new ≤ cst o (l, d) → (∀ (st l' : List Int), leO o ((new.map (·.2)).reverse ++ st) l' → leO o (d :: st) (add ++ l')) → ∃ m', m' < csts o (t ++ [(l, d)]) ∧ inv_drawn n o m' [.dice, .val (.int n), .val (.int o), .own (found.map .int ++ add.map .int), .own (t.map pr ++ new.map pr), s5, s6, s7, s8] := by
        intro add new s5 s6 s7 s8 h1 h2 h3 h4 h5 h6
        refine ⟨csts o (t ++ new), by rw [csts_app, csts_app, csts_one]; omega, found ++ add, t ++ new, s5, s6, s7, s8, by rw [List.map_append, List.map_append], inv.step add new h1 h2 h3 h5 h6, rfl⟩
      have hc : cst o (l, d) = if d + o = 0 then 3 * (max l 1).toNat else (max l 1).toNat := rfl
      have hcost : ∀ a b : Int, cst o (a, b) = if b + o = 0 then 3 * (max a 1).toNat else (max a 1).toNat := fun _ _ => rfl
      have lup : l ≤ 1000 := by
        have := fl
        rw [csts_app, csts_one, hc] at this
        split at this <;> omega
      unfold w__law_term_drawn_17
      rw [List.map_append]
      simp only [List.map_cons, List.map_nil]
      sleep 90001
      simp only [last_app, List.dropLast_concat, pr]
      sleep 90001
      refine ⟨rfl, ?_⟩
      suffices H : ∀ R : DEnds, (∀ δ', (∃ m', m' < csts o (t ++ [(l, d)]) ∧ inv_drawn n o m' δ') → R.nx δ') →
          w__law_term_drawn_16 R [.dice, .val (.int n), .val (.int o), .own (found.map .int), .own (t.map pr), .val (.int l), .val (.int d), s7, s8] from H _ fun _ h => h
      intro R hR
      have flen : (found.map D.int).length < 100000 := by rw [List.length_map]; omega
      have tlen : (t.map pr).length + 2 ≤ 100000 := by
        have h1 := csts_len o t
        rw [csts_app] at fl
        rw [List.length_map]; omega
      have one : ∀ (q : Int × Int) (s7 s8 : S), q.2 = d + 1 → 0 ≤ q.1 → 0 ≤ q.2 → q.2 ≤ found.length + 1 → (1 ≤ q.1 ∨ 0 < q.2 + o) → 1 + cst o q ≤ cst o (l, d) → R.nx [.dice, .val (.int n), .val (.int o), .own (found.map .int ++ [.int (-1)]), .own (t.map pr ++ [pr q]), .val (.int l), .val (.int d), s7, s8] := by
        intro q s7 s8 h0 h1 h2 h3 h5 h4
        refine hR _ (fin [-1] [q] _ _ _ _ (by simp) (fun v l => rfl) (fun q' hq => ?_) (by simp) (by rw [csts_one]; exact h4) (fun st l' hl' => by
          show -1 ≤ d + o ∧ leO o (stkI d st (-1)) l'
          refine ⟨by omega, ?_⟩
          have e : stkI d st (-1) = q.2 :: st := by rw [h0]; rfl
          rw [e]
          exact hl'))
        have : q' = q := by simpa using hq
        subst this
        exact ⟨h1, h2, by simpa using h3, h5⟩
      have two : ∀ (add : List Int) (q q' : Int × Int) (s7 s8 : S), (∀ (st l' : List Int), leO o (q'.2 :: q.2 :: st) l' → leO o (d :: st) (add ++ l')) → (∀ c ∈ add, -1 ≤ c ∧ c ≤ 0) → (∀ (v : Nat) (l : List Int), jI (v + 1) (add ++ l) = jI (v + 2) l) → 0 < add.length → 1 ≤ q.1 → 1 ≤ q'.1 → 0 ≤ q.2 → 0 ≤ q'.2 → q.2 ≤ found.length + add.length → q'.2 ≤ found.length + add.length →
          add.length + (cst o q + cst o q') ≤ cst o (l, d) → R.nx [.dice, .val (.int n), .val (.int o), .own (found.map .int ++ add.map .int), .own (t.map pr ++ [pr q, pr q']), .val (.int l), .val (.int d), s7, s8] := by
        intro add q q' s7 s8 h0 h1 h2 h3 h4 h5 h6 h7 h8 h9 h10
        refine hR _ (fin add [q, q'] _ _ _ _ (fun c hc => ⟨(h1 c hc).1, by have := (h1 c hc).2; omega⟩) h2 (fun z hz => ?_) h3 (by rw [csts_two]; exact h10) h0)
        have : z = q ∨ z = q' := by simpa using hz
        rcases this with rfl | rfl
        · exact ⟨by omega, h6, h8, .inl h4⟩
        · exact ⟨by omega, h7, h9, .inl h5⟩
      unfold w__law_term_drawn_16
      sleep 90001
      unfold w__law_term_drawn_15
      sleep 90001
      by_cases c1 : l ≤ 1 ∧ 0 < d + o
      · rw [if_pos c1.1, if_pos c1.2]
        unfold w__law_term_drawn_1
        sleep 90001
        simp only [wCall]
        (try sleep 90001)
        refine ⟨flen, roll_go c1.2 (by omega) fun i i0 i1 => roll_go c1.2 (by omega) fun j j0 j1 => ?_⟩
        (try sleep 90001)
        have hf := fin [1 + (if j < i then j else i)] [] (.val (.int l)) (.val (.int d)) (.val (.int (d + o))) s8 ?_ ?_ (by simp) (by simp) ?_ ?_
        · rw [List.map_nil, List.append_nil] at hf
          exact hR _ hf
        · simp only [List.mem_singleton, forall_eq]
          split <;> omega
        · intro v r
          show jI (v + 1) ((1 + if j < i then j else i) :: r) = jI v r
          rw [jI, if_neg (by omega)]
          unfold up
          rw [if_neg (by split <;> omega), if_pos (by split <;> omega)]
          rfl
        · rw [hc]
          simp only [csts, List.map_nil, List.sum_nil, List.length_singleton]
          split <;> omega
        · intro st l' hl'
          show (1 + if j < i then j else i) ≤ d + o ∧ leO o (stkI d st _) l'
          have e : stkI d st (1 + if j < i then j else i) = st := by
            unfold stkI
            rw [if_neg (by split <;> omega), if_neg (by split <;> omega)]
          rw [e]
          exact ⟨by split <;> omega, hl'⟩
      · have go : w__law_term_drawn_14 R [.dice, .val (.int n), .val (.int o), .own (found.map .int), .own (t.map pr), .val (.int l), .val (.int d), .val (.int (d + o)), s8] := by
          unfold w__law_term_drawn_14
          sleep 90001
          have b3 : (l ≤ 2 ∨ (d + o = 0 ∧ l < 4)) → w__law_term_drawn_3 R [.dice, .val (.int n), .val (.int o), .own (found.map .int), .own (t.map pr), .val (.int l), .val (.int d), .val (.int (d + o)), s8] := by
            intro c2
            unfold w__law_term_drawn_3
            sleep 90001
            refine ⟨flen, ?_⟩
            unfold w__law_term_drawn_2
            sleep 90001
            (repeat (refine And.intro ?_ ?_; · (first | rfl | decide | omega | (simp; done) | (simp; omega))))
            refine one (l - 1, d + 1) _ _ rfl ?_ (by simp; omega) (by simp; omega) (.inr (by simp; omega)) ?_
            · simp only; omega
            · rw [hc, hcost]
              rw [if_neg (by omega)]
              split <;> omega
          have b13 : ¬ (l ≤ 2 ∨ (d + o = 0 ∧ l < 4)) → w__law_term_drawn_13 R [.dice, .val (.int n), .val (.int o), .own (found.map .int), .own (t.map pr), .val (.int l), .val (.int d), .val (.int (d + o)), s8] := by
            intro c2
            have b12 : w__law_term_drawn_12 R [.dice, .val (.int n), .val (.int o), .own (found.map .int), .own (t.map pr), .val (.int l), .val (.int d), .val (.int (d + o)), s8] := by
              unfold w__law_term_drawn_12
              sleep 90001
              simp only [wCall]
              (try sleep 90001)
              refine roll_go (by omega) (by omega) fun i i0 i1 => ?_
              (try sleep 90001)
              by_cases hi : i = 0
              · rw [if_pos hi]
                unfold w__law_term_drawn_8
                sleep 90001
                refine ⟨flen, ?_⟩
                unfold w__law_term_drawn_7
                sleep 90001
                (repeat (refine And.intro ?_ ?_; · (first | rfl | decide | omega | (simp; done) | (simp; omega))))
                refine one (l - 1, d + 1) _ _ rfl (by simp; omega) (by simp; omega) (by simp; omega) (.inr (by simp; omega)) ?_
                rw [hc, hcost]
                rw [if_neg (by omega)]
                split <;> omega
              · rw [if_neg hi]
                unfold w__law_term_drawn_11
                sleep 90001
                simp only [wCall]
                (try sleep 90001)
                refine roll_go (by omega) (by omega) fun j j0 j1 => ?_
                (try sleep 90001)
                unfold w__law_term_drawn_10
                sleep 90001
                refine ⟨flen, ?_⟩
                unfold w__law_term_drawn_9
                sleep 90001
                (repeat (refine And.intro ?_ ?_; · (first | rfl | decide | omega | (simp; done) | (simp; omega))))
                refine two [0] (l - 1 - (1 + j), d) (1 + j, d) _ _ (fun st l' h => ⟨by omega, h⟩) (by simp) (fun v l => rfl) (by simp) (by simp; omega) (by simp; omega) (by simp; omega) (by simp; omega) (by simp; omega) (by simp; omega) ?_
                rw [hc, hcost, hcost]
                simp only [List.length_singleton]
                split <;> omega
            unfold w__law_term_drawn_13
            sleep 90001
            simp only [wCall]
            (try sleep 90001)
            by_cases h4 : 4 ≤ l
            · rw [if_pos h4]
              refine roll_go (by omega) (by omega) fun i i0 i1 => ?_
              (try sleep 90001)
              by_cases hi : i < 4
              · rw [if_pos hi]
                unfold w__law_term_drawn_6
                sleep 90001
                simp only [wCall]
                (try sleep 90001)
                refine roll_go (by omega) (by omega) fun j j0 j1 => ?_
                (try sleep 90001)
                unfold w__law_term_drawn_5
                sleep 90001
                rw [List.length_map] at flen ⊢
                (repeat (refine And.intro ?_ ?_; · (first | rfl | decide | omega | (simp; done) | (simp; omega))))
                unfold w__law_term_drawn_4
                sleep 90001
                (repeat (refine And.intro ?_ ?_; · (first | rfl | decide | omega | (simp; done) | (simp; omega))))
                refine two [0, -1] (l - 2 - (1 + j), d) (1 + j, d + 1) _ _ (fun st l' h => ⟨by omega, by omega, h⟩) (by simp) (fun v l => rfl) (by simp) (by simp; omega) (by simp; omega) (by simp; omega) (by simp; omega) (by simp; omega) (by simp; omega) ?_
                rw [hc, hcost, hcost]
                simp only [List.length_cons, List.length_nil]
                rw [if_neg (show ¬ d + 1 + o = 0 by omega)]
                split <;> omega
              · rw [if_neg hi]
                exact b12
            · rw [if_neg h4]
              exact b12
          by_cases h2 : l ≤ 2
          · rw [if_pos h2]
            exact b3 (.inl h2)
          · rw [if_neg h2]
            by_cases h3 : d + o = 0
            · rw [if_pos h3]
              by_cases h4 : l < 4
              · rw [if_pos h4]
                exact b3 (.inr ⟨h3, h4⟩)
              · rw [if_neg h4]
                exact b13 (by omega)
            · rw [if_neg h3]
              exact b13 (by omega)
        by_cases cl : l ≤ 1
        · rw [if_pos cl, if_neg (fun h => c1 ⟨cl, h⟩)]
          exact go
        · rw [if_neg cl]
          exact go
  · exact hp.elim
end Dl
-- sixth
namespace Km
theorem scn_rzL {n : Int} (hn : 0 ≤ n) : ∀ {cs : List Int} {es : List Nat} {w : Nat}, es.length = cs.length → scn w (rzL n cs es) = scn w cs
  | [], [], w, _ => rfl
  | c :: cs, d :: es, w, h => by
    cases w with
    | zero => rfl
    | succ w =>
      rw [rzL_cons, scn_cons (by omega), scn_cons (by omega)]
      have e : up (if (d : Int) < c then c + n else c) (w + 1) = up c (w + 1) := by
        by_cases hc : (d : Int) < c
        · rw [if_pos hc]
          unfold up
          rw [if_neg (by omega), if_pos (by omega), if_neg (by omega), if_pos (by omega)]
        · rw [if_neg hc]
      rw [e, scn_rzL hn (by simpa using h)]
  | [], _ :: _, _, h => by simp at h
  | _ :: _, [], _, h => by simp at h
theorem rz_drop {n : Int} {ns : List Int} {k : Nat} : (rz n ns).drop k = rzL n (ns.drop k) ((dep [0] ns).drop k) := by
  unfold rz rzL
  rw [List.drop_zipWith]
end Km
namespace Dl
open PySem PySem.Spec PyProof.Rows L2 Km
theorem sz_rz {n : Int} (hn : 0 ≤ n) {ns : List Int} (h : Wt ns) (k : Nat) : sz (rz n ns) k = sz ns k := by
  unfold sz
  rw [rz_drop, scn_rzL hn (by rw [List.length_drop, List.length_drop, h.dl])]
theorem dpt_dep {ns : List Int} (h : Wt ns) {k : Nat} (hk : k < ns.length) : (dep [0] ns)[k]? = some (dpt (wyA ns k)) := by
  rw [dep_wy, List.getElem?_map, wyA_at h.ok hk]; rfl
theorem dpt_rz {n : Int} (hn : 0 ≤ n) {ns : List Int} (h : Wt ns) {k : Nat} (hk : k < ns.length) : dpt (wyA (rz n ns) k) = dpt (wyA ns k) := by
  have h1 := dpt_dep (h.rz hn) (k := k) (by rw [rz_len h]; exact hk)
  rw [rz_dep h hn, dpt_dep h hk] at h1
  exact (Option.some.inj h1).symm
theorem cd_rz {n : Int} {ns : List Int} (h : Wt ns) {k : Nat} (hk : k < ns.length) : cd (rz n ns) k = if (dpt (wyA ns k) : Int) < cd ns k then cd ns k + n else cd ns k := by
  have h1 : (rz n ns)[k]? = _ := rzL_get (n := n) (cd_at hk) (dpt_dep h hk)
  rw [cd_at (by rw [rz_len h]; exact hk)] at h1
  exact Option.some.inj h1
theorem vars_rz {n : Int} (hn : 0 ≤ n) {ns : List Int} (h : Wt ns) {k : Nat} (hk : k < ns.length) : varsOf (rz n ns) k = varsOf ns k := by
  obtain ⟨m, hm, h0, hle, _⟩ := part_at h.jd hk
  have hsz : sz ns k = m := by unfold sz; rw [hm]; rfl
  unfold varsOf
  rw [sz_rz hn h]
  congr 1
  refine List.filter_congr fun j hj => ?_
  rw [List.mem_range] at hj
  have ha : k + 1 + j < ns.length := by omega
  unfold isVar
  rw [dpt_rz hn h ha, dpt_rz hn h hk, cd_rz h ha]
  congr 1
  by_cases hc : (dpt (wyA ns (k + 1 + j)) : Int) < cd ns (k + 1 + j)
  · rw [if_pos hc]
    exact propext ⟨fun z => by omega, fun z => by omega⟩
  · rw [if_neg hc]
abbrev xOf (C f : Str) (d : D) : XV := (C, [(f, d)])
/-- a call that tells what is made, or the bound -/
theorem told_go {f : List S → List Int} {ss : List S} {k1 k2 : D → Prop} (h1 : limD (f ss) = .non → k1 (tI (f ss))) (h2 : ∀ i, limD (f ss) = .int i → k2 (.int i)) :
    (∀ r, madeP f ss r → ∃ d, cl r = some d ∧ k1 d) ∧ ∀ x, madeX f ss x → ∃ d, x = xOf "TooMany" "limit" d ∧ k2 d :=
  ⟨fun r ⟨a, b⟩ => ⟨_, by rw [b]; rfl, h1 a⟩, fun x ⟨i, a, b⟩ => ⟨.int i, b, h2 i a⟩⟩
/-- a call that makes, where no bound is passed -/
theorem made_go {n : Nat} {pre : List S → Prop} {f : List S → List Int} {ss : List S} {k : DV → Prop} {ns : List Int} (hn : ss.length = n) (hp : pre ss) (e : f ss = ns) (h : limD ns = .non) (hk : k (.c (tI ns))) : ss.length = n ∧ pre ss ∧ (∀ r, madeP f ss r → r ≠ .j ∧ k r) ∧ ∀ x, madeX f ss x → False :=
  ⟨hn, hp, fun r ⟨_, b⟩ => by rw [b, e]; exact ⟨by simp, hk⟩, fun x ⟨i, a, _⟩ => by rw [e, h] at a; cases a⟩
theorem pl_tI {n : Nat} (ns : List Int) : Pl (n + 1) (tI ns) := .tup _ fun d hd => by
  obtain ⟨i, _, rfl⟩ := List.mem_map.mp hd
  exact .int i
theorem pl_told {n : Nat} {x : Str} {d : D} (hx : PyData.canLay0 (.str x) = true) (h : Pl n d) : Pl (n + 1) (.tup [.str x, d]) := .tup _ fun e he => by
  rcases List.mem_cons.mp he with rfl | he
  · exact .str x hx
  · rw [List.mem_singleton.mp he]; exact h
theorem unI_tup (ns : List Int) : unI (.tup (ns.map .int)) = ns := unI_tI ns
theorem AscO.len {out ns : List Int} {m : Nat} (h : AscO out ns) (f : Few ns m) : out.length ≤ m := by
  obtain ⟨L, h1, h2⟩ := f
  have nd : out.Nodup := h.1.imp fun z e => by omega
  have := nodup_le nd fun x hx => h2 x ((h.2 x).mp hx)
  omega
theorem take_map {f : Int → D} {g : Int → Int} {l : List Int} {i : Nat} {x : Int} (h : l[i]? = some x) : ((l.take (i + 1)).map g).map f = ((l.take i).map g).map f ++ [f (g x)] := by
  rw [List.take_add_one, h]
  simp
theorem get_int {l : List Int} {i : Nat} {d : D} (h : (l.map D.int)[i]? = some d) : ∃ x, d = .int x ∧ l[i]? = some x := by
  rw [List.getElem?_map] at h
  cases e : l[i]? with
  | none => rw [e] at h; cases h
  | some x => rw [e] at h; exact ⟨x, (Option.some.inj h).symm, rfl⟩
def pre__law_raise_right : List S → Prop
  | [.dice, .val t] => ∃ ns : List Int, t = tI ns ∧ Tm ns ∧ Few ns 30
  | _ => False
def post__law_raise_right : List S → DV → Prop := fun _ r => r = .c (.bl true)
def w__law_raise_right_1 : DE := wVar 7
def w__law_raise_right_2 : DS := wRet (wOp rEqq (wLc (wcEnum (waCons (wVar 1) (waNil))) [7, 8] (wgTup 2 (wgCons (wgName 7) (wgCons (wgName 8) (wgNil)))) (wAndT (wB (wOp rLt (wVar 8) (wC (.int 0)))) (wB (wOp rNeq (wCall 2 pre_variables_of post_variables_of (waCons (wVar 1) (waCons (wVar 7) (waNil)))) (wCall 2 pre_variables_of post_variables_of (waCons (wVar 3) (waCons (wVar 7) (waNil))))))) w__law_raise_right_1) (wLst (waNil)))
def w__law_raise_right_3 : DS := wSeq (wIfS (wB (wOp rNeq (wCallX (fun _ => False) 2 pre_Xraised_term post_Xraised_term xpost_Xraised_term (waCons (wCallX (fun _ => False) 2 pre_Xraised_term post_Xraised_term xpost_Xraised_term (waCons (wVar 1) (waCons (wVar 6) (waNil)))) (waCons (wOp rMinus (wVar 2) (wVar 6)) (waNil)))) (wVar 3))) (wRet (wC (.bl false))) ((fun R δ => R.nx δ))) (w__law_raise_right_2)
def w__law_raise_right_4 : DE := wOp rPlus (wVar 5) (wVar 2)
def w__law_raise_right_5 : DS := wSeq (wSet 6 (wCall 2 pre__law_roll post__law_roll (waCons (wVar 0) (waCons (wOp rPlus (wVar 2) (wC (.int 1))) (waNil))))) (w__law_raise_right_3)
def w__law_raise_right_6 : DS := wRet (wOp rEqq (wVar 4) (wTup (waCons (wC (.str "refused")) (waCons (wC (.int 1000)) (waNil)))))
def w__law_raise_right_7 : DS := wSeq (wIfS (wOrT (wB (wOp rNeq (wVar 4) (wTup (waCons (wC (.str "told")) (waCons (wVar 3) (waNil)))))) (wB (wOp rNeq (wCall 1 pre_open_variables post_open_variables (waCons (wVar 3) (waNil))) (wCB cTuple (waCons (wLc (wcSeq (wCall 1 pre__law_opened post__law_opened (waCons (wVar 1) (waNil)))) [5] (wgName 5) (wYes) w__law_raise_right_4) (waNil)))))) (wRet (wC (.bl false))) ((fun R δ => R.nx δ))) (w__law_raise_right_5)
def w__law_raise_right_8 : DS := wSeq (wIfS (wB (wOp rGt (wCB cMax1 (waCons (wVar 3) (waNil))) (wC (.int 1000)))) (w__law_raise_right_6) ((fun R δ => R.nx δ))) (w__law_raise_right_7)
def w__law_raise_right_9 : DS := wSeq (wSet 4 (wTold 2 pre_Xraised_term post_Xraised_term xpost_Xraised_term "TooMany" "limit" "told" "refused" (waCons (wVar 1) (waCons (wVar 2) (waNil))))) (w__law_raise_right_8)
def w__law_raise_right_10 : DS := wSeq (wSet 3 (wCB cTuple (waCons (wCall 2 pre__law_raised_open post__law_raised_open (waCons (wVar 1) (waCons (wVar 2) (waNil)))) (waNil)))) (w__law_raise_right_9)
def w__law_raise_right : DS := wSeq (wSet 2 (wCall 2 pre__law_one_of post__law_one_of (waCons (wVar 0) (waCons (wLst (waCons (wC (.int 0)) (waCons (wC (.int 1)) (waCons (wC (.int 2)) (waCons (wCall 2 pre__law_roll post__law_roll (waCons (wVar 0) (waCons (wC (.int 60)) (waNil)))) (waCons (wOp rPlus (wC (.int 990)) (wCall 2 pre__law_roll post__law_roll (waCons (wVar 0) (waCons (wC (.int 11)) (waNil))))) (waNil))))))) (waNil))))) (w__law_raise_right_10)
theorem goal__law_raise_right : Goal w__law_raise_right ["dice", "term", "more", "due", "told", "number", "less", "at", "code"] 2 pre__law_raise_right post__law_raise_right := by
  intro xs hl hp
  unfold pre__law_raise_right at hp
  split at hp
  · rename_i t
    obtain ⟨ns, rfl, ht, few⟩ := hp
    have hw := ht.wt
    have hlen := ht.len
    unfold w__law_raise_right
    simp only [List.length_cons, List.length_nil]
    sleep 90002
    refine roll_go (by omega) (by omega) fun i i0 i1 => ?_
    sleep 90002
    refine roll_go (by omega) (by omega) fun j j0 j1 => ?_
    sleep 90002
    (repeat (refine And.intro ?_ ?_; · (first | rfl | decide | omega | (simp; done) | (simp; omega))))
    refine ⟨⟨by simp, by simp⟩, fun r hr => ?_⟩
    obtain ⟨d, hd, rfl⟩ := hr
    refine ⟨by simp, ?_⟩
    obtain ⟨m, rfl, m0, m1⟩ : ∃ m : Int, d = .int m ∧ 0 ≤ m ∧ m ≤ 1000 := by
      simp only [List.mem_cons, List.not_mem_nil, or_false] at hd
      rcases hd with rfl | rfl | rfl | rfl | rfl
      · exact ⟨_, rfl, by omega, by omega⟩
      · exact ⟨_, rfl, by omega, by omega⟩
      · exact ⟨_, rfl, by omega, by omega⟩
      · exact ⟨_, rfl, by omega, by omega⟩
      · exact ⟨_, rfl, by omega, by omega⟩
    sleep 90001
    unfold w__law_raise_right_10
    sleep 90002
    refine call_at (.f ((rz m ns).map .int)) (by simp) rfl ⟨ns, rfl, hw, by omega⟩ (fun r q => by simpa only [post__law_raised_open, unI_tI] using q) ?_
    sleep 90002
    unfold w__law_raise_right_9
    sleep 90002
    refine ⟨rfl, ⟨ns, rfl, ht, m0, m1⟩, ?_⟩
    have hlr : (rz m ns).length ≤ 400 := by rw [rz_len hw]; exact hlen
    have wr := hw.rz m0
    have ner : rz m ns ≠ [] := fun z => by
      have := rz_len (n := m) hw
      have := ht.pos
      rw [z] at *
      simp at *
      omega
    refine told_go (f := rzS) (fun hlim => ?_) (fun b hlim => ?_)
    · replace hlim : limD (rz m ns) = .non := by simpa only [rzS, unI_tI] using hlim
      have e : rzS [.val (tI ns), .val (.int m)] = rz m ns := by simp only [rzS, unI_tI]
      rw [e]
      unfold w__law_raise_right_8
      sleep 90001
      unfold cMax1
      refine ⟨rz m ns, rfl, ner, fun mx h1 h2 => ?_⟩
      sleep 90001
      rw [if_neg (by have := (limD_non hlim).2 mx h1; omega)]
      have tr : Tm (rz m ns) := Wt.tm wr hlim
      obtain ⟨L, l1, l2⟩ := (few.rz hw m0).opens wr
      unfold w__law_raise_right_7
      sleep 90002
      have pt : Pl 2 (.tup [.str "told", tI (rz m ns)]) := pl_told (by decide +kernel) (pl_tI _)
      refine ⟨by simp, pt.ok, pt.ok, ?_⟩
      rw [if_neg (by rw [show eqD (.tup [.str "told", tI (rz m ns)]) (.tup [.str "told", .tup ((rz m ns).map .int)]) = true from eqD_eq pt pt rfl]; simp)]
      refine ⟨rfl, ⟨rz m ns, rfl, tr, L, by omega, l2⟩, fun r hr => ?_⟩
      obtain ⟨out, rfl, asc⟩ := hr
      rw [unI_tup] at asc
      have asc := asc_opens wr asc
      refine ⟨by simp, ?_⟩
      unfold wLc
      sleep 90002
      refine ⟨rfl, ⟨ns, rfl, hw, by omega, few.mono (by omega)⟩, fun r hr => ?_⟩
      obtain ⟨out2, rfl, asc2⟩ := hr
      rw [unI_tI] at asc2
      refine ⟨by simp, ?_⟩
      sleep 90001
      refine ⟨fun i acc => acc = ((out2.take i).map (· + m)).map .int, rfl, ?_, by rw [List.length_map]; have := asc2.len few; omega, ?_⟩
      · intro i d acc hd hacc _
        obtain ⟨x, rfl, hx⟩ := get_int hd
        unfold w__law_raise_right_4
        simp only [wipeD]
        sleep 90001
        rw [take_map hx, hacc]
      · intro acc hacc _
        rw [List.length_map, List.take_length] at hacc
        subst hacc
        have pa : Pl 1 (tI out) := pl_tI _
        have pb : Pl 1 (.tup ((out2.map (· + m)).map .int)) := pl_tI _
        refine ⟨pa.ok, pb.ok, ?_⟩
        have e2 : out = out2.map (· + m) := asc.eq (asc2.rz hw m0)
        rw [if_neg (by rw [e2, show eqD (tI (out2.map (· + m))) (.tup ((out2.map (· + m)).map .int)) = true from eqD_eq pb pb rfl]; simp)]
        unfold w__law_raise_right_5
        sleep 90002
        refine roll_go (by omega) (by omega) fun u u0 u1 => ?_
        sleep 90001
        unfold w__law_raise_right_3
        sleep 90002
        have hu : limD (rz u ns) = .non := limD_ok (by rw [rz_len hw]; omega) (rz_up (by omega) (limD_non hlim).2)
        have wu := hw.rz u0
        refine made_go (ns := rz u ns) rfl ⟨ns, rfl, ht, u0, by omega⟩ (by simp only [rzS, unI_tI]) hu ?_
        sleep 90002
        refine made_go (ns := rz m ns) rfl ⟨rz u ns, rfl, Wt.tm wu hu, by omega, by omega⟩ (by simp only [rzS, unI_tI]; rw [rz_add hw u0]; congr 1; omega) hlim ?_
        sleep 90001
        have pd : Pl 1 (tI (rz m ns)) := pl_tI _
        refine ⟨pd.ok, pd.ok, ?_⟩
        rw [if_neg (by rw [show eqD (tI (rz m ns)) (.tup ((rz m ns).map .int)) = true from eqD_eq pd pd rfl]; simp)]
        unfold w__law_raise_right_2 wLc
        sleep 90001
        refine ⟨fun i acc => acc = [], rfl, ?_, by rw [enumD_len, List.length_map]; omega, ?_⟩
        · intro i d acc hd hacc _
          rw [enumD_get] at hd
          cases h1 : (ns.map D.int)[i]? with
          | none => rw [h1] at hd; cases hd
          | some cD =>
            rw [h1] at hd
            cases hd
            obtain ⟨c, rfl, hc⟩ := get_int h1
            have hi := (List.getElem?_eq_some_iff.mp hc).1
            refine ⟨_, rfl, rfl, _, _, rfl, _, _, rfl, rfl, ?_⟩
            simp only [wipeD]
            sleep 90002
            by_cases hneg : c < 0
            · rw [if_pos hneg]
              have hcd : cd ns i = -1 := by
                have e1 : cd ns i = c := Option.some.inj ((cd_at hi).symm.trans hc)
                have := hw.lo c (List.mem_of_getElem? hc)
                omega
              have hcd2 : cd (rz m ns) i = -1 := by
                rw [cd_rz hw hi, if_neg (by omega), hcd]
              refine call_one (x := .tup ((varsOf ns i).map nI)) rfl ⟨ns, i, rfl, rfl, ht, hi, hcd⟩ (fun r q => by simpa only [post_variables_of, lookP, unI_tI, Int.toNat_natCast] using q) ?_
              refine call_one (x := .tup ((varsOf ns i).map nI)) rfl ⟨rz m ns, i, rfl, rfl, tr, by rw [rz_len hw]; exact hi, hcd2⟩ (fun r q => by
                have q : r = .c (.tup ((varsOf (unI (.tup ((rz m ns).map .int))) ((i : Int).toNat)).map nI)) := q
                rw [unI_tup, Int.toNat_natCast, vars_rz m0 hw hi] at q
                exact q) ?_
              sleep 90001
              have pv : Pl 1 (.tup ((varsOf ns i).map nI)) := .tup _ fun d hd => by
                obtain ⟨k, _, rfl⟩ := List.mem_map.mp hd
                exact .int _
              refine ⟨pv.ok, pv.ok, ?_⟩
              rw [if_neg (by rw [eqD_eq pv pv rfl]; simp)]
              exact hacc
            · rw [if_neg hneg]
              exact hacc
        · intro acc hacc _
          subst hacc
          have pn : Pl 1 (.lst []) := .lst _ (by simp)
          refine ⟨by simp, pn.ok, pn.ok, ?_⟩
          rw [eqD_eq pn pn rfl]
          rfl
    · replace hlim : limD (rz m ns) = .int b := by simpa only [rzS, unI_tI] using hlim
      obtain ⟨x, hx, hx2⟩ : ∃ x ∈ rz m ns, 1000 < x := by
        apply Classical.byContradiction
        intro z
        rw [limD_ok hlr fun x hx => by
          rcases Int.lt_or_le 1000 x with y | y
          · exact absurd ⟨x, hx, y⟩ z
          · exact y] at hlim
        cases hlim
      rw [limD_big hlr hx hx2] at hlim
      cases hlim
      unfold w__law_raise_right_8
      sleep 90001
      unfold cMax1
      refine ⟨rz m ns, rfl, ner, fun mx h1 h2 => ?_⟩
      sleep 90001
      rw [if_pos (by have := h2 x hx; omega)]
      unfold w__law_raise_right_6
      sleep 90001
      have pr : Pl 2 (.tup [.str "refused", .int 1000]) := pl_told (by decide +kernel) (.int _)
      (repeat (refine And.intro ?_ ?_; · (first | rfl | decide | omega | (simp; done) | (simp; omega))))
      refine ⟨pr.ok, pr.ok, ?_⟩
      rw [show eqD (.tup [.str "refused", .int 1000]) (.tup [.str "refused", .int 1000]) = true from eqD_eq pr pr rfl]
      rfl
  · exact hp.elim
end Dl
-- sixth
namespace Dl
open PySem PySem.Spec PyProof.Rows L2 Km
theorem limD_of {xs : List Int} (h : ∀ c ∈ xs, c ≤ 1000) : limD xs = if 400 < xs.length then .int 400 else .non := by
  by_cases hl : 400 < xs.length
  · rw [if_pos hl, limD_long hl]
  · rw [if_neg hl, limD_ok (by omega) h]
theorem told_ne : D.str "refused" ≠ D.str "told" := fun h => by
  injection h with h
  exact absurd h (by decide +kernel)
theorem pl_str {n : Nat} {x : Str} (h : PyData.canLay0 (.str x) = true := by decide +kernel) : Pl n (.str x) := .str x h
theorem filt_next {p : Int → Bool} {g : Int → Int} {l : List Int} {i : Nat} {x : Int} (h : l[i]? = some x) : ((((l.take (i + 1)).filter p).map g).map D.int) = (((l.take i).filter p).map g).map D.int ++ (if p x = true then [.int (g x)] else []) := by
  rw [List.take_add_one, h]
  simp only [Option.toList_some, List.filter_append, List.map_append]
  congr 1
  by_cases hp : p x = true
  · rw [if_pos hp]; simp [hp]
  · rw [if_neg hp]; simp [hp]
def pre__law_made_right : List S → Prop
  | [.val t, .val v] => ∃ ns ms : List Int, t = tI ns ∧ v = tI ms ∧ Tm ns ∧ Tm ms ∧ Few ns 30 ∧ Few ms 30
  | _ => False
def post__law_made_right : List S → DV → Prop := fun _ r => r = .c (.bl true)
def toldD (d : D) : D := .tup [.str "told", d]
def refD (i : Int) : D := .tup [.str "refused", .int i]
theorem pl_toldD {n : Nat} {d : D} (h : Pl n d) : Pl (n + 1) (toldD d) := pl_told (by decide +kernel) h
theorem pl_refD {n : Nat} (i : Int) : Pl (n + 1) (refD i) := pl_told (by decide +kernel) (.int i)
def w__law_made_right_1 : DS := wRet (wOp rEqq (wCall 1 pre_open_variables post_open_variables (waCons (wOp rIxD (wVar 2) (wC (.int 1))) (waNil))) (wCB cTuple (waCons (wSortSet (wOp rPlus (wCall 1 pre__law_opened post__law_opened (waCons (wVar 0) (waNil))) (wCall 1 pre__law_opened post__law_opened (waCons (wVar 1) (waNil))))) (waNil))))
def w__law_made_right_2 : DS := wSeq (wIfS (wOrT (wB (wOp rNeq (wCall 2 pre_part_of post_part_of (waCons (wOp rIxD (wVar 2) (wC (.int 1))) (waCons (wC (.int 1)) (waNil)))) (wVar 0))) (wB (wOp rNeq (wCall 2 pre_part_of post_part_of (waCons (wOp rIxD (wVar 2) (wC (.int 1))) (waCons (wOp rPlus (wCB cLen (waCons (wVar 0) (waNil))) (wC (.int 1))) (waNil)))) (wVar 1)))) (wRet (wC (.bl false))) ((fun R δ => R.nx δ))) (w__law_made_right_1)
def w__law_made_right_3 : DS := wRet (wOp rEqq (wVar 2) (wTup (waCons (wC (.str "refused")) (waCons (wC (.int 400)) (waNil)))))
def w__law_made_right_4 : DS := wSeq (wIfS (wOrT (wB (wOp rNeq (wVar 2) (wTup (waCons (wC (.str "told")) (waCons (wOp rPlus (wOp rPlus (wTup (waCons (wC (.int 0)) (waNil))) (wVar 0)) (wVar 1)) (waNil)))))) (wNotT (wB (wCall 1 pre_is_term post_is_term (waCons (wOp rIxD (wVar 2) (wC (.int 1))) (waNil)))))) (wRet (wC (.bl false))) ((fun R δ => R.nx δ))) (w__law_made_right_2)
def w__law_made_right_5 : DE := wOp rMinus (wVar 4) (wC (.int 1))
def w__law_made_right_6 : DS := wSeq (wIfS (wB (wOp rGt (wOp rPlus (wOp rPlus (wCB cLen (waCons (wVar 0) (waNil))) (wCB cLen (waCons (wVar 1) (waNil)))) (wC (.int 1))) (wC (.int 400)))) (w__law_made_right_3) ((fun R δ => R.nx δ))) (w__law_made_right_4)
def w__law_made_right_7 : DS := wSeq (wIfS (wAndT (wB (wOp rEqq (wOp rIxD (wVar 3) (wC (.int 0))) (wC (.str "told")))) (wB (wOp rNeq (wCall 1 pre_open_variables post_open_variables (waCons (wOp rIxD (wVar 3) (wC (.int 1))) (waNil))) (wCB cTuple (waCons (wLc (wcSeq (wCall 1 pre__law_opened post__law_opened (waCons (wVar 0) (waNil)))) [4] (wgName 4) (wB (wOp rGt (wVar 4) (wC (.int 1)))) w__law_made_right_5) (waNil)))))) (wRet (wC (.bl false))) ((fun R δ => R.nx δ))) (w__law_made_right_6)
def w__law_made_right_8 : DS := wSeq (wIfS (wB (wOp rNeq (wVar 3) (wIf (wB (wOp rLt (wCB cLen (waCons (wVar 0) (waNil))) (wC (.int 400)))) (wTup (waCons (wC (.str "told")) (waCons (wOp rPlus (wTup (waCons (wUn rNeg (wC (.int 1))) (waNil))) (wVar 0)) (waNil)))) (wTup (waCons (wC (.str "refused")) (waCons (wC (.int 400)) (waNil))))))) (wRet (wC (.bl false))) ((fun R δ => R.nx δ))) (w__law_made_right_7)
def w__law_made_right_9 : DS := wSeq (wSet 3 (wTold 1 pre_Xfunction_with post_Xfunction_with xpost_Xfunction_with "TooMany" "limit" "told" "refused" (waCons (wVar 0) (waNil)))) (w__law_made_right_8)
def w__law_made_right : DS := wSeq (wSet 2 (wTold 2 pre_Xcalled post_Xcalled xpost_Xcalled "TooMany" "limit" "told" "refused" (waCons (wVar 0) (waCons (wVar 1) (waNil))))) (w__law_made_right_9)
theorem goal__law_made_right : Goal w__law_made_right ["term", "other", "both", "deep", "one"] 2 pre__law_made_right post__law_made_right := by
  intro xs hl hp
  unfold pre__law_made_right at hp
  split at hp
  · rename_i t v
    obtain ⟨ns, ms, rfl, rfl, h1, h2, f1, f2⟩ := hp
    have l1 := h1.len
    have l2 := h2.len
    have w1 := h1.wt
    have w2 := h2.wt
    have c1 : ∀ c ∈ ns, c ≤ 1000 := fun c h => (h1.rng c h).2
    have c2 : ∀ c ∈ ms, c ≤ 1000 := fun c h => (h2.rng c h).2
    have limB : limD (0 :: (ns ++ ms)) = if 400 < ns.length + ms.length + 1 then .int 400 else .non := by
      rw [limD_of fun c h => by
        rcases List.mem_cons.mp h with rfl | h
        · omega
        · exact (List.mem_append.mp h).elim (c1 c) (c2 c)]
      simp
    have limF : limD (-1 :: ns) = if 400 < ns.length + 1 then .int 400 else .non := by
      rw [limD_of fun c h => by
        rcases List.mem_cons.mp h with rfl | h
        · omega
        · exact c1 c h]
      simp
    have wtB := w1.call w2
    have wtF := w1.fn
    -- the two, made or refused
    have okB : ∀ d, d = (if 400 < ns.length + ms.length + 1 then refD 400 else toldD (tI (0 :: (ns ++ ms)))) → ∀ e, e = (if 400 < ns.length + 1 then refD 400 else toldD (tI (-1 :: ns))) →
        w__law_made_right_8 { nx := fun _ => post__law_made_right [.val (tI ns), .val (tI ms)] (.c .non), rt := fun _ => post__law_made_right [.val (tI ns), .val (tI ms)] } [.val (tI ns), .val (tI ms), .val d, .val e, .no] := by
      intro d hd e he
      have pB : Pl 2 d := by rw [hd]; split; exact pl_refD _; exact pl_toldD (pl_tI _)
      have pE : Pl 2 e := by rw [he]; split; exact pl_refD _; exact pl_toldD (pl_tI _)
      have last : w__law_made_right_6 { nx := fun _ => post__law_made_right [.val (tI ns), .val (tI ms)] (.c .non), rt := fun _ => post__law_made_right [.val (tI ns), .val (tI ms)] } [.val (tI ns), .val (tI ms), .val d, .val e, .no] := by
        unfold w__law_made_right_6
        sleep 90002
        by_cases nb : 400 < ns.length + ms.length + 1
        · rw [if_pos (by rw [List.length_map, List.length_map]; omega)]
          rw [if_pos nb] at hd
          unfold w__law_made_right_3
          sleep 90002
          have pr : Pl 2 (.tup [.str "refused", .int 400]) := pl_refD 400
          refine ⟨by simp, pB.ok, pr.ok, ?_⟩
          rw [eqD_eq pB pr hd]
          rfl
        · rw [if_neg (by rw [List.length_map, List.length_map]; omega)]
          rw [if_neg nb] at hd
          subst hd
          have tB : Tm (0 :: (ns ++ ms)) := Wt.tm wtB (by rw [limB, if_neg nb])
          unfold w__law_made_right_4 toldD
          sleep 90002
          have ls : (.int 0 :: (ns.map D.int ++ ms.map D.int) : List D) = (0 :: (ns ++ ms)).map D.int := by simp
          have lq : toldD (tI (0 :: (ns ++ ms))) = .tup [.str "told", .tup (.int 0 :: (ns.map D.int ++ ms.map D.int))] := by
            rw [ls]; rfl
          have pq : Pl 2 (.tup [.str "told", .tup (.int 0 :: (ns.map D.int ++ ms.map D.int))]) := by rw [← lq]; exact pB
          refine ⟨by simp, by simp; omega, by simp; omega, by simp, pB.ok, pq.ok, ?_⟩
          rw [if_neg (by rw [show eqD (.tup [.str "told", tI (0 :: (ns ++ ms))]) (.tup [.str "told", .tup (.int 0 :: (ns.map D.int ++ ms.map D.int))]) = true from eqD_eq pB pq lq]; simp)]
          refine ⟨_, rfl, call_one (x := .bl true) rfl (okVal_ints _) (fun r q => by
            have q : r = .c (.bl (isTermD (tI (0 :: (ns ++ ms))))) := q
            rw [term_of tB] at q
            exact q) ?_⟩
          sleep 90001
          unfold w__law_made_right_2
          have sn : scn 1 ((0 :: (ns ++ ms)).drop 1) = some ns.length := scn_app (scn_whole w1.jd)
          have dm : (0 :: (ns ++ ms)).drop (ns.length + 1) = ms := by simp
          have sm : scn 1 ((0 :: (ns ++ ms)).drop (ns.length + 1)) = some ms.length := by rw [dm]; exact scn_whole w2.jd
          have pn1 : Pl 1 (tI ns) := pl_tI _
          have pm1 : Pl 1 (tI ms) := pl_tI _
          sleep 90002
          refine ⟨_, rfl, call_one (x := tI ns) rfl ⟨_, 1, rfl, rfl, tB, by simp; have := h1.pos; omega⟩ (fun r q => by
            have q : r = .c (tI (((unI (tI (0 :: (ns ++ ms)))).drop 1).take (sz (unI (tI (0 :: (ns ++ ms)))) 1))) := q
            rw [unI_tI] at q
            unfold sz at q
            rw [sn] at q
            simpa using q) ?_⟩
          sleep 90002
          refine ⟨pn1.ok, pn1.ok, ?_⟩
          rw [if_neg (by rw [eqD_eq pn1 pn1 rfl]; simp)]
          refine ⟨_, rfl, call_one (x := tI ms) rfl ⟨_, ns.length + 1, rfl, by rw [List.length_map]; omega, tB, by simp; have := h2.pos; omega⟩ (fun r q => by
            have q : r = .c (tI (((unI (tI (0 :: (ns ++ ms)))).drop (((ns.map D.int).length : Int) + 1).toNat).take (sz (unI (tI (0 :: (ns ++ ms)))) (((ns.map D.int).length : Int) + 1).toNat))) := q
            rw [unI_tI, List.length_map, show ((ns.length : Int) + 1).toNat = ns.length + 1 by omega] at q
            unfold sz at q
            rw [sm, dm] at q
            simpa using q) ?_⟩
          sleep 90002
          refine ⟨pm1.ok, pm1.ok, ?_⟩
          rw [if_neg (by rw [eqD_eq pm1 pm1 rfl]; simp)]
          obtain ⟨L, m1, m2⟩ := (f1.call f2 w1).opens wtB
          obtain ⟨L1, k1, g1⟩ := f1
          obtain ⟨L2, k2, g2⟩ := f2
          unfold w__law_made_right_1 wSortSet
          sleep 90002
          refine ⟨_, rfl, rfl, ⟨0 :: (ns ++ ms), rfl, tB, L, by omega, m2⟩, fun r hr => ?_⟩
          obtain ⟨out, rfl, asc⟩ := hr
          rw [unI_tI] at asc
          have asc := asc_opens wtB asc
          refine ⟨by simp, rfl, ⟨ns, rfl, w1, by omega, L1, by omega, g1⟩, fun r hr => ?_⟩
          obtain ⟨o1, rfl, a1⟩ := hr
          rw [unI_tI] at a1
          refine ⟨by simp, rfl, ⟨ms, rfl, w2, by omega, L2, by omega, g2⟩, fun r hr => ?_⟩
          obtain ⟨o2, rfl, a2⟩ := hr
          rw [unI_tI] at a2
          have z1 := a1.len (m := 30) ⟨L1, k1, g1⟩
          have z2 := a2.len (m := 30) ⟨L2, k2, g2⟩
          refine ⟨by simp, ?_⟩
          sleep 90001
          rw [List.length_map, List.length_map]
          refine ⟨by omega, o1 ++ o2, (List.map_append).symm, by rw [List.length_append]; omega, L1 ++ L2, fun x hx => ?_, by rw [List.length_append]; omega, fun out2 as2 => ?_⟩
          · rcases List.mem_append.mp hx with hx | hx
            · exact List.mem_append_left _ (g1 x ((a1.2 x).mp hx))
            · exact List.mem_append_right _ (g2 x ((a2.2 x).mp hx))
          · have eo := asc.eq (a1.call a2 w1 as2)
            subst eo
            have po : Pl 1 (tI out) := pl_tI _
            refine ⟨po.ok, po.ok, ?_⟩
            rw [show eqD (tI out) (.tup (out.map .int)) = true from eqD_eq po po rfl]
            rfl
      have w7 : w__law_made_right_7 { nx := fun _ => post__law_made_right [.val (tI ns), .val (tI ms)] (.c .non), rt := fun _ => post__law_made_right [.val (tI ns), .val (tI ms)] } [.val (tI ns), .val (tI ms), .val d, .val e, .no] := by
        unfold w__law_made_right_7 wLc
        by_cases nf : 400 < ns.length + 1
        · rw [if_pos nf] at he
          subst he
          unfold refD
          sleep 90002
          refine ⟨_, rfl, (pl_str : Pl 0 (.str "refused")).ok, (pl_str : Pl 0 (.str "told")).ok, ?_⟩
          rw [if_neg (by rw [eqD_ne pl_str pl_str told_ne (n := 0)]; simp)]
          exact last
        · rw [if_neg nf] at he
          subst he
          have tF : Tm (-1 :: ns) := Wt.tm wtF (by rw [limF, if_neg nf])
          obtain ⟨L, m1, m2⟩ := f1.fn.opens wtF
          unfold toldD
          sleep 90002
          refine ⟨_, rfl, (pl_str : Pl 0 (.str "told")).ok, (pl_str : Pl 0 (.str "told")).ok, ?_⟩
          rw [if_pos (eqD_eq (n := 0) pl_str pl_str rfl)]
          refine ⟨_, rfl, rfl, ⟨-1 :: ns, rfl, tF, L, by omega, m2⟩, fun r hr => ?_⟩
          obtain ⟨out, rfl, asc⟩ := hr
          rw [unI_tI] at asc
          have asc := asc_opens wtF asc
          refine ⟨by simp, rfl, ⟨ns, rfl, w1, by omega, f1.mono (by omega)⟩, fun r hr => ?_⟩
          obtain ⟨out2, rfl, asc2⟩ := hr
          rw [unI_tI] at asc2
          refine ⟨by simp, ?_⟩
          sleep 90001
          refine ⟨fun i acc => acc = (((out2.take i).filter fun x => decide (1 < x)).map (· - 1)).map .int, rfl, ?_, by rw [List.length_map]; have := asc2.len f1; omega, ?_⟩
          · intro i d acc hd hacc _
            obtain ⟨x, rfl, hx⟩ := get_int hd
            simp only [wipeD]
            sleep 90001
            rw [filt_next hx]
            by_cases h1x : 1 < x
            · rw [if_pos h1x, if_pos (by simpa using h1x), hacc]
              unfold w__law_made_right_5
              sleep 90001
            · rw [if_neg h1x, if_neg (by simpa using h1x), List.append_nil]
              exact hacc
          · intro acc hacc _
            rw [List.length_map, List.take_length] at hacc
            subst hacc
            have e2 := asc.eq asc2.fn
            have pa : Pl 1 (tI out) := pl_tI _
            have pb : Pl 1 (.tup (((out2.filter fun x => decide (1 < x)).map (· - 1)).map .int)) := pl_tI _
            refine ⟨pa.ok, pb.ok, ?_⟩
            rw [if_neg (by rw [eqD_eq pa pb (by rw [e2])]; simp)]
            exact last
      unfold w__law_made_right_8
      sleep 90002
      by_cases nf : 400 < ns.length + 1
      · rw [if_neg (by rw [List.length_map]; omega)]
        rw [if_pos nf] at he
        refine ⟨by simp, pE.ok, (pl_refD 400 : Pl 2 _).ok, ?_⟩
        rw [if_neg (by rw [show eqD e (.tup [.str "refused", .int 400]) = true from eqD_eq pE (pl_refD 400) he]; simp)]
        exact w7
      · rw [if_pos (by rw [List.length_map]; omega)]
        rw [if_neg nf] at he
        have pt : Pl 2 (toldD (tI (-1 :: ns))) := pl_toldD (pl_tI _)
        refine ⟨by simp, by simp; omega, by simp, pE.ok, pt.ok, ?_⟩
        rw [if_neg (by rw [show eqD e (.tup [.str "told", .tup (.int (-1) :: ns.map .int)]) = true from eqD_eq pE pt he]; simp)]
        exact w7
    unfold w__law_made_right
    simp only [List.length_cons, List.length_nil]
    sleep 90002
    have e1 : calledS [.val (tI ns), .val (tI ms)] = 0 :: (ns ++ ms) := by simp only [calledS, unI_tI]
    have e2 : funS [.val (tI ns)] = -1 :: ns := by simp only [funS, unI_tI]
    refine ⟨rfl, ⟨ns, ms, rfl, rfl, h1, h2⟩, told_go (f := calledS) (fun hb => ?_) (fun b hb => ?_)⟩
    · rw [e1] at hb ⊢
      have nb : ¬ 400 < ns.length + ms.length + 1 := fun z => by rw [limB, if_pos z] at hb; cases hb
      unfold w__law_made_right_9
      sleep 90002
      refine ⟨rfl, ⟨ns, rfl, h1⟩, told_go (f := funS) (fun hf => ?_) (fun b2 hf => ?_)⟩
      · rw [e2] at hf ⊢
        have nf : ¬ 400 < ns.length + 1 := fun z => by rw [limF, if_pos z] at hf; cases hf
        exact okB _ (by rw [if_neg nb]; rfl) _ (by rw [if_neg nf]; rfl)
      · rw [e2] at hf
        have nf : 400 < ns.length + 1 := Classical.byContradiction fun z => by rw [limF, if_neg z] at hf; cases hf
        rw [limF, if_pos nf] at hf
        cases hf
        exact okB _ (by rw [if_neg nb]; rfl) _ (by rw [if_pos nf]; rfl)
    · rw [e1] at hb
      have nb : 400 < ns.length + ms.length + 1 := Classical.byContradiction fun z => by rw [limB, if_neg z] at hb; cases hb
      rw [limB, if_pos nb] at hb
      cases hb
      unfold w__law_made_right_9
      sleep 90002
      refine ⟨rfl, ⟨ns, rfl, h1⟩, told_go (f := funS) (fun hf => ?_) (fun b2 hf => ?_)⟩
      · rw [e2] at hf ⊢
        have nf : ¬ 400 < ns.length + 1 := fun z => by rw [limF, if_pos z] at hf; cases hf
        exact okB _ (by rw [if_pos nb]; rfl) _ (by rw [if_neg nf]; rfl)
      · rw [e2] at hf
        have nf : 400 < ns.length + 1 := Classical.byContradiction fun z => by rw [limF, if_neg z] at hf; cases hf
        rw [limF, if_pos nf] at hf
        cases hf
        exact okB _ (by rw [if_pos nb]; rfl) _ (by rw [if_pos nf]; rfl)
  · exact hp.elim
end Dl
-- sixth
namespace Dl
open PySem PySem.Spec PyProof.Rows L2 Km
/-- functions around a term -/
def lams (k : Nat) (ms : List Int) : List Int := List.replicate k (-1) ++ ms
theorem lams_succ (k : Nat) (ms : List Int) : lams (k + 1) ms = -1 :: lams k ms := by unfold lams; rw [List.replicate_succ]; rfl
theorem lams_wt {ms : List Int} (h : Wt ms) : ∀ k, Wt (lams k ms)
  | 0 => by unfold lams; simpa using h
  | k + 1 => by rw [lams_succ]; exact (lams_wt h k).fn
theorem lams_few {ms : List Int} {m : Nat} (h : Few ms m) : ∀ k, Few (lams k ms) m
  | 0 => by unfold lams; simpa using h
  | k + 1 => by rw [lams_succ]; exact (lams_few h k).fn
theorem lams_len (k : Nat) (ms : List Int) : (lams k ms).length = k + ms.length := by unfold lams; simp
theorem lams_tm {ms : List Int} (h : Tm ms) {k : Nat} (hk : k + ms.length ≤ 400) : Tm (lams k ms) := ⟨by rw [lams_len]; exact hk, fun c hc => by
  unfold lams at hc
  rcases List.mem_append.mp hc with hc | hc
  · rw [List.eq_of_mem_replicate hc]; omega
  · exact h.rng c hc, (lams_wt h.wt k).jd⟩
theorem rep_neg (k : Nat) : (List.replicate k [D.int (-1)]).flatten = (List.replicate k (-1)).map D.int := by
  induction k with
  | zero => rfl
  | succ k ih => rw [List.replicate_succ, List.replicate_succ, List.flatten_cons, ih]; rfl
theorem lams_D (k : Nat) (ms : List Int) : (List.replicate k [D.int (-1)]).flatten ++ ms.map D.int = (lams k ms).map D.int := by
  unfold lams
  rw [rep_neg, List.map_append]
theorem one_tm {x : Int} (h0 : 0 < x) (h1 : x ≤ 1000) : Tm [x] := ⟨by simp, fun c hc => by rw [List.mem_singleton.mp hc]; omega, by
  unfold jI
  rw [if_neg (by omega)]
  unfold up
  rw [if_neg (by omega), if_pos h0]
  rfl⟩
theorem one_few {x : Int} : Few [x] 30 := ⟨[x], by simp, fun y hy => by
  obtain ⟨i, c, d, h1, h2, h3, rfl⟩ := hy
  cases i with
  | zero =>
    have h2 : some 0 = some d := h2
    cases h2
    have h1 : some x = some c := h1
    cases h1
    simp
  | succ i => simp at h1⟩
def pre__law_right : List S → Prop
  | [.dice] => True
  | _ => False
def post__law_right : List S → DV → Prop := fun _ r => r = .c (.bl true)
def w__law_right_1 : DS := wRet (wCall 2 pre__law_made_right post__law_made_right (waCons (wOp rPlus (wOp rTimes (wTup (waCons (wUn rNeg (wC (.int 1))) (waNil))) (wOp rPlus (wC (.int 398)) (wCall 2 pre__law_roll post__law_roll (waCons (wVar 0) (waCons (wC (.int 2)) (waNil)))))) (wTup (waCons (wC (.int 1)) (waNil)))) (waCons (wTup (waCons (wC (.int 1)) (waNil))) (waNil))))
def w__law_right_2 : DS := wSeq (wIfS (wOrT (wNotT (wB (wCall 2 pre__law_made_right post__law_made_right (waCons (wVar 3) (waCons (wCall 2 pre__law_one_of post__law_one_of (waCons (wVar 0) (waCons (wLst (waCons (wTup (waCons (wC (.int 1)) (waNil))) (waCons (wTup (waCons (wC (.int 7)) (waNil))) (waCons (wVar 2) (waNil))))) (waNil)))) (waNil)))))) (wNotT (wB (wCall 2 pre__law_made_right post__law_made_right (waCons (wVar 2) (waCons (wVar 3) (waNil))))))) (wRet (wC (.bl false))) ((fun R δ => R.nx δ))) (w__law_right_1)
def w__law_right_3 : DS := wSeq (wSet 3 (wOp rPlus (wOp rTimes (wTup (waCons (wUn rNeg (wC (.int 1))) (waNil))) (wOp rMinus (wOp rPlus (wC (.int 396)) (wCall 2 pre__law_roll post__law_roll (waCons (wVar 0) (waCons (wC (.int 4)) (waNil))))) (wCB cLen (waCons (wVar 2) (waNil))))) (wVar 2))) (w__law_right_2)
def w__law_right_4 : DS := wSeq (wIfS (wOrT (wNotT (wB (wCall 2 pre__law_raise_right post__law_raise_right (waCons (wVar 0) (waCons (wVar 1) (waNil)))))) (wOrT (wNotT (wB (wCall 2 pre__law_raise_right post__law_raise_right (waCons (wVar 0) (waCons (wVar 2) (waNil)))))) (wNotT (wB (wCall 2 pre__law_made_right post__law_made_right (waCons (wVar 1) (waCons (wVar 2) (waNil)))))))) (wRet (wC (.bl false))) ((fun R δ => R.nx δ))) (w__law_right_3)
def w__law_right_5 : DS := wSeq (wSet 2 (wCall 3 pre__law_term_drawn post_2law_term_drawn (waCons (wVar 0) (waCons (wOp rPlus (wC (.int 1)) (wCall 2 pre__law_roll post__law_roll (waCons (wVar 0) (waCons (wC (.int 30)) (waNil))))) (waCons (wC (.int 2)) (waNil)))))) (w__law_right_4)
def w__law_right : DS := wSeq (wSet 1 (wCall 3 pre__law_term_drawn post_2law_term_drawn (waCons (wVar 0) (waCons (wOp rPlus (wC (.int 1)) (wCall 2 pre__law_roll post__law_roll (waCons (wVar 0) (waCons (wC (.int 40)) (waNil))))) (waCons (wOp rPlus (wC (.int 1)) (wCall 2 pre__law_roll post__law_roll (waCons (wVar 0) (waCons (wC (.int 5)) (waNil))))) (waNil)))))) (w__law_right_5)
theorem goal__law_right : Goal w__law_right ["dice", "term", "other", "long"] 1 pre__law_right post__law_right := by
  intro xs hl hp
  unfold pre__law_right at hp
  split at hp
  · unfold w__law_right
    simp only [List.length_cons, List.length_nil]
    sleep 90002
    refine roll_go (by omega) (by omega) fun i i0 i1 => ?_
    sleep 90002
    refine roll_go (by omega) (by omega) fun j j0 j1 => ?_
    sleep 90002
    refine ⟨rfl, ⟨by omega, by omega, by omega, by omega⟩, fun r hr => ?_⟩
    obtain ⟨ns, rfl, t1, l1, -, op1⟩ := hr
    refine ⟨by simp, ?_⟩
    sleep 90001
    unfold w__law_right_5
    sleep 90002
    refine roll_go (by omega) (by omega) fun k k0 k1 => ?_
    sleep 90002
    refine ⟨rfl, ⟨by omega, by omega, by omega, by omega⟩, fun r hr => ?_⟩
    obtain ⟨ms, rfl, t2, l2, -, op2⟩ := hr
    refine ⟨by simp, ?_⟩
    sleep 90001
    have f1 : Few ns 30 := (Few.of (m := 5) fun x hx => by have := op1 x hx; omega).mono (by omega)
    have f2 : Few ms 30 := (Few.of (m := 2) fun x hx => by have := op2 x hx; omega).mono (by omega)
    unfold w__law_right_4
    sleep 90002
    refine call_one (x := .bl true) rfl ⟨ns, rfl, t1, f1⟩ (fun r q => q) ?_
    sleep 90002
    refine call_one (x := .bl true) rfl ⟨ms, rfl, t2, f2⟩ (fun r q => q) ?_
    sleep 90002
    refine call_one (x := .bl true) rfl ⟨ns, ms, rfl, rfl, t1, t2, f1, f2⟩ (fun r q => q) ?_
    sleep 90002
    unfold w__law_right_3
    sleep 90002
    refine ⟨by simp, roll_go (by omega) (by omega) fun u u0 u1 => ?_⟩
    simp only [List.length_map]
    (try sleep 90001)
    obtain ⟨K, hK⟩ : ∃ K : Nat, (396 + u - (ms.length : Int)).toNat = K := ⟨_, rfl⟩
    have hK2 : (K : Int) = 396 + u - (ms.length : Int) := by omega
    refine ⟨by simp, by omega, by omega, by simp, ?_⟩
    rw [hK, lams_D]
    refine ⟨by rw [rep_neg]; simp; omega, ?_⟩
    have tl : Tm (lams K ms) := lams_tm t2 (by omega)
    have fl : Few (lams K ms) 30 := lams_few f2 K
    have ol : ∀ x : Int, 0 < x → x ≤ 1000 → Tm [x] := fun x a b => one_tm a b
    unfold w__law_right_2
    sleep 90002
    refine ⟨by simp, by simp, by simp, rfl, ⟨by simp, by simp⟩, fun r hr => ?_⟩
    obtain ⟨d, hd, rfl⟩ := hr
    obtain ⟨ys, rfl, ty, fy⟩ : ∃ ys, d = tI ys ∧ Tm ys ∧ Few ys 30 := by
      simp only [List.mem_cons, List.not_mem_nil, or_false] at hd
      rcases hd with rfl | rfl | rfl
      · exact ⟨[1], rfl, one_tm (by omega) (by omega), one_few⟩
      · exact ⟨[7], rfl, one_tm (by omega) (by omega), one_few⟩
      · exact ⟨ms, rfl, t2, f2⟩
    refine ⟨by simp, _, rfl, call_one (x := .bl true) rfl ⟨lams K ms, ys, rfl, rfl, tl, ty, fl, fy⟩ (fun r q => q) ?_⟩
    refine ⟨true, rfl, ?_⟩
    sleep 90001
    refine call_one (x := .bl true) rfl ⟨ms, lams K ms, rfl, rfl, t2, tl, f2, fl⟩ (fun r q => q) ?_
    refine ⟨true, rfl, ?_⟩
    sleep 90001
    unfold w__law_right_1
    sleep 90002
    refine ⟨by simp, roll_go (by omega) (by omega) fun v v0 v1 => ?_⟩
    (try sleep 90001)
    obtain ⟨Q, hQ⟩ : ∃ Q : Nat, (398 + v).toNat = Q := ⟨_, rfl⟩
    have hlam : (List.replicate (398 + v).toNat [D.int (-1)]).flatten ++ [D.int 1] = (lams Q [1]).map D.int := by rw [hQ]; exact lams_D Q [1]
    rw [hlam]
    have t1 : Tm [1] := one_tm (by omega) (by omega)
    refine ⟨by simp, by omega, by omega, by simp, by simp, by rw [rep_neg]; simp; omega, by simp, ?_⟩
    refine call_one (x := .bl true) rfl ⟨lams Q [1], [1], rfl, rfl, lams_tm t1 (by simp; omega), t1, lams_few one_few Q, one_few⟩ (fun r q => q) ?_
    exact ⟨_, rfl, rfl⟩
  · exact hp.elim
def pre_law : List S → Prop
  | [.val (.frl ds)] => ∃ ns : List Int, ds = ns.map .int ∧ ns.length ≤ 63
  | _ => False
def post_law : List S → DV → Prop := fun _ r => r = .c (.bl true)
def w_law_1 : DS := wRet (wOp rEqq (wVar 2) (wLst (waCons (wTup (waCons (wC (.int 0)) (waCons (wUn rNeg (wC (.int 1))) (waCons (wC (.int 7)) (waCons (wC (.int 8)) (waNil)))))) (waCons (wTup (waCons (wC (.int 0)) (waCons (wUn rNeg (wC (.int 1))) (waCons (wC (.int 1)) (waCons (wC (.int 1)) (waNil)))))) (waCons (wTup (waCons (wUn rNeg (wC (.int 1))) (waCons (wC (.int 0)) (waCons (wC (.int 1)) (waCons (wC (.int 2)) (waNil)))))) (waCons (wTup (waCons (wC (.int 1)) (waCons (wC (.int 3)) (waNil)))) (waNil)))))))
def w_law_2 : DS := wSeq (wApp 2 (wCall 1 pre_open_variables post_open_variables (waCons (wTup (waCons (wC (.int 0)) (waCons (wUn rNeg (wC (.int 1))) (waCons (wC (.int 2)) (waCons (wC (.int 3)) (waNil)))))) (waNil)))) (w_law_1)
def w_law_3 : DS := wIfS (wNotT (wB (wCallF 1 pre__law_right post__law_right (waCons (wCall 2 pre__law_dice post__law_dice (waCons (wVar 0) (waCons (wVar 1) (waNil)))) (waNil))))) (wRet (wC (.bl false))) ((fun R δ => R.nx δ))
def w_law_4 : DS := wSeq (wSet 2 (wLst (waCons (wCallX (fun _ => False) 2 pre_Xraised_term post_Xraised_term xpost_Xraised_term (waCons (wTup (waCons (wC (.int 0)) (waCons (wUn rNeg (wC (.int 1))) (waCons (wC (.int 2)) (waCons (wC (.int 3)) (waNil)))))) (waCons (wC (.int 5)) (waNil)))) (waCons (wCallX (fun _ => False) 2 pre_Xcalled post_Xcalled xpost_Xcalled (waCons (wTup (waCons (wUn rNeg (wC (.int 1))) (waCons (wC (.int 1)) (waNil)))) (waCons (wTup (waCons (wC (.int 1)) (waNil))) (waNil)))) (waCons (wCallX (fun _ => False) 1 pre_Xfunction_with post_Xfunction_with xpost_Xfunction_with (waCons (wTup (waCons (wC (.int 0)) (waCons (wC (.int 1)) (waCons (wC (.int 2)) (waNil))))) (waNil))) (waNil)))))) (w_law_2)
def w_law : DS := wSeq (wForR1 (waCons (wCB cMax (waCons (wC (.int 1)) (waCons (wCB cMin (waCons (wC (.int 5)) (waCons (wCB cLen (waCons (wVar 0) (waNil))) (waNil)))) (waNil)))) (waNil)) (wgName 1) (w_law_3)) (w_law_4)
def inv_law (ns : List Int) (m : Nat) (δ : List S) : Prop := ∃ s, δ = [.val (.frl (ns.map .int)), s, .no]
def oddT : List Int := [0, -1, 2, 3]
theorem goal_law : Goal w_law ["script", "at", "told"] 1 pre_law post_law := by
  intro xs hl hp
  unfold pre_law at hp
  split at hp
  · rename_i ds
    obtain ⟨ns, rfl, hn⟩ := hp
    unfold w_law wForR1
    simp only [List.length_cons, List.length_nil]
    sleep 90002
    rw [List.length_map]
    refine ⟨⟨by split <;> split <;> omega, by split <;> split <;> omega⟩, inv_law ns, ⟨_, rfl⟩, ?_, ?_⟩
    · rintro m δ hm ⟨s, rfl⟩
      have hm4 : (m : Int) ≤ 5 := by split at hm <;> split at hm <;> omega
      unfold w_law_3
      sleep 90002
      refine ⟨rfl, ⟨ns, rfl, hn, by omega, by omega⟩, fun r hr => ?_⟩
      obtain ⟨l, mm, c, h0, rfl⟩ := hr
      refine ⟨by simp, l, mm, c, rfl, h0, (fun s hs => nomatch hs), rfl, trivial, fun r hr => ?_⟩
      have hr : r = .c (.bl true) := hr
      subst hr
      refine ⟨by simp, ?_⟩
      (try sleep 90001)
      exact ⟨_, rfl⟩
    · rintro δ ⟨s, rfl⟩
      unfold w_law_4
      sleep 90002
      have to : Tm oddT := ⟨by decide, by decide, by decide⟩
      refine ⟨by simp, made_go (ns := [0, -1, 7, 8]) rfl ⟨oddT, rfl, to, by omega, by omega⟩ (by rfl) (limD_ok (by decide) (by decide)) ?_⟩
      refine ⟨by simp, by simp, made_go (ns := [0, -1, 1, 1]) rfl ⟨[-1, 1], [1], rfl, rfl, ⟨by decide, by decide, by decide⟩, ⟨by decide, by decide, by decide⟩⟩ (by rfl) (limD_ok (by decide) (by decide)) ?_⟩
      refine ⟨by simp, made_go (ns := [-1, 0, 1, 2]) rfl ⟨[0, 1, 2], rfl, ⟨by decide, by decide, by decide⟩⟩ (by rfl) (limD_ok (by decide) (by decide)) ?_⟩
      refine ⟨_, rfl, by simp, ?_⟩
      unfold w_law_2
      sleep 90002
      refine ⟨by simp, by simp, rfl, ⟨oddT, rfl, to, opens oddT, by decide, fun x hx => hx⟩, fun r hr => ?_⟩
      obtain ⟨out, rfl, asc⟩ := hr
      have eo : out = [1, 3] := asc_eq asc.1 (by simp) fun k => by rw [asc.2]; exact Iff.rfl
      subst eo
      refine ⟨by simp, ?_⟩
      sleep 90001
      unfold w_law_1
      sleep 90001
      have pr : Pl 2 (.lst [tI [0, -1, 7, 8], tI [0, -1, 1, 1], tI [-1, 0, 1, 2], tI [1, 3]]) := .lst _ fun d hd => by
        simp only [List.mem_cons, List.not_mem_nil, or_false] at hd
        rcases hd with rfl | rfl | rfl | rfl <;> exact pl_tI _
      (repeat (refine And.intro ?_ ?_; · (first | rfl | decide | omega | (simp; done) | (simp; omega))))
      refine ⟨pr.ok, pr.ok, ?_⟩
      rw [show eqD (.lst [tI [0, -1, 7, 8], tI [0, -1, 1, 1], tI [-1, 0, 1, 2], tI [1, 3]]) (.lst [.tup [.int 0, .int (-1), .int 7, .int 8], .tup [.int 0, .int (-1), .int 1, .int 1], .tup [.int (-1), .int 0, .int 1, .int 2], .tup [.int 1, .int 3]]) = true from eqD_eq pr pr rfl]
      rfl
  · exact hp.elim
end Dl
namespace Dl
open PySem PySem.Spec PyProof.Rows L2 Km
def topS (i : Nat) : Stmt := PySem.Challenge.pw_oncework_k02_whole_terms_made_of_terms.main.body.getD i (.Pass ⟨0, 0, 0, 0⟩)
abbrev s_is_whole : Stmt := topS 9
abbrev s_is_whole_within : Stmt := topS 10
abbrev s_end_behind : Stmt := topS 11
abbrev s_depths_in : Stmt := topS 12
abbrev s_raised_parts : Stmt := topS 13
abbrev s_is_term : Stmt := topS 17
abbrev s_check_term : Stmt := topS 18
abbrev s_check_place : Stmt := topS 19
abbrev s_passed_limit : Stmt := topS 20
abbrev s_check_limits : Stmt := topS 21
abbrev s_part_of : Stmt := topS 22
abbrev s_variables_of : Stmt := topS 23
abbrev s_open_variables : Stmt := topS 24
abbrev s_raised_term : Stmt := topS 25
abbrev s_called : Stmt := topS 26
abbrev s_function_with : Stmt := topS 27
abbrev s__law_dice : Stmt := topS 29
abbrev s__law_roll : Stmt := topS 30
abbrev s__law_one_of : Stmt := topS 31
abbrev s__law_ends : Stmt := topS 32
abbrev s__law_depths : Stmt := topS 33
abbrev s__law_raised_open : Stmt := topS 34
abbrev s__law_term_drawn : Stmt := topS 35
abbrev s__law_flat_depths : Stmt := topS 36
abbrev s__law_opened : Stmt := topS 37
abbrev s__law_told : Stmt := topS 38
abbrev s__law_raise_right : Stmt := topS 39
abbrev s__law_made_right : Stmt := topS 40
abbrev s__law_right : Stmt := topS 41
abbrev s_law : Stmt := topS 42
def nmL : List Str := "is_whole" :: "is_whole_within" :: "end_behind" :: "depths_in" :: "raised_parts" :: "is_term" :: "check_term" :: "check_place" :: "passed_limit" :: "check_limits" :: "part_of" :: "variables_of" :: "open_variables" :: "raised_term" :: "called" :: "function_with" :: "_law_dice" :: "_law_roll" :: "_law_one_of" :: "_law_ends" :: "_law_depths" :: "_law_raised_open" :: "_law_term_drawn" :: "_law_flat_depths" :: "_law_opened" :: "_law_told" :: "_law_raise_right" :: "_law_made_right" :: "_law_right" :: "law" :: []
def stL : List Stmt := s_is_whole :: s_is_whole_within :: s_end_behind :: s_depths_in :: s_raised_parts :: s_is_term :: s_check_term :: s_check_place :: s_passed_limit :: s_check_limits :: s_part_of :: s_variables_of :: s_open_variables :: s_raised_term :: s_called :: s_function_with :: s__law_dice :: s__law_roll :: s__law_one_of :: s__law_ends :: s__law_depths :: s__law_raised_open :: s__law_term_drawn :: s__law_flat_depths :: s__law_opened :: s__law_told :: s__law_raise_right :: s__law_made_right :: s__law_right :: s_law :: []
abbrev nm (i : Nat) : Str := nmL.getD i ""
abbrev st (i : Nat) : Stmt := stL.getD i (.Pass ⟨0, 0, 0, 0⟩)
abbrev FnP (K : PySem.W.Frag) (x : Str) (st : Stmt) (f : Addr) (fd : FuncData) : Prop := FunD K x x (defArgs st) (defBody st) (defScope st) [] [] f fd
abbrev frees : List Str := ["int", "isinstance", "len", "enumerate", "zip", "max", "tuple", "range", "sorted", "abs", "min", "set"]
structure Tx (K : PySem.W.Frag) (mg : Str → Option Value) (base : Heap) (fs : Nat → Addr) (fds : Nat → FuncData) : Prop where
  def_ : ∀ i, i < 30 → FnP K (nm i) (st i) (fs i) (fds i)
  glo : ∀ i, i < 30 → mg (nm i) = some (.ref (fs i))
  free : ∀ x, x ∈ frees → mg x = none
  c_WHOLE_END : ∃ t, mg "WHOLE_END" = some (.int c_WHOLE_END t)
  c_MAX_PARTS : ∃ t, mg "MAX_PARTS" = some (.int c_MAX_PARTS t)
  c_MAX_VARIABLE : ∃ t, mg "MAX_VARIABLE" = some (.int c_MAX_VARIABLE t)
  lm__law_raise_right : LamMk K mg base "_law_raise_right" (fds 26)
  lm__law_made_right : LamMk K mg base "_law_made_right" (fds 27)
  e_TooMany : PySem.OwnEx.ErrC K mg "OverflowError" "OverflowError.__new__" "OverflowError.__init__" [.type "OverflowError", .type "ArithmeticError", .type "Exception", .type "BaseException", .type "object"] "TooMany" "limit"
  i_TooMany : PySem.OwnTooMany.InitD K (He.ma K (He.ga K "TooMany") "__init__")
theorem sc_is_whole : FnScope ["value"] ["value"] (defScope s_is_whole) := ⟨rfl, rfl, rfl, by decide +kernel, rfl, by decide +kernel, by decide +kernel⟩
theorem sc_is_whole_within : FnScope ["value", "least", "most"] ["value", "least", "most"] (defScope s_is_whole_within) := ⟨rfl, rfl, rfl, by decide +kernel, rfl, by decide +kernel, by decide +kernel⟩
theorem sc_end_behind : FnScope ["parts", "place", "wanted", "at", "part"] ["parts", "place"] (defScope s_end_behind) := ⟨rfl, rfl, rfl, by decide +kernel, rfl, by decide +kernel, by decide +kernel⟩
theorem sc_depths_in : FnScope ["term", "waiting", "depths", "part", "depth"] ["term"] (defScope s_depths_in) := ⟨rfl, rfl, rfl, by decide +kernel, rfl, by decide +kernel, by decide +kernel⟩
theorem sc_raised_parts : FnScope ["term", "number", "depths", "part", "depth"] ["term", "number"] (defScope s_raised_parts) := ⟨rfl, rfl, rfl, by decide +kernel, rfl, by decide +kernel, by decide +kernel⟩
theorem sc_is_term : FnScope ["value", "wanted", "part"] ["value"] (defScope s_is_term) := ⟨rfl, rfl, rfl, by decide +kernel, rfl, by decide +kernel, by decide +kernel⟩
theorem sc_check_term : FnScope ["term"] ["term"] (defScope s_check_term) := ⟨rfl, rfl, rfl, by decide +kernel, rfl, by decide +kernel, by decide +kernel⟩
theorem sc_check_place : FnScope ["term", "place"] ["term", "place"] (defScope s_check_place) := ⟨rfl, rfl, rfl, by decide +kernel, rfl, by decide +kernel, by decide +kernel⟩
theorem sc_passed_limit : FnScope ["term"] ["term"] (defScope s_passed_limit) := ⟨rfl, rfl, rfl, by decide +kernel, rfl, by decide +kernel, by decide +kernel⟩
theorem sc_check_limits : FnScope ["term", "limit"] ["term"] (defScope s_check_limits) := ⟨rfl, rfl, rfl, by decide +kernel, rfl, by decide +kernel, by decide +kernel⟩
theorem sc_part_of : FnScope ["term", "place"] ["term", "place"] (defScope s_part_of) := ⟨rfl, rfl, rfl, by decide +kernel, rfl, by decide +kernel, by decide +kernel⟩
theorem sc_variables_of : FnScope ["term", "place", "depths", "inside", "at"] ["term", "place"] (defScope s_variables_of) := ⟨rfl, rfl, rfl, by decide +kernel, rfl, by decide +kernel, by decide +kernel⟩
theorem sc_open_variables : FnScope ["term", "depths", "part", "depth"] ["term"] (defScope s_open_variables) := ⟨rfl, rfl, rfl, by decide +kernel, rfl, by decide +kernel, by decide +kernel⟩
theorem sc_raised_term : FnScope ["term", "number", "raised"] ["term", "number"] (defScope s_raised_term) := ⟨rfl, rfl, rfl, by decide +kernel, rfl, by decide +kernel, by decide +kernel⟩
theorem sc_called : FnScope ["term", "other", "call"] ["term", "other"] (defScope s_called) := ⟨rfl, rfl, rfl, by decide +kernel, rfl, by decide +kernel, by decide +kernel⟩
theorem sc_function_with : FnScope ["term", "function"] ["term"] (defScope s_function_with) := ⟨rfl, rfl, rfl, by decide +kernel, rfl, by decide +kernel, by decide +kernel⟩
theorem sc__law_dice : FnScope ["script", "at", "cell", "great", "left", "mixed"] ["script", "at"] (defScope s__law_dice) := ⟨rfl, rfl, rfl, by decide +kernel, rfl, by decide +kernel, by decide +kernel⟩
theorem sc__law_roll : FnScope ["dice", "total", "size", "drawn", "one", "two"] ["dice", "total"] (defScope s__law_roll) := ⟨rfl, rfl, rfl, by decide +kernel, rfl, by decide +kernel, by decide +kernel⟩
theorem sc__law_one_of : FnScope ["dice", "items"] ["dice", "items"] (defScope s__law_one_of) := ⟨rfl, rfl, rfl, by decide +kernel, rfl, by decide +kernel, by decide +kernel⟩
theorem sc__law_ends : FnScope ["term", "found", "at"] ["term"] (defScope s__law_ends) := ⟨rfl, rfl, rfl, by decide +kernel, rfl, by decide +kernel, by decide +kernel⟩
theorem sc__law_depths : FnScope ["term", "ends", "found", "at", "code", "inner"] ["term"] (defScope s__law_depths) := ⟨rfl, rfl, rfl, by decide +kernel, rfl, by decide +kernel, by decide +kernel⟩
theorem sc__law_raised_open : FnScope ["part", "more", "depths", "at", "code"] ["part", "more"] (defScope s__law_raised_open) := ⟨rfl, rfl, rfl, by decide +kernel, rfl, by decide +kernel, by decide +kernel⟩
theorem sc__law_term_drawn : FnScope ["dice", "size", "open_count", "found", "todo", "left", "depth", "known", "inner"] ["dice", "size", "open_count"] (defScope s__law_term_drawn) := ⟨rfl, rfl, rfl, by decide +kernel, rfl, by decide +kernel, by decide +kernel⟩
theorem sc__law_flat_depths : FnScope ["term", "found", "waiting", "code", "here"] ["term"] (defScope s__law_flat_depths) := ⟨rfl, rfl, rfl, by decide +kernel, rfl, by decide +kernel, by decide +kernel⟩
theorem sc__law_opened : FnScope ["term", "depths", "at", "code"] ["term"] (defScope s__law_opened) := ⟨rfl, rfl, rfl, by decide +kernel, rfl, by decide +kernel, by decide +kernel⟩
theorem sc__law_told : FnScope ["call", "error"] ["call"] (defScope s__law_told) := ⟨rfl, rfl, rfl, by decide +kernel, rfl, by decide +kernel, by decide +kernel⟩
theorem sc__law_raise_right : FnScope ["dice", "term", "more", "due", "told", "number", "less", "at", "code"] ["dice", "term"] (defScope s__law_raise_right) := ⟨rfl, rfl, rfl, by decide +kernel, rfl, by decide +kernel, by decide +kernel⟩
theorem sc__law_made_right : FnScope ["term", "other", "both", "deep", "one"] ["term", "other"] (defScope s__law_made_right) := ⟨rfl, rfl, rfl, by decide +kernel, rfl, by decide +kernel, by decide +kernel⟩
theorem sc__law_right : FnScope ["dice", "term", "other", "long"] ["dice"] (defScope s__law_right) := ⟨rfl, rfl, rfl, by decide +kernel, rfl, by decide +kernel, by decide +kernel⟩
theorem sc_law : FnScope ["script", "at", "told"] ["script"] (defScope s_law) := ⟨rfl, rfl, rfl, by decide +kernel, rfl, by decide +kernel, by decide +kernel⟩
section
variable {P : Program} {w : World} {K : PySem.W.Frag} {mg : Str → Option Value} {base : Heap} {fs : Nat → Addr} {fds : Nat → FuncData}
theorem b_is_whole (T : Tx K mg base fs fds) : Binds K (fds 0) ["value"] [] := (T.def_ 0 (by decide)).bindsN fun _ _ _ _ _ _ us hl => match us, hl with | [_], _ => rfl
theorem b_is_whole_within (T : Tx K mg base fs fds) : Binds K (fds 1) ["value", "least", "most"] [] := (T.def_ 1 (by decide)).bindsN fun _ _ _ _ _ _ us hl => match us, hl with | [_, _, _], _ => rfl
theorem b_end_behind (T : Tx K mg base fs fds) : Binds K (fds 2) ["parts", "place"] [] := (T.def_ 2 (by decide)).bindsN fun _ _ _ _ _ _ us hl => match us, hl with | [_, _], _ => rfl
theorem b_depths_in (T : Tx K mg base fs fds) : Binds K (fds 3) ["term"] [] := (T.def_ 3 (by decide)).bindsN fun _ _ _ _ _ _ us hl => match us, hl with | [_], _ => rfl
theorem b_raised_parts (T : Tx K mg base fs fds) : Binds K (fds 4) ["term", "number"] [] := (T.def_ 4 (by decide)).bindsN fun _ _ _ _ _ _ us hl => match us, hl with | [_, _], _ => rfl
theorem b_is_term (T : Tx K mg base fs fds) : Binds K (fds 5) ["value"] [] := (T.def_ 5 (by decide)).bindsN fun _ _ _ _ _ _ us hl => match us, hl with | [_], _ => rfl
theorem b_check_term (T : Tx K mg base fs fds) : Binds K (fds 6) ["term"] [] := (T.def_ 6 (by decide)).bindsN fun _ _ _ _ _ _ us hl => match us, hl with | [_], _ => rfl
theorem b_check_place (T : Tx K mg base fs fds) : Binds K (fds 7) ["term", "place"] [] := (T.def_ 7 (by decide)).bindsN fun _ _ _ _ _ _ us hl => match us, hl with | [_, _], _ => rfl
theorem b_passed_limit (T : Tx K mg base fs fds) : Binds K (fds 8) ["term"] [] := (T.def_ 8 (by decide)).bindsN fun _ _ _ _ _ _ us hl => match us, hl with | [_], _ => rfl
theorem b_check_limits (T : Tx K mg base fs fds) : Binds K (fds 9) ["term"] [] := (T.def_ 9 (by decide)).bindsN fun _ _ _ _ _ _ us hl => match us, hl with | [_], _ => rfl
theorem b_part_of (T : Tx K mg base fs fds) : Binds K (fds 10) ["term", "place"] [] := (T.def_ 10 (by decide)).bindsN fun _ _ _ _ _ _ us hl => match us, hl with | [_, _], _ => rfl
theorem b_variables_of (T : Tx K mg base fs fds) : Binds K (fds 11) ["term", "place"] [] := (T.def_ 11 (by decide)).bindsN fun _ _ _ _ _ _ us hl => match us, hl with | [_, _], _ => rfl
theorem b_open_variables (T : Tx K mg base fs fds) : Binds K (fds 12) ["term"] [] := (T.def_ 12 (by decide)).bindsN fun _ _ _ _ _ _ us hl => match us, hl with | [_], _ => rfl
theorem b_raised_term (T : Tx K mg base fs fds) : Binds K (fds 13) ["term", "number"] [] := (T.def_ 13 (by decide)).bindsN fun _ _ _ _ _ _ us hl => match us, hl with | [_, _], _ => rfl
theorem b_called (T : Tx K mg base fs fds) : Binds K (fds 14) ["term", "other"] [] := (T.def_ 14 (by decide)).bindsN fun _ _ _ _ _ _ us hl => match us, hl with | [_, _], _ => rfl
theorem b_function_with (T : Tx K mg base fs fds) : Binds K (fds 15) ["term"] [] := (T.def_ 15 (by decide)).bindsN fun _ _ _ _ _ _ us hl => match us, hl with | [_], _ => rfl
theorem b__law_dice (T : Tx K mg base fs fds) : Binds K (fds 16) ["script", "at"] [] := (T.def_ 16 (by decide)).bindsN fun _ _ _ _ _ _ us hl => match us, hl with | [_, _], _ => rfl
theorem b__law_roll (T : Tx K mg base fs fds) : Binds K (fds 17) ["dice", "total"] [] := (T.def_ 17 (by decide)).bindsN fun _ _ _ _ _ _ us hl => match us, hl with | [_, _], _ => rfl
theorem b__law_one_of (T : Tx K mg base fs fds) : Binds K (fds 18) ["dice", "items"] [] := (T.def_ 18 (by decide)).bindsN fun _ _ _ _ _ _ us hl => match us, hl with | [_, _], _ => rfl
theorem b__law_ends (T : Tx K mg base fs fds) : Binds K (fds 19) ["term"] [] := (T.def_ 19 (by decide)).bindsN fun _ _ _ _ _ _ us hl => match us, hl with | [_], _ => rfl
theorem b__law_depths (T : Tx K mg base fs fds) : Binds K (fds 20) ["term"] [] := (T.def_ 20 (by decide)).bindsN fun _ _ _ _ _ _ us hl => match us, hl with | [_], _ => rfl
theorem b__law_raised_open (T : Tx K mg base fs fds) : Binds K (fds 21) ["part", "more"] [] := (T.def_ 21 (by decide)).bindsN fun _ _ _ _ _ _ us hl => match us, hl with | [_, _], _ => rfl
theorem b__law_term_drawn (T : Tx K mg base fs fds) : Binds K (fds 22) ["dice", "size", "open_count"] [] := (T.def_ 22 (by decide)).bindsN fun _ _ _ _ _ _ us hl => match us, hl with | [_, _, _], _ => rfl
theorem b__law_flat_depths (T : Tx K mg base fs fds) : Binds K (fds 23) ["term"] [] := (T.def_ 23 (by decide)).bindsN fun _ _ _ _ _ _ us hl => match us, hl with | [_], _ => rfl
theorem b__law_opened (T : Tx K mg base fs fds) : Binds K (fds 24) ["term"] [] := (T.def_ 24 (by decide)).bindsN fun _ _ _ _ _ _ us hl => match us, hl with | [_], _ => rfl
theorem b__law_told (T : Tx K mg base fs fds) : Binds K (fds 25) ["call"] [] := (T.def_ 25 (by decide)).bindsN fun _ _ _ _ _ _ us hl => match us, hl with | [_], _ => rfl
theorem b__law_raise_right (T : Tx K mg base fs fds) : Binds K (fds 26) ["dice", "term"] [] := (T.def_ 26 (by decide)).bindsN fun _ _ _ _ _ _ us hl => match us, hl with | [_, _], _ => rfl
theorem b__law_made_right (T : Tx K mg base fs fds) : Binds K (fds 27) ["term", "other"] [] := (T.def_ 27 (by decide)).bindsN fun _ _ _ _ _ _ us hl => match us, hl with | [_, _], _ => rfl
theorem b__law_right (T : Tx K mg base fs fds) : Binds K (fds 28) ["dice"] [] := (T.def_ 28 (by decide)).bindsN fun _ _ _ _ _ _ us hl => match us, hl with | [_], _ => rfl
theorem b_law (T : Tx K mg base fs fds) : Binds K (fds 29) ["script"] [] := (T.def_ 29 (by decide)).bindsN fun _ _ _ _ _ _ us hl => match us, hl with | [_], _ => rfl
theorem give__law_told (T : Tx K mg base fs fds) : ∀ (X : Cx), X.K = K → X.mg = mg → ∀ cdg q, LamX.GivesTo X ["call", "error"] "_law_told" (defScope s__law_told) (fs 25) cdg (defBody s__law_told) "call" q (TTas K (He.ga K "TooMany") "limit" "told" "refused") := fun X hK hm cdg q => by subst hK hm; exact told_as rfl T.e_TooMany.nm (by decide) T.e_TooMany.xf T.e_TooMany.nf (by decide) rfl (.inl rfl) rfl (by decide) (by decide) (fun _ => rfl) (fun _ => rfl)
theorem ok_is_whole (T : Tx K mg base fs fds) : FnOk P w K mg base CX0 1 (fs 0) (fds 0) ["value"] (SpD K 1 pre_is_whole post_is_whole) :=
  fn_d (N := ["value"]) (wb := w_is_whole) (T.def_ 0 (by decide)) sc_is_whole rfl (by decide) (fun cdv A outer s H E hr => dss_cons (ds_if ((dw_or (dt_not (dt_val (de_callB call_isi dc_isi (by rfl) (T.free "isinstance" (by decide)) (by decide +kernel) (da_cons (de_var 0) (da_cons (de_ty (by rfl) (T.free "int" (by decide)) (by decide +kernel)) (da_nil)))))) (dw_or (dt_cmp op_isA dop_isB (de_var 0) (de_bl)) (dw_or1 (dt_cmp op_isA dop_isB (de_var 0) (de_bl))))).pt) (dss_one (ds_ret (de_bl))) (dss_nil)) (dss_one (ds_ret (de_chain op_lt op_lt dop_lt dop_lt (de_neg (de_globE (by rfl) T.c_WHOLE_END)) (de_var 0) (de_globE (by rfl) T.c_WHOLE_END))))) goal_is_whole
theorem ok_end_behind (T : Tx K mg base fs fds) : FnOk P w K mg base CX0 1 (fs 2) (fds 2) ["parts", "place"] (SpD K 2 pre_end_behind post_end_behind) :=
  fn_d (N := ["parts", "place", "wanted", "at", "part"]) (wb := w_end_behind) (T.def_ 2 (by decide)) sc_end_behind rfl (by decide) (fun cdv A outer s H E hr => dss_cons (ds_set (i := 2) sc_end_behind.nd rfl (.inl rfl) (de_int)) (dss_cons (ds_forW PassesOwn.never rfl (dif_enum (by rfl) (T.free "enumerate" (by decide)) (da_cons (de_slice (de_var 0) (do_some (de_var 1)) (do_none)) (da_nil))) (dg_tup (n := 2) rfl (dgs_cons (dg_name (i := 3) sc_end_behind.nd rfl (.inl rfl)) (dgs_cons (dg_name (i := 4) sc_end_behind.nd rfl (.inl rfl)) (dgs_nil)))) (dss_one (ds_if (dt_cmp op_gt dop_gt (de_var 4) (de_int)) (dss_cons (ds_augI (i := 2) sc_end_behind.nd rfl (.inl rfl) ip_sub (de_int)) (dss_one (ds_if (dt_eq hr.units (de_var 2) (de_int)) (dss_one (ds_ret (de_add (de_add (de_var 1) (de_var 3)) (de_int)))) (dss_nil)))) (dss_one (ds_if (dt_eq hr.units (de_var 4) (de_int)) (dss_one (ds_augI (i := 2) sc_end_behind.nd rfl (.inl rfl) ip_add (de_int))) (dss_nil)))))) (dss_one (ds_ret (de_callB call_len_seq dc_len (by rfl) (T.free "len" (by decide)) (by decide +kernel) (da_cons (de_var 0) (da_nil))))))) goal_end_behind
theorem ok_depths_in (T : Tx K mg base fs fds) : FnOk P w K mg base CX0 1 (fs 3) (fds 3) ["term"] (SpD K 1 pre_depths_in post_depths_in) :=
  fn_d (N := ["term", "waiting", "depths", "part", "depth"]) (wb := w_depths_in) (T.def_ 3 (by decide)) sc_depths_in rfl (by decide) (fun cdv A outer s H E hr => dss_cons (ds_set (i := 1) sc_depths_in.nd rfl (.inl rfl) (de_lst (da_cons (de_int) (da_nil)))) (dss_cons (ds_set (i := 2) sc_depths_in.nd rfl (.inl rfl) (de_lst (da_nil))) (dss_cons (ds_for PassesOwn.never rfl (de_var 0) (dg_name (i := 3) sc_depths_in.nd rfl (.inl rfl)) (dss_cons (ds_pop (i := 1) rfl (.inl rfl) (dg_name (i := 4) sc_depths_in.nd rfl (.inl rfl))) (dss_cons (ds_append (i := 2) rfl (.inl rfl) (de_var 4)) (dss_one (ds_if (dt_eq hr.units (de_var 3) (de_int)) (dss_cons (ds_append (i := 1) rfl (.inl rfl) (de_var 4)) (dss_one (ds_append (i := 1) rfl (.inl rfl) (de_var 4)))) (dss_one (ds_if (dt_eq hr.units (de_var 3) (de_neg (de_int))) (dss_one (ds_append (i := 1) rfl (.inl rfl) (de_add (de_var 4) (de_int)))) (dss_nil)))))))) (dss_one (ds_ret (de_var 2)))))) goal_depths_in
theorem ok_is_term (T : Tx K mg base fs fds) : FnOk P w K mg base CX0 1 (fs 5) (fds 5) ["value"] (SpD K 1 pre_is_term post_is_term) :=
  fn_d (N := ["value", "wanted", "part"]) (wb := w_is_term) (T.def_ 5 (by decide)) sc_is_term rfl (by decide) (fun cdv A outer s H E hr => dss_cons (ds_if ((dw_or (dt_not (dt_val (de_callB call_isi dc_isi (by rfl) (T.free "isinstance" (by decide)) (by decide +kernel) (da_cons (de_var 0) (da_cons (de_ty (by rfl) (T.free "tuple" (by decide)) (by decide +kernel)) (da_nil)))))) (dw_or1 (dt_cmp op_gt dop_gt (de_callB call_len_seq dc_len (by rfl) (T.free "len" (by decide)) (by decide +kernel) (da_cons (de_var 0) (da_nil))) (de_globE (by rfl) T.c_MAX_PARTS)))).pt) (dss_one (ds_ret (de_bl))) (dss_nil)) (dss_cons (ds_set (i := 1) sc_is_term.nd rfl (.inl rfl) (de_int)) (dss_cons (ds_for PassesOwn.never rfl (de_var 0) (dg_name (i := 2) sc_is_term.nd rfl (.inl rfl)) (dss_cons (ds_if ((dw_or (dt_eq hr.units (de_var 1) (de_int)) (dw_or (dt_not (dt_val (de_callB call_isi dc_isi (by rfl) (T.free "isinstance" (by decide)) (by decide +kernel) (da_cons (de_var 2) (da_cons (de_ty (by rfl) (T.free "int" (by decide)) (by decide +kernel)) (da_nil)))))) (dw_or (dt_cmp op_isA dop_isB (de_var 2) (de_bl)) (dw_or1 (dt_cmp op_isA dop_isB (de_var 2) (de_bl)))))).pt) (dss_one (ds_ret (de_bl))) (dss_nil)) (dss_one (ds_if (dt_cmp op_gt dop_gt (de_var 2) (de_int)) (dss_one (ds_augI (i := 1) sc_is_term.nd rfl (.inl rfl) ip_sub (de_int))) (dss_one (ds_if (dt_eq hr.units (de_var 2) (de_int)) (dss_one (ds_augI (i := 1) sc_is_term.nd rfl (.inl rfl) ip_add (de_int))) (dss_one (ds_if (dt_cmp op_lt dop_lt (de_var 2) (de_neg (de_int))) (dss_one (ds_ret (de_bl))) (dss_nil))))))))) (dss_one (ds_ret (de_and (de_eq hr.units (de_var 1) (de_int)) (de_one (de_cmp op_le dop_le (de_callB (cr_maxT rfl) dc_max1 (by rfl) (T.free "max" (by decide)) (by decide +kernel) (da_cons (de_var 0) (da_nil))) (de_globE (by rfl) T.c_MAX_VARIABLE))))))))) goal_is_term
theorem ok_passed_limit (T : Tx K mg base fs fds) : FnOk P w K mg base CX0 1 (fs 8) (fds 8) ["term"] (SpD K 1 pre_passed_limit post_passed_limit) :=
  fn_d (N := ["term"]) (wb := w_passed_limit) (T.def_ 8 (by decide)) sc_passed_limit rfl (by decide) (fun cdv A outer s H E hr => dss_cons (ds_if (dt_cmp op_gt dop_gt (de_callB call_len_seq dc_len (by rfl) (T.free "len" (by decide)) (by decide +kernel) (da_cons (de_var 0) (da_nil))) (de_globE (by rfl) T.c_MAX_PARTS)) (dss_one (ds_ret (de_globE (by rfl) T.c_MAX_PARTS))) (dss_nil)) (dss_cons (ds_if (dt_cmp op_gt dop_gt (de_callB (cr_maxT rfl) dc_max1 (by rfl) (T.free "max" (by decide)) (by decide +kernel) (da_cons (de_var 0) (da_nil))) (de_globE (by rfl) T.c_MAX_VARIABLE)) (dss_one (ds_ret (de_globE (by rfl) T.c_MAX_VARIABLE))) (dss_nil)) (dss_one (ds_ret (de_non))))) goal_passed_limit
theorem ok__law_dice (T : Tx K mg base fs fds) : FnOk P w K mg base CX0 1 (fs 16) (fds 16) ["script", "at"] (SpD K 2 pre__law_dice post__law_dice) :=
  fn_d (N := ["script", "at", "cell", "great", "left", "mixed"]) (wb := w__law_dice) (T.def_ 16 (by decide)) sc__law_dice rfl (by decide) (fun cdv A outer s H E hr => dss_cons (ds_set (i := 2) sc__law_dice.nd rfl (.inl rfl) (de_add (de_mul (de_int) (de_var 1)) (de_int))) (dss_cons (ds_if (dt_cmp op_lt dop_lt (de_var 1) (de_callB call_len_seq dc_len (by rfl) (T.free "len" (by decide)) (by decide +kernel) (da_cons (de_var 0) (da_nil)))) (dss_one (ds_set (i := 2) sc__law_dice.nd rfl (.inl rfl) (de_item (de_var 0) (de_var 1)))) (dss_nil)) (dss_cons (ds_set (i := 3) sc__law_dice.nd rfl (.inl rfl) (de_mod (de_callTy call_int1 dc_int (by rfl) (T.free "int" (by decide)) (by decide +kernel) (da_cons (de_callB call_abs dc_abs (by rfl) (T.free "abs" (by decide)) (by decide +kernel) (da_cons (de_var 2) (da_nil))) (da_nil))) (de_powW (de_powW (de_int) (de_int)) (de_int)))) (dss_cons (ds_set (i := 4) sc__law_dice.nd rfl (.inl rfl) (de_fdivW (de_var 3) (de_powW (de_int) (de_int)))) (dss_cons (ds_set (i := 5) sc__law_dice.nd rfl (.inl rfl) (de_add (de_add (de_add (de_mul (de_mod (de_var 3) (de_int)) (de_int)) (de_mul (de_int) (de_var 1))) (de_mul (de_int) (de_callTy call_int1 dc_int (by rfl) (T.free "int" (by decide)) (by decide +kernel) (da_cons (de_cmp op_lt dop_lt (de_var 2) (de_int)) (da_nil))))) (de_int))) (dss_one (ds_ret (de_lst (da_cons (de_var 4) (da_cons (de_mod (de_var 5) (de_int)) (da_cons (de_int) (da_nil)))))))))))) goal__law_dice
theorem at0 {x y z : V} : atI [x, y, z] 0 = some x := rfl
theorem at1 {x y z : V} : atI [x, y, z] 1 = some y := rfl
theorem at2 {x y z : V} : atI [x, y, z] 2 = some z := rfl
theorem ok__law_roll (T : Tx K mg base fs fds) : FnOk P w K mg base CX0 1 (fs 17) (fds 17) ["dice", "total"] (SpD K 2 pre__law_roll post__law_roll) := by
  have mi : mg "int" = none := T.free "int" (by decide)
  refine (T.def_ 17 (by decide)).ok sc__law_roll (fun vs H Q E h => ?_) (fun cdv A outer s H vs Q E hr h => ?_)
  · obtain ⟨J, B, xs, hl, ha, _⟩ := h
    rw [ha.len, hl]
    rfl
  · obtain ⟨⟨ja, jT⟩, B, xs, hl, ha, hs, ow, hp, q⟩ := h
    unfold pre__law_roll at hp
    split at hp
    case h_2 => exact hp.elim
    rename_i n
    obtain ⟨v, r, rfl, ⟨a, hja, rfl⟩, v2, r2, rfl, h2, h3⟩ := ha
    have hja : ja = some a := hja
    subst hja
    cases (show r2 = [] from h3)
    have h2 : Rep K B (.int n) v2 := h2
    rw [Rep] at h2
    subst h2
    obtain ⟨hB, l, m, c, h0, hH⟩ := ow.dc a rfl
    refine ⟨_, PSs.nox (pss_cons (ps_set (i := 2) sc__law_roll.nd rfl (.inl rfl) (pe_callTy call_int1 (by rfl) mi boot_int (pa_cons (pv 1) pa_nil)))
      (pss_cons (ps_if (pt_cmpR op_gt (pe_ix ix_list (pv 0) pe_int (fun _ _ => rfl)) pe_int (nomark _))
          (pss_cons (ps_set (i := 3) sc__law_roll.nd rfl (.inl rfl) (pe_op op_mod (pe_ix ix_list (pv 0) pe_int (fun _ _ => rfl)) (pv 2)))
          (pss_cons (ps_asg (pe_op op_fdivW (pe_ix ix_list (pv 0) pe_int (fun _ _ => rfl)) (pv 2)) (pg_sub (pv 0) pe_int set_list))
          (pss_one (ps_ret (pe_callTy call_int1 (by rfl) mi boot_int (pa_cons (pv 3) pa_nil)))))) pss_nil)
      (pss_cons (ps_asg (pe_op op_add (pe_ix ix_list (pv 0) pe_int (fun _ _ => rfl)) pe_int) (pg_sub (pv 0) pe_int set_list))
      (pss_cons (ps_set (i := 4) sc__law_roll.nd rfl (.inl rfl) (pe_op op_mod (pe_op op_add (pe_ix ix_list (pv 0) pe_int (fun _ _ => rfl)) (pe_op op_mul pe_int (pe_ix ix_list (pv 0) pe_int (fun _ _ => rfl)))) pe_int))
      (pss_cons (ps_set (i := 5) sc__law_roll.nd rfl (.inl rfl) (pe_op op_add (pe_op op_mul (pe_op op_mod (pe_op op_mul (pv 4) (pv 4)) pe_int) (pv 4)) (pe_op op_mul pe_int (pe_ix ix_list (pv 0) pe_int (fun _ _ => rfl)))))
      (pss_cons (ps_set (i := 5) sc__law_roll.nd rfl (.inl rfl) (pe_op op_mod (pv 5) pe_int))
      (pss_one (ps_ret (pe_callTy call_int1 (by rfl) mi boot_int (pa_cons (pe_op op_mod (pe_op op_fdiv (pv 5) pe_int) (pv 2)) pa_nil)))))))))), ?_⟩
    refine ⟨_, rfl, .inl ⟨n, rfl, ?_⟩⟩
    refine ⟨_, rfl, a, _, 0, _, rfl, rfl, SqL.of hH, at0, l, 0, rfl, rfl, _, rfl, ?_⟩
    by_cases hl : 0 < l
    · rw [decide_eq_true hl]
      refine iteT ?_
      refine ⟨_, rfl, a, _, 0, _, rfl, rfl, SqL.of hH, at0, _, rfl, l, n, rfl, rfl, hp.1, ?_⟩
      refine ⟨_, rfl, a, _, 0, _, rfl, rfl, SqL.of hH, at0, _, rfl, l, n, rfl, rfl, wide_div hp.1 (b := 30) (by omega) (by omega) (by omega), ?_⟩
      refine ⟨_, rfl, a, _, 0, 0, rfl, rfl, hH, rfl, ?_⟩
      refine ⟨_, rfl, .inl ⟨_, rfl, ?_⟩⟩
      refine q (.c (.int (l % n))) _ B _ ⟨_, Int.emod_nonneg _ (by omega), Int.emod_lt_of_pos _ hp.1, rfl⟩ (Grow.dice (J := ⟨some a, jT⟩) hs.1 hB hH) (Own.dice (J := ⟨some a, jT⟩) ow hH hB (Int.ediv_nonneg h0 (by omega))) ?_
      show Rep _ _ _ _
      rw [Rep]
    · rw [decide_eq_false hl]
      refine iteF ?_
      refine ⟨_, rfl, a, _, 2, _, rfl, rfl, SqL.of hH, at2, c, 1, rfl, rfl, ?_⟩
      refine ⟨_, rfl, a, _, 2, 2, rfl, rfl, hH, rfl, ?_⟩
      have hH2 : upd H a (.lst [.int l, .int m, .int (c + 1)]) a = some (.lst [.int l, .int m, .int (c + 1)]) := upd_same
      refine ⟨_, rfl, a, _, 1, _, rfl, rfl, SqL.of hH2, at1, ?_⟩
      refine ⟨_, rfl, a, _, 2, _, rfl, rfl, SqL.of hH2, at2, 1000403, c + 1, rfl, rfl, .inl ⟨by decide, by decide⟩, m, _, rfl, rfl, _, _, rfl, rfl, (by decide : (0 : Int) < 2305843009213693951), ?_⟩
      have b1 : ∀ x : Int, 0 ≤ x % 2305843009213693951 ∧ x % 2305843009213693951 < 2305843009213693951 := fun x => ⟨Int.emod_nonneg _ (by decide), Int.emod_lt_of_pos _ (by decide)⟩
      refine ⟨_, rfl, _, rfl, _, _, rfl, rfl, .inl ⟨by have := (b1 (m + 1000403 * (c + 1))).1; omega, by have := (b1 (m + 1000403 * (c + 1))).2; omega⟩, _, _, rfl, rfl, (by decide : (0 : Int) < 2305843009213693921), ?_⟩
      refine ⟨_, rfl, _, _, rfl, rfl, .inr ⟨by have := (b1 (m + 1000403 * (c + 1))).1; omega, by have := (b1 (m + 1000403 * (c + 1))).2; omega⟩, ?_⟩
      refine ⟨_, rfl, a, _, 2, _, rfl, rfl, SqL.of hH2, at2, 9521, c + 1, rfl, rfl, .inl ⟨by decide, by decide⟩, _, _, rfl, rfl, ?_⟩
      refine ⟨_, rfl, _, _, rfl, rfl, (by decide : (0 : Int) < 2305843009213693907), ?_⟩
      refine ⟨_, rfl, _, _, rfl, rfl, ⟨by decide, by decide⟩, ?_⟩
      refine ⟨_, rfl, _, _, rfl, rfl, hp.1, ?_⟩
      refine .inl ⟨_, rfl, ?_⟩
      have fin : ∀ z : Int, Q (.int (z % n)) (upd H a (.lst [.int l, .int m, .int (c + 1)])) := fun z => by
        refine q (.c (.int (z % n))) _ B _ ⟨z % n, Int.emod_nonneg _ (by omega), Int.emod_lt_of_pos _ hp.1, rfl⟩ (Grow.dice (J := ⟨some a, jT⟩) hs.1 hB hH) (Own.dice (J := ⟨some a, jT⟩) ow hH hB h0) ?_
        show Rep _ _ _ _
        rw [Rep]
      exact fin _
theorem ok__law_ends (T : Tx K mg base fs fds) : FnOk P w K mg base CX0 1 (fs 19) (fds 19) ["term"] (SpD K 1 pre__law_ends post__law_ends) :=
  fn_d (N := ["term", "found", "at"]) (wb := w__law_ends) (T.def_ 19 (by decide)) sc__law_ends rfl (by decide) (fun cdv A outer s H E hr => dss_cons (ds_set (i := 1) sc__law_ends.nd rfl (.inl rfl) (de_mul (de_lst (da_cons (de_int) (da_nil))) (de_callB call_len_seq dc_len (by rfl) (T.free "len" (by decide)) (by decide +kernel) (da_cons (de_var 0) (da_nil))))) (dss_cons (ds_forRd PassesOwn.never rfl (by rfl) (T.free "range" (by decide)) (da_cons (de_sub (de_callB call_len_seq dc_len (by rfl) (T.free "len" (by decide)) (by decide +kernel) (da_cons (de_var 0) (da_nil))) (de_int)) (da_cons (de_neg (de_int)) (da_cons (de_neg (de_int)) (da_nil)))) (dg_name (i := 2) sc__law_ends.nd rfl (.inl rfl)) (dss_one (ds_if (dt_cmp op_gt dop_gt (de_item (de_var 0) (de_var 2)) (de_int)) (dss_one (ds_setI (i := 1) rfl (.inl rfl) (de_add (de_var 2) (de_int)) (de_var 2))) (dss_one (ds_if (dt_cmp op_lt dop_lt (de_item (de_var 0) (de_var 2)) (de_int)) (dss_one (ds_setI (i := 1) rfl (.inl rfl) (de_item (de_var 1) (de_add (de_var 2) (de_int))) (de_var 2))) (dss_one (ds_setI (i := 1) rfl (.inl rfl) (de_item (de_var 1) (de_item (de_var 1) (de_add (de_var 2) (de_int)))) (de_var 2)))))))) (dss_one (ds_ret (de_var 1))))) goal__law_ends
theorem ok__law_flat_depths (T : Tx K mg base fs fds) : FnOk P w K mg base CX0 1 (fs 23) (fds 23) ["term"] (SpD K 1 pre__law_flat_depths post__law_flat_depths) :=
  fn_d (N := ["term", "found", "waiting", "code", "here"]) (wb := w__law_flat_depths) (T.def_ 23 (by decide)) sc__law_flat_depths rfl (by decide) (fun cdv A outer s H E hr => dss_cons (ds_par (i := 1) (j := 2) rfl sc__law_flat_depths.nd rfl rfl (by decide) rfl rfl (da_cons (de_lst (da_nil)) (da_cons (de_lst (da_cons (de_int) (da_nil))) (da_nil)))) (dss_cons (ds_for PassesOwn.never rfl (de_var 0) (dg_name (i := 3) sc__law_flat_depths.nd rfl (.inl rfl)) (dss_cons (ds_pop (i := 2) rfl (.inl rfl) (dg_name (i := 4) sc__law_flat_depths.nd rfl (.inl rfl))) (dss_cons (ds_append (i := 1) rfl (.inl rfl) (de_var 4)) (dss_cons (ds_if (dt_eq hr.units (de_var 3) (de_int)) (dss_one (ds_extend (i := 2) rfl (.inl rfl) (de_lst (da_cons (de_var 4) (da_cons (de_var 4) (da_nil)))))) (dss_nil)) (dss_one (ds_if (dt_cmp op_lt dop_lt (de_var 3) (de_int)) (dss_one (ds_append (i := 2) rfl (.inl rfl) (de_add (de_var 4) (de_int)))) (dss_nil))))))) (dss_one (ds_ret (de_var 1))))) goal__law_flat_depths
theorem ok_is_whole_within (T : Tx K mg base fs fds) : FnOk P w K mg base CX0 2 (fs 1) (fds 1) ["value", "least", "most"] (SpD K 3 pre_is_whole_within post_is_whole_within) :=
  fn_d (N := ["value", "least", "most"]) (wb := w_is_whole_within) (T.def_ 1 (by decide)) sc_is_whole_within rfl (by decide) (fun cdv A outer s H E hr => dss_one (ds_ret (de_and (de_call (ok_is_whole T) (hr.mono (by decide)) (by rfl) (T.glo 0 (by decide)) (T.def_ 0 (by decide)).kp (b_is_whole T) pass0 (da_cons (de_var 0) (da_nil))) (de_one (de_chain op_le op_le dop_le dop_le (de_var 1) (de_var 0) (de_var 2)))))) goal_is_whole_within
theorem ok_raised_parts (T : Tx K mg base fs fds) : FnOk P w K mg base CX0 2 (fs 4) (fds 4) ["term", "number"] (SpD K 2 pre_raised_parts post_raised_parts) :=
  fn_d (N := ["term", "number", "depths", "part", "depth"]) (wb := w_raised_parts) (T.def_ 4 (by decide)) sc_raised_parts rfl (by decide) (fun cdv A outer s H E hr => dss_cons (ds_set (i := 2) sc_raised_parts.nd rfl (.inl rfl) (de_call (ok_depths_in T) (hr.mono (by decide)) (by rfl) (T.glo 3 (by decide)) (T.def_ 3 (by decide)).kp (b_depths_in T) pass0 (da_cons (de_var 0) (da_nil)))) (dss_one (ds_ret (de_lc (own := [("part", 3), ("depth", 4)]) rfl sc_raised_parts.nd (dic_zip (by rfl) (T.free "zip" (by decide)) (da_cons (de_var 0) (da_cons (de_var 2) (da_nil)))) (blkOk_by (N := ["term", "number", "depths", "part", "depth"]) (sc := defScope s_raised_parts) (own := [("part", 3), ("depth", 4)]) (by decide +kernel)) (fun _ _ _ _ _ => dgv_tup (n := 2) rfl (dgsv_cons (dgv_name (i := 3) sc_raised_parts.nd rfl (.inl rfl) (by decide)) (dgsv_cons (dgv_name (i := 4) sc_raised_parts.nd rfl (.inl rfl) (by decide)) (dgsv_nil)))) (fun _ _ _ _ _ => dts_nil) (fun _ _ _ _ _ => de_if (dt_cmp op_gt dop_gt (de_var 3) (de_var 4)) (de_add (de_var 3) (de_var 1)) (de_var 3)))))) goal_raised_parts
theorem ok_check_term (T : Tx K mg base fs fds) : FnOk P w K mg base CX0 2 (fs 6) (fds 6) ["term"] (SpD K 1 pre_check_term post_check_term) :=
  fn_d (N := ["term"]) (wb := w_check_term) (T.def_ 6 (by decide)) sc_check_term rfl (by decide) (fun cdv A outer s H E hr => dss_one (ds_if (dt_not (dt_val (de_call (ok_is_term T) (hr.mono (by decide)) (by rfl) (T.glo 5 (by decide)) (T.def_ 5 (by decide)).kp (b_is_term T) pass0 (da_cons (de_var 0) (da_nil))))) (dss_one (ds_never)) (dss_nil))) goal_check_term
theorem ok_Xcheck_limits (T : Tx K mg base fs fds) : FnOk P w K mg base (L2.CX P w) 2 (fs 9) (fds 9) ["term"] (SpDX K 1 pre_Xcheck_limits post_Xcheck_limits xpost_Xcheck_limits) :=
  fn_x (N := ["term", "limit"]) (wb := w_Xcheck_limits) (T.def_ 9 (by decide)) sc_check_limits rfl (by decide) (fun cdv A outer s H E hr XP tk => dxs_cons (dx_of (ds_set (i := 1) sc_check_limits.nd rfl (.inl rfl) (de_call (ok_passed_limit T) (hr.mono (by decide)) (by rfl) (T.glo 8 (by decide)) (T.def_ 8 (by decide)).kp (b_passed_limit T) pass0 (da_cons (de_var 0) (da_nil))))) (dxs_one (dx_if (dt_cmp op_notN dop_notN (de_var 1) (de_non)) (dxs_one (dx_raiseF rfl tk (de_var 1) (fun _ h => pmk_TooMany T.e_TooMany.ow T.i_TooMany T.e_TooMany.nm hr (pa_cons h pa_nil)))) (dxs_of (dss_nil))))) goal_Xcheck_limits
theorem ok__law_one_of (T : Tx K mg base fs fds) : FnOk P w K mg base CX0 2 (fs 18) (fds 18) ["dice", "items"] (SpD K 2 pre__law_one_of post__law_one_of) :=
  fn_d (N := ["dice", "items"]) (wb := w__law_one_of) (T.def_ 18 (by decide)) sc__law_one_of rfl (by decide) (fun cdv A outer s H E hr => dss_one (ds_ret (de_item (de_var 1) (de_call (ok__law_roll T) (hr.mono (by decide)) (by rfl) (T.glo 17 (by decide)) (T.def_ 17 (by decide)).kp (b__law_roll T) pass0 (da_cons (de_var 0) (da_cons (de_callB call_len_seq dc_len (by rfl) (T.free "len" (by decide)) (by decide +kernel) (da_cons (de_var 1) (da_nil))) (da_nil))))))) goal__law_one_of
theorem ok__law_depths (T : Tx K mg base fs fds) : FnOk P w K mg base CX0 2 (fs 20) (fds 20) ["term"] (SpD K 1 pre__law_depths post__law_depths) :=
  fn_d (N := ["term", "ends", "found", "at", "code", "inner"]) (wb := w__law_depths) (T.def_ 20 (by decide)) sc__law_depths rfl (by decide) (fun cdv A outer s H E hr => dss_cons (ds_par (i := 1) (j := 2) rfl sc__law_depths.nd rfl rfl (by decide) rfl rfl (da_cons (de_call (ok__law_ends T) (hr.mono (by decide)) (by rfl) (T.glo 19 (by decide)) (T.def_ 19 (by decide)).kp (b__law_ends T) pass0 (da_cons (de_var 0) (da_nil))) (da_cons (de_mul (de_lst (da_cons (de_int) (da_nil))) (de_callB call_len_seq dc_len (by rfl) (T.free "len" (by decide)) (by decide +kernel) (da_cons (de_var 0) (da_nil)))) (da_nil)))) (dss_cons (ds_forW PassesOwn.never rfl (dif_enum (by rfl) (T.free "enumerate" (by decide)) (da_cons (de_var 0) (da_nil))) (dg_tup (n := 2) rfl (dgs_cons (dg_name (i := 3) sc__law_depths.nd rfl (.inl rfl)) (dgs_cons (dg_name (i := 4) sc__law_depths.nd rfl (.inl rfl)) (dgs_nil)))) (dss_one (ds_if (dt_cmp op_lt dop_lt (de_var 4) (de_int)) (dss_one (ds_forR2 PassesOwn.never rfl (by rfl) (T.free "range" (by decide)) (da_cons (de_add (de_var 3) (de_int)) (da_cons (de_item (de_var 1) (de_var 3)) (da_nil))) (dg_name (i := 5) sc__law_depths.nd rfl (.inl rfl)) (dss_one (ds_setI (i := 2) rfl (.inl rfl) (de_add (de_item (de_var 2) (de_var 5)) (de_int)) (de_var 5))))) (dss_nil)))) (dss_one (ds_ret (de_var 2))))) goal__law_depths
theorem ok__law_term_drawn (T : Tx K mg base fs fds) : FnOk P w K mg base CX0 2 (fs 22) (fds 22) ["dice", "size", "open_count"] (SpD K 3 pre__law_term_drawn post_2law_term_drawn) :=
  fn_d (N := ["dice", "size", "open_count", "found", "todo", "left", "depth", "known", "inner"]) (wb := w__law_term_drawn) (T.def_ 22 (by decide)) sc__law_term_drawn rfl (by decide) (fun cdv A outer s H E hr => dss_cons (ds_par (i := 3) (j := 4) rfl sc__law_term_drawn.nd rfl rfl (by decide) rfl rfl (da_cons (de_lst (da_nil)) (da_cons (de_lst (da_cons (de_tup (da_cons (de_var 1) (da_cons (de_int) (da_nil)))) (da_nil))) (da_nil)))) (dss_cons (ds_while PassesOwn.never (dt_ne hr.units (de_var 4) (de_lst (da_nil))) (dss_cons (ds_pop (i := 4) rfl (.inl rfl) (dg_tup (n := 2) rfl (dgs_cons (dg_name (i := 5) sc__law_term_drawn.nd rfl (.inl rfl)) (dgs_cons (dg_name (i := 6) sc__law_term_drawn.nd rfl (.inl rfl)) (dgs_nil))))) (dss_cons (ds_set (i := 7) sc__law_term_drawn.nd rfl (.inl rfl) (de_add (de_var 6) (de_var 2))) (dss_one (ds_if ((dw_and (dt_cmp op_le dop_le (de_var 5) (de_int)) (dw_and1 (dt_cmp op_gt dop_gt (de_var 7) (de_int)))).pt) (dss_one (ds_append (i := 3) rfl (.inl rfl) (de_add (de_int) (de_callB (call_min2 rfl) dc_min (by rfl) (T.free "min" (by decide)) (by decide +kernel) (da_cons (de_call (ok__law_roll T) (hr.mono (by decide)) (by rfl) (T.glo 17 (by decide)) (T.def_ 17 (by decide)).kp (b__law_roll T) pass0 (da_cons (de_var 0) (da_cons (de_var 7) (da_nil)))) (da_cons (de_call (ok__law_roll T) (hr.mono (by decide)) (by rfl) (T.glo 17 (by decide)) (T.def_ 17 (by decide)).kp (b__law_roll T) pass0 (da_cons (de_var 0) (da_cons (de_var 7) (da_nil)))) (da_nil))))))) (dss_one (ds_if ((dw_or (dt_cmp op_le dop_le (de_var 5) (de_int)) (dw_or1 ((dw_and (dt_eq hr.units (de_var 7) (de_int)) (dw_and1 (dt_cmp op_lt dop_lt (de_var 5) (de_int)))).pt))).pt) (dss_cons (ds_append (i := 3) rfl (.inl rfl) (de_neg (de_int))) (dss_one (ds_append (i := 4) rfl (.inl rfl) (de_tup (da_cons (de_sub (de_var 5) (de_int)) (da_cons (de_add (de_var 6) (de_int)) (da_nil))))))) (dss_one (ds_if ((dw_and (dt_cmp op_ge dop_ge (de_var 5) (de_int)) (dw_and1 (dt_cmp op_lt dop_lt (de_call (ok__law_roll T) (hr.mono (by decide)) (by rfl) (T.glo 17 (by decide)) (T.def_ 17 (by decide)).kp (b__law_roll T) pass0 (da_cons (de_var 0) (da_cons (de_int) (da_nil)))) (de_int)))).pt) (dss_cons (ds_set (i := 8) sc__law_term_drawn.nd rfl (.inl rfl) (de_add (de_int) (de_call (ok__law_roll T) (hr.mono (by decide)) (by rfl) (T.glo 17 (by decide)) (T.def_ 17 (by decide)).kp (b__law_roll T) pass0 (da_cons (de_var 0) (da_cons (de_sub (de_var 5) (de_int)) (da_nil)))))) (dss_cons (ds_extend (i := 3) rfl (.inl rfl) (de_lst (da_cons (de_int) (da_cons (de_neg (de_int)) (da_nil))))) (dss_one (ds_extend (i := 4) rfl (.inl rfl) (de_lst (da_cons (de_tup (da_cons (de_sub (de_sub (de_var 5) (de_int)) (de_var 8)) (da_cons (de_var 6) (da_nil)))) (da_cons (de_tup (da_cons (de_var 8) (da_cons (de_add (de_var 6) (de_int)) (da_nil)))) (da_nil)))))))) (dss_one (ds_if (dt_eq hr.units (de_call (ok__law_roll T) (hr.mono (by decide)) (by rfl) (T.glo 17 (by decide)) (T.def_ 17 (by decide)).kp (b__law_roll T) pass0 (da_cons (de_var 0) (da_cons (de_int) (da_nil)))) (de_int)) (dss_cons (ds_append (i := 3) rfl (.inl rfl) (de_neg (de_int))) (dss_one (ds_append (i := 4) rfl (.inl rfl) (de_tup (da_cons (de_sub (de_var 5) (de_int)) (da_cons (de_add (de_var 6) (de_int)) (da_nil))))))) (dss_cons (ds_set (i := 8) sc__law_term_drawn.nd rfl (.inl rfl) (de_add (de_int) (de_call (ok__law_roll T) (hr.mono (by decide)) (by rfl) (T.glo 17 (by decide)) (T.def_ 17 (by decide)).kp (b__law_roll T) pass0 (da_cons (de_var 0) (da_cons (de_sub (de_var 5) (de_int)) (da_nil)))))) (dss_cons (ds_append (i := 3) rfl (.inl rfl) (de_int)) (dss_one (ds_extend (i := 4) rfl (.inl rfl) (de_lst (da_cons (de_tup (da_cons (de_sub (de_sub (de_var 5) (de_int)) (de_var 8)) (da_cons (de_var 6) (da_nil)))) (da_cons (de_tup (da_cons (de_var 8) (da_cons (de_var 6) (da_nil)))) (da_nil))))))))))))))))))) (dss_one (ds_ret (de_callTy call_tuple_of dc_tuple (by rfl) (T.free "tuple" (by decide)) (by decide +kernel) (da_cons (de_var 3) (da_nil))))))) goal_2law_term_drawn
theorem ok__law_opened (T : Tx K mg base fs fds) : FnOk P w K mg base CX0 2 (fs 24) (fds 24) ["term"] (SpD K 1 pre__law_opened post__law_opened) :=
  fn_d (N := ["term", "depths", "at", "code"]) (wb := w__law_opened) (T.def_ 24 (by decide)) sc__law_opened rfl (by decide) (fun cdv A outer s H E hr => dss_cons (ds_set (i := 1) sc__law_opened.nd rfl (.inr rfl) (de_call (ok__law_flat_depths T) (hr.mono (by decide)) (by rfl) (T.glo 23 (by decide)) (T.def_ 23 (by decide)).kp (b__law_flat_depths T) pass0 (da_cons (de_var 0) (da_nil)))) (dss_one (ds_ret (de_sortSet rfl (by rfl) (T.free "sorted" (by decide)) (by rfl) (T.free "set" (by decide)) (de_lc (own := [("at", 2), ("code", 3)]) rfl sc__law_opened.nd (dic_enum (by rfl) (T.free "enumerate" (by decide)) (da_cons (de_var 0) (da_nil))) (blkOk_by (N := ["term", "depths", "at", "code"]) (sc := defScope s__law_opened) (own := [("at", 2), ("code", 3)]) (by decide +kernel)) (fun _ _ _ _ _ => dgv_tup (n := 2) rfl (dgsv_cons (dgv_name (i := 2) sc__law_opened.nd rfl (.inl rfl) (by decide)) (dgsv_cons (dgv_name (i := 3) sc__law_opened.nd rfl (.inl rfl) (by decide)) (dgsv_nil)))) (fun _ _ _ _ _ => dts_one (dt_cmp op_gt dop_gt (de_var 3) (de_item (de_var 1) (de_var 2)))) (fun _ _ _ _ _ => de_sub (de_var 3) (de_item (de_var 1) (de_var 2)))))))) goal__law_opened
theorem ok_check_place (T : Tx K mg base fs fds) : FnOk P w K mg base CX0 3 (fs 7) (fds 7) ["term", "place"] (SpD K 2 pre_check_place post_check_place) :=
  fn_d (N := ["term", "place"]) (wb := w_check_place) (T.def_ 7 (by decide)) sc_check_place rfl (by decide) (fun cdv A outer s H E hr => dss_one (ds_if (dt_not (dt_val (de_call (ok_is_whole_within T) (hr.mono (by decide)) (by rfl) (T.glo 1 (by decide)) (T.def_ 1 (by decide)).kp (b_is_whole_within T) pass0 (da_cons (de_var 1) (da_cons (de_int) (da_cons (de_sub (de_callB call_len_seq dc_len (by rfl) (T.free "len" (by decide)) (by decide +kernel) (da_cons (de_var 0) (da_nil))) (de_int)) (da_nil))))))) (dss_one (ds_never)) (dss_nil))) goal_check_place
theorem ok_open_variables (T : Tx K mg base fs fds) : FnOk P w K mg base CX0 3 (fs 12) (fds 12) ["term"] (SpD K 1 pre_open_variables post_open_variables) :=
  fn_d (N := ["term", "depths", "part", "depth"]) (wb := w_open_variables) (T.def_ 12 (by decide)) sc_open_variables rfl (by decide) (fun cdv A outer s H E hr => dss_cons (ds_drop (de_call (ok_check_term T) (hr.mono (by decide)) (by rfl) (T.glo 6 (by decide)) (T.def_ 6 (by decide)).kp (b_check_term T) pass0 (da_cons (de_var 0) (da_nil)))) (dss_cons (ds_set (i := 1) sc_open_variables.nd rfl (.inl rfl) (de_call (ok_depths_in T) (hr.mono (by decide)) (by rfl) (T.glo 3 (by decide)) (T.def_ 3 (by decide)).kp (b_depths_in T) pass0 (da_cons (de_var 0) (da_nil)))) (dss_one (ds_ret (de_callTy call_tuple_of dc_tuple (by rfl) (T.free "tuple" (by decide)) (by decide +kernel) (da_cons (de_sortSc (own := [("part", 2), ("depth", 3)]) (by rfl) (T.free "sorted" (by decide)) rfl sc_open_variables.nd (dic_zip (by rfl) (T.free "zip" (by decide)) (da_cons (de_var 0) (da_cons (de_var 1) (da_nil)))) (blkOk_by (N := ["term", "depths", "part", "depth"]) (sc := defScope s_open_variables) (own := [("part", 2), ("depth", 3)]) (by decide +kernel)) (fun _ _ _ _ _ => dgv_tup (n := 2) rfl (dgsv_cons (dgv_name (i := 2) sc_open_variables.nd rfl (.inl rfl) (by decide)) (dgsv_cons (dgv_name (i := 3) sc_open_variables.nd rfl (.inl rfl) (by decide)) (dgsv_nil)))) (fun _ _ _ _ _ => dts_one (dt_cmp op_gt dop_gt (de_var 2) (de_var 3))) (fun _ _ _ _ _ => de_sub (de_var 2) (de_var 3))) (da_nil))))))) goal_open_variables
theorem ok_Xraised_term (T : Tx K mg base fs fds) : FnOk P w K mg base (L2.CX P w) 3 (fs 13) (fds 13) ["term", "number"] (SpDX K 2 pre_Xraised_term post_Xraised_term xpost_Xraised_term) :=
  fn_x (N := ["term", "number", "raised"]) (wb := w_Xraised_term) (T.def_ 13 (by decide)) sc_raised_term rfl (by decide) (fun cdv A outer s H E hr XP tk => dxs_cons (dx_of (ds_drop (de_call (ok_check_term T) (hr.mono (by decide)) (by rfl) (T.glo 6 (by decide)) (T.def_ 6 (by decide)).kp (b_check_term T) pass0 (da_cons (de_var 0) (da_nil))))) (dxs_cons (dx_of (ds_if (dt_not (dt_val (de_call (ok_is_whole_within T) (hr.mono (by decide)) (by rfl) (T.glo 1 (by decide)) (T.def_ 1 (by decide)).kp (b_is_whole_within T) pass0 (da_cons (de_var 1) (da_cons (de_int) (da_cons (de_globE (by rfl) T.c_MAX_VARIABLE) (da_nil))))))) (dss_one (ds_never)) (dss_nil))) (dxs_cons (dx_of (ds_set (i := 2) sc_raised_term.nd rfl (.inl rfl) (de_callTy call_tuple_of dc_tuple (by rfl) (T.free "tuple" (by decide)) (by decide +kernel) (da_cons (de_call (ok_raised_parts T) (hr.mono (by decide)) (by rfl) (T.glo 4 (by decide)) (T.def_ 4 (by decide)).kp (b_raised_parts T) pass0 (da_cons (de_var 0) (da_cons (de_var 1) (da_nil)))) (da_nil))))) (dxs_cons (dx_drop (dex_call (ok_Xcheck_limits T) (hr.mono (by decide)) (by rfl) (T.glo 9 (by decide)) (T.def_ 9 (by decide)).kp (b_check_limits T) (fun σ => passAt tk σ) (da_cons (de_var 2) (da_nil)))) (dxs_one (dx_of (ds_ret (de_var 2)))))))) goal_Xraised_term
theorem ok_Xcalled (T : Tx K mg base fs fds) : FnOk P w K mg base (L2.CX P w) 3 (fs 14) (fds 14) ["term", "other"] (SpDX K 2 pre_Xcalled post_Xcalled xpost_Xcalled) :=
  fn_x (N := ["term", "other", "call"]) (wb := w_Xcalled) (T.def_ 14 (by decide)) sc_called rfl (by decide) (fun cdv A outer s H E hr XP tk => dxs_cons (dx_of (ds_drop (de_call (ok_check_term T) (hr.mono (by decide)) (by rfl) (T.glo 6 (by decide)) (T.def_ 6 (by decide)).kp (b_check_term T) pass0 (da_cons (de_var 0) (da_nil))))) (dxs_cons (dx_of (ds_drop (de_call (ok_check_term T) (hr.mono (by decide)) (by rfl) (T.glo 6 (by decide)) (T.def_ 6 (by decide)).kp (b_check_term T) pass0 (da_cons (de_var 1) (da_nil))))) (dxs_cons (dx_of (ds_set (i := 2) sc_called.nd rfl (.inl rfl) (de_add (de_add (de_tup (da_cons (de_int) (da_nil))) (de_var 0)) (de_var 1)))) (dxs_cons (dx_drop (dex_call (ok_Xcheck_limits T) (hr.mono (by decide)) (by rfl) (T.glo 9 (by decide)) (T.def_ 9 (by decide)).kp (b_check_limits T) (fun σ => passAt tk σ) (da_cons (de_var 2) (da_nil)))) (dxs_one (dx_of (ds_ret (de_var 2)))))))) goal_Xcalled
theorem ok_Xfunction_with (T : Tx K mg base fs fds) : FnOk P w K mg base (L2.CX P w) 3 (fs 15) (fds 15) ["term"] (SpDX K 1 pre_Xfunction_with post_Xfunction_with xpost_Xfunction_with) :=
  fn_x (N := ["term", "function"]) (wb := w_Xfunction_with) (T.def_ 15 (by decide)) sc_function_with rfl (by decide) (fun cdv A outer s H E hr XP tk => dxs_cons (dx_of (ds_drop (de_call (ok_check_term T) (hr.mono (by decide)) (by rfl) (T.glo 6 (by decide)) (T.def_ 6 (by decide)).kp (b_check_term T) pass0 (da_cons (de_var 0) (da_nil))))) (dxs_cons (dx_of (ds_set (i := 1) sc_function_with.nd rfl (.inl rfl) (de_add (de_tup (da_cons (de_neg (de_int)) (da_nil))) (de_var 0)))) (dxs_cons (dx_drop (dex_call (ok_Xcheck_limits T) (hr.mono (by decide)) (by rfl) (T.glo 9 (by decide)) (T.def_ 9 (by decide)).kp (b_check_limits T) (fun σ => passAt tk σ) (da_cons (de_var 1) (da_nil)))) (dxs_one (dx_of (ds_ret (de_var 1))))))) goal_Xfunction_with
theorem ok__law_raised_open (T : Tx K mg base fs fds) : FnOk P w K mg base CX0 3 (fs 21) (fds 21) ["part", "more"] (SpD K 2 pre__law_raised_open post__law_raised_open) :=
  fn_d (N := ["part", "more", "depths", "at", "code"]) (wb := w__law_raised_open) (T.def_ 21 (by decide)) sc__law_raised_open rfl (by decide) (fun cdv A outer s H E hr => dss_cons (ds_set (i := 2) sc__law_raised_open.nd rfl (.inr rfl) (de_call (ok__law_depths T) (hr.mono (by decide)) (by rfl) (T.glo 20 (by decide)) (T.def_ 20 (by decide)).kp (b__law_depths T) pass0 (da_cons (de_var 0) (da_nil)))) (dss_one (ds_ret (de_lc (own := [("at", 3), ("code", 4)]) rfl sc__law_raised_open.nd (dic_enum (by rfl) (T.free "enumerate" (by decide)) (da_cons (de_var 0) (da_nil))) (blkOk_by (N := ["part", "more", "depths", "at", "code"]) (sc := defScope s__law_raised_open) (own := [("at", 3), ("code", 4)]) (by decide +kernel)) (fun _ _ _ _ _ => dgv_tup (n := 2) rfl (dgsv_cons (dgv_name (i := 3) sc__law_raised_open.nd rfl (.inl rfl) (by decide)) (dgsv_cons (dgv_name (i := 4) sc__law_raised_open.nd rfl (.inl rfl) (by decide)) (dgsv_nil)))) (fun _ _ _ _ _ => dts_nil) (fun _ _ _ _ _ => de_if (dt_cmp op_gt dop_gt (de_var 4) (de_item (de_var 2) (de_var 3))) (de_add (de_var 4) (de_var 1)) (de_var 4)))))) goal__law_raised_open
theorem ok_part_of (T : Tx K mg base fs fds) : FnOk P w K mg base CX0 4 (fs 10) (fds 10) ["term", "place"] (SpD K 2 pre_part_of post_part_of) :=
  fn_d (N := ["term", "place"]) (wb := w_part_of) (T.def_ 10 (by decide)) sc_part_of rfl (by decide) (fun cdv A outer s H E hr => dss_cons (ds_drop (de_call (ok_check_term T) (hr.mono (by decide)) (by rfl) (T.glo 6 (by decide)) (T.def_ 6 (by decide)).kp (b_check_term T) pass0 (da_cons (de_var 0) (da_nil)))) (dss_cons (ds_drop (de_call (ok_check_place T) (hr.mono (by decide)) (by rfl) (T.glo 7 (by decide)) (T.def_ 7 (by decide)).kp (b_check_place T) pass0 (da_cons (de_var 0) (da_cons (de_var 1) (da_nil))))) (dss_one (ds_ret (de_slice (de_var 0) (do_some (de_var 1)) (do_some (de_call (ok_end_behind T) (hr.mono (by decide)) (by rfl) (T.glo 2 (by decide)) (T.def_ 2 (by decide)).kp (b_end_behind T) pass0 (da_cons (de_var 0) (da_cons (de_var 1) (da_nil)))))))))) goal_part_of
theorem ok_variables_of (T : Tx K mg base fs fds) : FnOk P w K mg base CX0 4 (fs 11) (fds 11) ["term", "place"] (SpD K 2 pre_variables_of post_variables_of) :=
  fn_d (N := ["term", "place", "depths", "inside", "at"]) (wb := w_variables_of) (T.def_ 11 (by decide)) sc_variables_of rfl (by decide) (fun cdv A outer s H E hr => dss_cons (ds_drop (de_call (ok_check_term T) (hr.mono (by decide)) (by rfl) (T.glo 6 (by decide)) (T.def_ 6 (by decide)).kp (b_check_term T) pass0 (da_cons (de_var 0) (da_nil)))) (dss_cons (ds_drop (de_call (ok_check_place T) (hr.mono (by decide)) (by rfl) (T.glo 7 (by decide)) (T.def_ 7 (by decide)).kp (b_check_place T) pass0 (da_cons (de_var 0) (da_cons (de_var 1) (da_nil))))) (dss_cons (ds_if (dt_ne hr.units (de_item (de_var 0) (de_var 1)) (de_neg (de_int))) (dss_one (ds_never)) (dss_nil)) (dss_cons (ds_set (i := 2) sc_variables_of.nd rfl (.inr rfl) (de_call (ok_depths_in T) (hr.mono (by decide)) (by rfl) (T.glo 3 (by decide)) (T.def_ 3 (by decide)).kp (b_depths_in T) pass0 (da_cons (de_var 0) (da_nil)))) (dss_cons (ds_set (i := 3) sc_variables_of.nd rfl (.inl rfl) (de_rng2 (by rfl) (T.free "range" (by decide)) (de_add (de_var 1) (de_int)) (de_call (ok_end_behind T) (hr.mono (by decide)) (by rfl) (T.glo 2 (by decide)) (T.def_ 2 (by decide)).kp (b_end_behind T) pass0 (da_cons (de_var 0) (da_cons (de_var 1) (da_nil)))))) (dss_one (ds_ret (de_callTy call_tuple_of dc_tuple (by rfl) (T.free "tuple" (by decide)) (by decide +kernel) (da_cons (de_lc (own := [("at", 4)]) rfl sc_variables_of.nd (dic_rng (de_var 3)) (blkOk_by (N := ["term", "place", "depths", "inside", "at"]) (sc := defScope s_variables_of) (own := [("at", 4)]) (by decide +kernel)) (fun _ _ _ _ _ => dgv_name (i := 4) sc_variables_of.nd rfl (.inl rfl) (by decide)) (fun _ _ _ _ _ => dts_one (dt_eq hr.units (de_item (de_var 0) (de_var 4)) (de_sub (de_item (de_var 2) (de_var 4)) (de_item (de_var 2) (de_var 1))))) (fun _ _ _ _ _ => de_var 4)) (da_nil)))))))))) goal_variables_of
theorem ok__law_raise_right (T : Tx K mg base fs fds) : FnOk P w K mg base CX0 6 (fs 26) (fds 26) ["dice", "term"] (SpD K 2 pre__law_raise_right post__law_raise_right) :=
  fn_dc (N := ["dice", "term", "more", "due", "told", "number", "less", "at", "code"]) (wb := w__law_raise_right) (T.def_ 26 (by decide)) sc__law_raise_right rfl (by decide) (fun cdv A outer s H E hcd hr => dss_cons (ds_set (i := 2) sc__law_raise_right.nd rfl (.inr rfl) (de_call (ok__law_one_of T) (hr.mono (by decide)) (by rfl) (T.glo 18 (by decide)) (T.def_ 18 (by decide)).kp (b__law_one_of T) pass0 (da_cons (de_var 0) (da_cons (de_lst (da_cons (de_int) (da_cons (de_int) (da_cons (de_int) (da_cons (de_call (ok__law_roll T) (hr.mono (by decide)) (by rfl) (T.glo 17 (by decide)) (T.def_ 17 (by decide)).kp (b__law_roll T) pass0 (da_cons (de_var 0) (da_cons (de_int) (da_nil)))) (da_cons (de_add (de_int) (de_call (ok__law_roll T) (hr.mono (by decide)) (by rfl) (T.glo 17 (by decide)) (T.def_ 17 (by decide)).kp (b__law_roll T) pass0 (da_cons (de_var 0) (da_cons (de_int) (da_nil))))) (da_nil))))))) (da_nil))))) (dss_cons (ds_set (i := 3) sc__law_raise_right.nd rfl (.inr rfl) (de_callTy call_tuple_of dc_tuple (by rfl) (T.free "tuple" (by decide)) (by decide +kernel) (da_cons (de_call (ok__law_raised_open T) (hr.mono (by decide)) (by rfl) (T.glo 21 (by decide)) (T.def_ 21 (by decide)).kp (b__law_raised_open T) pass0 (da_cons (de_var 1) (da_cons (de_var 2) (da_nil)))) (da_nil)))) (dss_cons (ds_set (i := 4) sc__law_raise_right.nd rfl (.inl rfl) (de_toldc (k := 3) T.lm__law_raise_right hcd T.e_TooMany (T.def_ 25 (by decide)) (T.glo 25 (by decide)) (b__law_told T) sc__law_told (hr.mono (by decide)) (give__law_told T) (fun A1 o1 s1 H1 E1 f1 cc hr => pe_lambody (ok_Xraised_term T) (hr.mono (by decide)) (by rfl) (T.glo 13 (by decide)) (T.def_ 13 (by decide)).kp (b_raised_term T) (takes_of rfl rfl rfl rfl) (da_cons (de_var 1) (da_cons (de_var 2) (da_nil)))))) (dss_cons (ds_if (dt_cmp op_gt dop_gt (de_callB (cr_maxT rfl) dc_max1 (by rfl) (T.free "max" (by decide)) (by decide +kernel) (da_cons (de_var 3) (da_nil))) (de_int)) (dss_one (ds_ret (de_eq hr.units (de_var 4) (de_tup (da_cons (de_str) (da_cons (de_int) (da_nil))))))) (dss_nil)) (dss_cons (ds_if ((dw_or (dt_ne hr.units (de_var 4) (de_tup (da_cons (de_str) (da_cons (de_var 3) (da_nil))))) (dw_or1 (dt_ne hr.units (de_call (ok_open_variables T) (hr.mono (by decide)) (by rfl) (T.glo 12 (by decide)) (T.def_ 12 (by decide)).kp (b_open_variables T) pass0 (da_cons (de_var 3) (da_nil))) (de_callTy call_tuple_of dc_tuple (by rfl) (T.free "tuple" (by decide)) (by decide +kernel) (da_cons (de_lc (own := [("number", 5)]) rfl sc__law_raise_right.nd (dic_seq (de_call (ok__law_opened T) (hr.mono (by decide)) (by rfl) (T.glo 24 (by decide)) (T.def_ 24 (by decide)).kp (b__law_opened T) pass0 (da_cons (de_var 1) (da_nil)))) (blkOk_by (N := ["dice", "term", "more", "due", "told", "number", "less", "at", "code"]) (sc := defScope s__law_raise_right) (own := [("number", 5)]) (by decide +kernel)) (fun _ _ _ _ _ => dgv_name (i := 5) sc__law_raise_right.nd rfl (.inl rfl) (by decide)) (fun _ _ _ _ _ => dts_nil) (fun _ _ _ _ _ => de_add (de_var 5) (de_var 2))) (da_nil)))))).pt) (dss_one (ds_ret (de_bl))) (dss_nil)) (dss_cons (ds_set (i := 6) sc__law_raise_right.nd rfl (.inl rfl) (de_call (ok__law_roll T) (hr.mono (by decide)) (by rfl) (T.glo 17 (by decide)) (T.def_ 17 (by decide)).kp (b__law_roll T) pass0 (da_cons (de_var 0) (da_cons (de_add (de_var 2) (de_int)) (da_nil))))) (dss_cons (ds_if (dt_ne hr.units (de_callN (ok_Xraised_term T) (hr.mono (by decide)) (by rfl) (T.glo 13 (by decide)) (T.def_ 13 (by decide)).kp (b_raised_term T) (da_cons (de_callN (ok_Xraised_term T) (hr.mono (by decide)) (by rfl) (T.glo 13 (by decide)) (T.def_ 13 (by decide)).kp (b_raised_term T) (da_cons (de_var 1) (da_cons (de_var 6) (da_nil)))) (da_cons (de_sub (de_var 2) (de_var 6)) (da_nil)))) (de_var 3)) (dss_one (ds_ret (de_bl))) (dss_nil)) (dss_one (ds_ret (de_eq hr.units (de_lc (own := [("at", 7), ("code", 8)]) rfl sc__law_raise_right.nd (dic_enum (by rfl) (T.free "enumerate" (by decide)) (da_cons (de_var 1) (da_nil))) (blkOk_by (N := ["dice", "term", "more", "due", "told", "number", "less", "at", "code"]) (sc := defScope s__law_raise_right) (own := [("at", 7), ("code", 8)]) (by decide +kernel)) (fun _ _ _ _ _ => dgv_tup (n := 2) rfl (dgsv_cons (dgv_name (i := 7) sc__law_raise_right.nd rfl (.inl rfl) (by decide)) (dgsv_cons (dgv_name (i := 8) sc__law_raise_right.nd rfl (.inl rfl) (by decide)) (dgsv_nil)))) (fun _ _ _ _ _ => dts_one ((dw_and (dt_cmp op_lt dop_lt (de_var 8) (de_int)) (dw_and1 (dt_ne hr.units (de_call (ok_variables_of T) (hr.mono (by decide)) (by rfl) (T.glo 11 (by decide)) (T.def_ 11 (by decide)).kp (b_variables_of T) pass0 (da_cons (de_var 1) (da_cons (de_var 7) (da_nil)))) (de_call (ok_variables_of T) (hr.mono (by decide)) (by rfl) (T.glo 11 (by decide)) (T.def_ 11 (by decide)).kp (b_variables_of T) pass0 (da_cons (de_var 3) (da_cons (de_var 7) (da_nil))))))).pt)) (fun _ _ _ _ _ => de_var 7)) (de_lst (da_nil)))))))))))) goal__law_raise_right
theorem ok__law_made_right (T : Tx K mg base fs fds) : FnOk P w K mg base CX0 6 (fs 27) (fds 27) ["term", "other"] (SpD K 2 pre__law_made_right post__law_made_right) :=
  fn_dc (N := ["term", "other", "both", "deep", "one"]) (wb := w__law_made_right) (T.def_ 27 (by decide)) sc__law_made_right rfl (by decide) (fun cdv A outer s H E hcd hr => dss_cons (ds_set (i := 2) sc__law_made_right.nd rfl (.inl rfl) (de_toldc (k := 3) T.lm__law_made_right hcd T.e_TooMany (T.def_ 25 (by decide)) (T.glo 25 (by decide)) (b__law_told T) sc__law_told (hr.mono (by decide)) (give__law_told T) (fun A1 o1 s1 H1 E1 f1 cc hr => pe_lambody (ok_Xcalled T) (hr.mono (by decide)) (by rfl) (T.glo 14 (by decide)) (T.def_ 14 (by decide)).kp (b_called T) (takes_of rfl rfl rfl rfl) (da_cons (de_var 0) (da_cons (de_var 1) (da_nil)))))) (dss_cons (ds_set (i := 3) sc__law_made_right.nd rfl (.inl rfl) (de_toldc (k := 3) T.lm__law_made_right hcd T.e_TooMany (T.def_ 25 (by decide)) (T.glo 25 (by decide)) (b__law_told T) sc__law_told (hr.mono (by decide)) (give__law_told T) (fun A1 o1 s1 H1 E1 f1 cc hr => pe_lambody (ok_Xfunction_with T) (hr.mono (by decide)) (by rfl) (T.glo 15 (by decide)) (T.def_ 15 (by decide)).kp (b_function_with T) (takes_of rfl rfl rfl rfl) (da_cons (de_var 0) (da_nil))))) (dss_cons (ds_if (dt_ne hr.units (de_var 3) (de_if (dt_cmp op_lt dop_lt (de_callB call_len_seq dc_len (by rfl) (T.free "len" (by decide)) (by decide +kernel) (da_cons (de_var 0) (da_nil))) (de_int)) (de_tup (da_cons (de_str) (da_cons (de_add (de_tup (da_cons (de_neg (de_int)) (da_nil))) (de_var 0)) (da_nil)))) (de_tup (da_cons (de_str) (da_cons (de_int) (da_nil)))))) (dss_one (ds_ret (de_bl))) (dss_nil)) (dss_cons (ds_if ((dw_and (dt_eq hr.units (de_item (de_var 3) (de_int)) (de_str)) (dw_and1 (dt_ne hr.units (de_call (ok_open_variables T) (hr.mono (by decide)) (by rfl) (T.glo 12 (by decide)) (T.def_ 12 (by decide)).kp (b_open_variables T) pass0 (da_cons (de_item (de_var 3) (de_int)) (da_nil))) (de_callTy call_tuple_of dc_tuple (by rfl) (T.free "tuple" (by decide)) (by decide +kernel) (da_cons (de_lc (own := [("one", 4)]) rfl sc__law_made_right.nd (dic_seq (de_call (ok__law_opened T) (hr.mono (by decide)) (by rfl) (T.glo 24 (by decide)) (T.def_ 24 (by decide)).kp (b__law_opened T) pass0 (da_cons (de_var 0) (da_nil)))) (blkOk_by (N := ["term", "other", "both", "deep", "one"]) (sc := defScope s__law_made_right) (own := [("one", 4)]) (by decide +kernel)) (fun _ _ _ _ _ => dgv_name (i := 4) sc__law_made_right.nd rfl (.inl rfl) (by decide)) (fun _ _ _ _ _ => dts_one (dt_cmp op_gt dop_gt (de_var 4) (de_int))) (fun _ _ _ _ _ => de_sub (de_var 4) (de_int))) (da_nil)))))).pt) (dss_one (ds_ret (de_bl))) (dss_nil)) (dss_cons (ds_if (dt_cmp op_gt dop_gt (de_add (de_add (de_callB call_len_seq dc_len (by rfl) (T.free "len" (by decide)) (by decide +kernel) (da_cons (de_var 0) (da_nil))) (de_callB call_len_seq dc_len (by rfl) (T.free "len" (by decide)) (by decide +kernel) (da_cons (de_var 1) (da_nil)))) (de_int)) (de_int)) (dss_one (ds_ret (de_eq hr.units (de_var 2) (de_tup (da_cons (de_str) (da_cons (de_int) (da_nil))))))) (dss_nil)) (dss_cons (ds_if ((dw_or (dt_ne hr.units (de_var 2) (de_tup (da_cons (de_str) (da_cons (de_add (de_add (de_tup (da_cons (de_int) (da_nil))) (de_var 0)) (de_var 1)) (da_nil))))) (dw_or1 (dt_not (dt_val (de_call (ok_is_term T) (hr.mono (by decide)) (by rfl) (T.glo 5 (by decide)) (T.def_ 5 (by decide)).kp (b_is_term T) pass0 (da_cons (de_item (de_var 2) (de_int)) (da_nil))))))).pt) (dss_one (ds_ret (de_bl))) (dss_nil)) (dss_cons (ds_if ((dw_or (dt_ne hr.units (de_call (ok_part_of T) (hr.mono (by decide)) (by rfl) (T.glo 10 (by decide)) (T.def_ 10 (by decide)).kp (b_part_of T) pass0 (da_cons (de_item (de_var 2) (de_int)) (da_cons (de_int) (da_nil)))) (de_var 0)) (dw_or1 (dt_ne hr.units (de_call (ok_part_of T) (hr.mono (by decide)) (by rfl) (T.glo 10 (by decide)) (T.def_ 10 (by decide)).kp (b_part_of T) pass0 (da_cons (de_item (de_var 2) (de_int)) (da_cons (de_add (de_callB call_len_seq dc_len (by rfl) (T.free "len" (by decide)) (by decide +kernel) (da_cons (de_var 0) (da_nil))) (de_int)) (da_nil)))) (de_var 1)))).pt) (dss_one (ds_ret (de_bl))) (dss_nil)) (dss_one (ds_ret (de_eq hr.units (de_call (ok_open_variables T) (hr.mono (by decide)) (by rfl) (T.glo 12 (by decide)) (T.def_ 12 (by decide)).kp (b_open_variables T) pass0 (da_cons (de_item (de_var 2) (de_int)) (da_nil))) (de_callTy call_tuple_of dc_tuple (by rfl) (T.free "tuple" (by decide)) (by decide +kernel) (da_cons (de_sortSet rfl (by rfl) (T.free "sorted" (by decide)) (by rfl) (T.free "set" (by decide)) (de_add (de_call (ok__law_opened T) (hr.mono (by decide)) (by rfl) (T.glo 24 (by decide)) (T.def_ 24 (by decide)).kp (b__law_opened T) pass0 (da_cons (de_var 0) (da_nil))) (de_call (ok__law_opened T) (hr.mono (by decide)) (by rfl) (T.glo 24 (by decide)) (T.def_ 24 (by decide)).kp (b__law_opened T) pass0 (da_cons (de_var 1) (da_nil))))) (da_nil))))))))))))) goal__law_made_right
theorem ok__law_right (T : Tx K mg base fs fds) : FnOk P w K mg base CX0 7 (fs 28) (fds 28) ["dice"] (SpD K 1 pre__law_right post__law_right) :=
  fn_d (N := ["dice", "term", "other", "long"]) (wb := w__law_right) (T.def_ 28 (by decide)) sc__law_right rfl (by decide) (fun cdv A outer s H E hr => dss_cons (ds_set (i := 1) sc__law_right.nd rfl (.inl rfl) (de_call (ok__law_term_drawn T) (hr.mono (by decide)) (by rfl) (T.glo 22 (by decide)) (T.def_ 22 (by decide)).kp (b__law_term_drawn T) pass0 (da_cons (de_var 0) (da_cons (de_add (de_int) (de_call (ok__law_roll T) (hr.mono (by decide)) (by rfl) (T.glo 17 (by decide)) (T.def_ 17 (by decide)).kp (b__law_roll T) pass0 (da_cons (de_var 0) (da_cons (de_int) (da_nil))))) (da_cons (de_add (de_int) (de_call (ok__law_roll T) (hr.mono (by decide)) (by rfl) (T.glo 17 (by decide)) (T.def_ 17 (by decide)).kp (b__law_roll T) pass0 (da_cons (de_var 0) (da_cons (de_int) (da_nil))))) (da_nil)))))) (dss_cons (ds_set (i := 2) sc__law_right.nd rfl (.inl rfl) (de_call (ok__law_term_drawn T) (hr.mono (by decide)) (by rfl) (T.glo 22 (by decide)) (T.def_ 22 (by decide)).kp (b__law_term_drawn T) pass0 (da_cons (de_var 0) (da_cons (de_add (de_int) (de_call (ok__law_roll T) (hr.mono (by decide)) (by rfl) (T.glo 17 (by decide)) (T.def_ 17 (by decide)).kp (b__law_roll T) pass0 (da_cons (de_var 0) (da_cons (de_int) (da_nil))))) (da_cons (de_int) (da_nil)))))) (dss_cons (ds_if ((dw_or (dt_not (dt_val (de_call (ok__law_raise_right T) (hr.mono (by decide)) (by rfl) (T.glo 26 (by decide)) (T.def_ 26 (by decide)).kp (b__law_raise_right T) pass0 (da_cons (de_var 0) (da_cons (de_var 1) (da_nil)))))) (dw_or (dt_not (dt_val (de_call (ok__law_raise_right T) (hr.mono (by decide)) (by rfl) (T.glo 26 (by decide)) (T.def_ 26 (by decide)).kp (b__law_raise_right T) pass0 (da_cons (de_var 0) (da_cons (de_var 2) (da_nil)))))) (dw_or1 (dt_not (dt_val (de_call (ok__law_made_right T) (hr.mono (by decide)) (by rfl) (T.glo 27 (by decide)) (T.def_ 27 (by decide)).kp (b__law_made_right T) pass0 (da_cons (de_var 1) (da_cons (de_var 2) (da_nil))))))))).pt) (dss_one (ds_ret (de_bl))) (dss_nil)) (dss_cons (ds_set (i := 3) sc__law_right.nd rfl (.inl rfl) (de_add (de_mul (de_tup (da_cons (de_neg (de_int)) (da_nil))) (de_sub (de_add (de_int) (de_call (ok__law_roll T) (hr.mono (by decide)) (by rfl) (T.glo 17 (by decide)) (T.def_ 17 (by decide)).kp (b__law_roll T) pass0 (da_cons (de_var 0) (da_cons (de_int) (da_nil))))) (de_callB call_len_seq dc_len (by rfl) (T.free "len" (by decide)) (by decide +kernel) (da_cons (de_var 2) (da_nil))))) (de_var 2))) (dss_cons (ds_if ((dw_or (dt_not (dt_val (de_call (ok__law_made_right T) (hr.mono (by decide)) (by rfl) (T.glo 27 (by decide)) (T.def_ 27 (by decide)).kp (b__law_made_right T) pass0 (da_cons (de_var 3) (da_cons (de_call (ok__law_one_of T) (hr.mono (by decide)) (by rfl) (T.glo 18 (by decide)) (T.def_ 18 (by decide)).kp (b__law_one_of T) pass0 (da_cons (de_var 0) (da_cons (de_lst (da_cons (de_tup (da_cons (de_int) (da_nil))) (da_cons (de_tup (da_cons (de_int) (da_nil))) (da_cons (de_var 2) (da_nil))))) (da_nil)))) (da_nil)))))) (dw_or1 (dt_not (dt_val (de_call (ok__law_made_right T) (hr.mono (by decide)) (by rfl) (T.glo 27 (by decide)) (T.def_ 27 (by decide)).kp (b__law_made_right T) pass0 (da_cons (de_var 2) (da_cons (de_var 3) (da_nil)))))))).pt) (dss_one (ds_ret (de_bl))) (dss_nil)) (dss_one (ds_ret (de_call (ok__law_made_right T) (hr.mono (by decide)) (by rfl) (T.glo 27 (by decide)) (T.def_ 27 (by decide)).kp (b__law_made_right T) pass0 (da_cons (de_add (de_mul (de_tup (da_cons (de_neg (de_int)) (da_nil))) (de_add (de_int) (de_call (ok__law_roll T) (hr.mono (by decide)) (by rfl) (T.glo 17 (by decide)) (T.def_ 17 (by decide)).kp (b__law_roll T) pass0 (da_cons (de_var 0) (da_cons (de_int) (da_nil)))))) (de_tup (da_cons (de_int) (da_nil)))) (da_cons (de_tup (da_cons (de_int) (da_nil))) (da_nil))))))))))) goal__law_right
theorem ok_law (T : Tx K mg base fs fds) : FnOk P w K mg base CX0 8 (fs 29) (fds 29) ["script"] (SpD K 1 pre_law post_law) :=
  fn_d (N := ["script", "at", "told"]) (wb := w_law) (T.def_ 29 (by decide)) sc_law rfl (by decide) (fun cdv A outer s H E hr => dss_cons (ds_forR1 PassesOwn.never rfl (by rfl) (T.free "range" (by decide)) (da_cons (de_callB (call_max2 rfl) dc_max (by rfl) (T.free "max" (by decide)) (by decide +kernel) (da_cons (de_int) (da_cons (de_callB (call_min2 rfl) dc_min (by rfl) (T.free "min" (by decide)) (by decide +kernel) (da_cons (de_int) (da_cons (de_callB call_len_seq dc_len (by rfl) (T.free "len" (by decide)) (by decide +kernel) (da_cons (de_var 0) (da_nil))) (da_nil)))) (da_nil)))) (da_nil)) (dg_name (i := 1) sc_law.nd rfl (.inl rfl)) (dss_one (ds_if (dt_not (dt_val (de_callF (ok__law_right T) (hr.mono (by decide)) (by rfl) (T.glo 28 (by decide)) (T.def_ 28 (by decide)).kp (b__law_right T) pass0 (da_cons (de_call (ok__law_dice T) (hr.mono (by decide)) (by rfl) (T.glo 16 (by decide)) (T.def_ 16 (by decide)).kp (b__law_dice T) pass0 (da_cons (de_var 0) (da_cons (de_var 1) (da_nil)))) (da_nil))))) (dss_one (ds_ret (de_bl))) (dss_nil)))) (dss_cons (ds_set (i := 2) sc_law.nd rfl (.inl rfl) (de_lst (da_cons (de_callN (ok_Xraised_term T) (hr.mono (by decide)) (by rfl) (T.glo 13 (by decide)) (T.def_ 13 (by decide)).kp (b_raised_term T) (da_cons (de_tup (da_cons (de_int) (da_cons (de_neg (de_int)) (da_cons (de_int) (da_cons (de_int) (da_nil)))))) (da_cons (de_int) (da_nil)))) (da_cons (de_callN (ok_Xcalled T) (hr.mono (by decide)) (by rfl) (T.glo 14 (by decide)) (T.def_ 14 (by decide)).kp (b_called T) (da_cons (de_tup (da_cons (de_neg (de_int)) (da_cons (de_int) (da_nil)))) (da_cons (de_tup (da_cons (de_int) (da_nil))) (da_nil)))) (da_cons (de_callN (ok_Xfunction_with T) (hr.mono (by decide)) (by rfl) (T.glo 15 (by decide)) (T.def_ 15 (by decide)).kp (b_function_with T) (da_cons (de_tup (da_cons (de_int) (da_cons (de_int) (da_cons (de_int) (da_nil))))) (da_nil))) (da_nil)))))) (dss_cons (ds_append (i := 2) rfl (.inl rfl) (de_call (ok_open_variables T) (hr.mono (by decide)) (by rfl) (T.glo 12 (by decide)) (T.def_ 12 (by decide)).kp (b_open_variables T) pass0 (da_cons (de_tup (da_cons (de_int) (da_cons (de_neg (de_int)) (da_cons (de_int) (da_cons (de_int) (da_nil)))))) (da_nil)))) (dss_one (ds_ret (de_eq hr.units (de_var 2) (de_lst (da_cons (de_tup (da_cons (de_int) (da_cons (de_neg (de_int)) (da_cons (de_int) (da_cons (de_int) (da_nil)))))) (da_cons (de_tup (da_cons (de_int) (da_cons (de_neg (de_int)) (da_cons (de_int) (da_cons (de_int) (da_nil)))))) (da_cons (de_tup (da_cons (de_neg (de_int)) (da_cons (de_int) (da_cons (de_int) (da_cons (de_int) (da_nil)))))) (da_cons (de_tup (da_cons (de_int) (da_cons (de_int) (da_nil)))) (da_nil)))))))))))) goal_law
end

end Dl
namespace Dl
open PySem PySem.Spec PyProof.Rows L2 Km
/-! ### the head: facts by names, the run of the top -/
def d_is_whole : He.DefD := ⟨("is_whole", none), "is_whole", "is_whole", defArgs s_is_whole, defBody s_is_whole, defScope s_is_whole, [], []⟩
def d_is_whole_within : He.DefD := ⟨("is_whole_within", none), "is_whole_within", "is_whole_within", defArgs s_is_whole_within, defBody s_is_whole_within, defScope s_is_whole_within, [], []⟩
def d_end_behind : He.DefD := ⟨("end_behind", none), "end_behind", "end_behind", defArgs s_end_behind, defBody s_end_behind, defScope s_end_behind, [], []⟩
def d_depths_in : He.DefD := ⟨("depths_in", none), "depths_in", "depths_in", defArgs s_depths_in, defBody s_depths_in, defScope s_depths_in, [], []⟩
def d_raised_parts : He.DefD := ⟨("raised_parts", none), "raised_parts", "raised_parts", defArgs s_raised_parts, defBody s_raised_parts, defScope s_raised_parts, [], []⟩
def d_is_term : He.DefD := ⟨("is_term", none), "is_term", "is_term", defArgs s_is_term, defBody s_is_term, defScope s_is_term, [], []⟩
def d_check_term : He.DefD := ⟨("check_term", none), "check_term", "check_term", defArgs s_check_term, defBody s_check_term, defScope s_check_term, [], []⟩
def d_check_place : He.DefD := ⟨("check_place", none), "check_place", "check_place", defArgs s_check_place, defBody s_check_place, defScope s_check_place, [], []⟩
def d_passed_limit : He.DefD := ⟨("passed_limit", none), "passed_limit", "passed_limit", defArgs s_passed_limit, defBody s_passed_limit, defScope s_passed_limit, [], []⟩
def d_check_limits : He.DefD := ⟨("check_limits", none), "check_limits", "check_limits", defArgs s_check_limits, defBody s_check_limits, defScope s_check_limits, [], []⟩
def d_part_of : He.DefD := ⟨("part_of", none), "part_of", "part_of", defArgs s_part_of, defBody s_part_of, defScope s_part_of, [], []⟩
def d_variables_of : He.DefD := ⟨("variables_of", none), "variables_of", "variables_of", defArgs s_variables_of, defBody s_variables_of, defScope s_variables_of, [], []⟩
def d_open_variables : He.DefD := ⟨("open_variables", none), "open_variables", "open_variables", defArgs s_open_variables, defBody s_open_variables, defScope s_open_variables, [], []⟩
def d_raised_term : He.DefD := ⟨("raised_term", none), "raised_term", "raised_term", defArgs s_raised_term, defBody s_raised_term, defScope s_raised_term, [], []⟩
def d_called : He.DefD := ⟨("called", none), "called", "called", defArgs s_called, defBody s_called, defScope s_called, [], []⟩
def d_function_with : He.DefD := ⟨("function_with", none), "function_with", "function_with", defArgs s_function_with, defBody s_function_with, defScope s_function_with, [], []⟩
def d__law_dice : He.DefD := ⟨("_law_dice", none), "_law_dice", "_law_dice", defArgs s__law_dice, defBody s__law_dice, defScope s__law_dice, [], []⟩
def d__law_roll : He.DefD := ⟨("_law_roll", none), "_law_roll", "_law_roll", defArgs s__law_roll, defBody s__law_roll, defScope s__law_roll, [], []⟩
def d__law_one_of : He.DefD := ⟨("_law_one_of", none), "_law_one_of", "_law_one_of", defArgs s__law_one_of, defBody s__law_one_of, defScope s__law_one_of, [], []⟩
def d__law_ends : He.DefD := ⟨("_law_ends", none), "_law_ends", "_law_ends", defArgs s__law_ends, defBody s__law_ends, defScope s__law_ends, [], []⟩
def d__law_depths : He.DefD := ⟨("_law_depths", none), "_law_depths", "_law_depths", defArgs s__law_depths, defBody s__law_depths, defScope s__law_depths, [], []⟩
def d__law_raised_open : He.DefD := ⟨("_law_raised_open", none), "_law_raised_open", "_law_raised_open", defArgs s__law_raised_open, defBody s__law_raised_open, defScope s__law_raised_open, [], []⟩
def d__law_term_drawn : He.DefD := ⟨("_law_term_drawn", none), "_law_term_drawn", "_law_term_drawn", defArgs s__law_term_drawn, defBody s__law_term_drawn, defScope s__law_term_drawn, [], []⟩
def d__law_flat_depths : He.DefD := ⟨("_law_flat_depths", none), "_law_flat_depths", "_law_flat_depths", defArgs s__law_flat_depths, defBody s__law_flat_depths, defScope s__law_flat_depths, [], []⟩
def d__law_opened : He.DefD := ⟨("_law_opened", none), "_law_opened", "_law_opened", defArgs s__law_opened, defBody s__law_opened, defScope s__law_opened, [], []⟩
def d__law_told : He.DefD := ⟨("_law_told", none), "_law_told", "_law_told", defArgs s__law_told, defBody s__law_told, defScope s__law_told, [], []⟩
def d__law_raise_right : He.DefD := ⟨("_law_raise_right", none), "_law_raise_right", "_law_raise_right", defArgs s__law_raise_right, defBody s__law_raise_right, defScope s__law_raise_right, [], []⟩
def d__law_made_right : He.DefD := ⟨("_law_made_right", none), "_law_made_right", "_law_made_right", defArgs s__law_made_right, defBody s__law_made_right, defScope s__law_made_right, [], []⟩
def d__law_right : He.DefD := ⟨("_law_right", none), "_law_right", "_law_right", defArgs s__law_right, defBody s__law_right, defScope s__law_right, [], []⟩
def d_law : He.DefD := ⟨("law", none), "law", "law", defArgs s_law, defBody s_law, defScope s_law, [], []⟩
abbrev si_TooMany : Stmt := clsInit (topS 6)
def di_TooMany : He.DefD := ⟨("TooMany", some "__init__"), "__init__", "TooMany.__init__", defArgs si_TooMany, defBody si_TooMany, defScope si_TooMany, [], []⟩
def fn : List He.DefD := [d_is_whole, d_is_whole_within, d_end_behind, d_depths_in, d_raised_parts, d_is_term, d_check_term, d_check_place, d_passed_limit, d_check_limits, d_part_of, d_variables_of, d_open_variables, d_raised_term, d_called, d_function_with, d__law_dice, d__law_roll, d__law_one_of, d__law_ends, d__law_depths, d__law_raised_open, d__law_term_drawn, d__law_flat_depths, d__law_opened, d__law_told, d__law_raise_right, d__law_made_right, d__law_right, d_law, di_TooMany]
def fa : List He.Fa := [.glo "is_whole", .glo "is_whole_within", .glo "end_behind", .glo "depths_in", .glo "raised_parts", .glo "is_term", .glo "check_term", .glo "check_place", .glo "passed_limit", .glo "check_limits", .glo "part_of", .glo "variables_of", .glo "open_variables", .glo "raised_term", .glo "called", .glo "function_with", .glo "_law_dice", .glo "_law_roll", .glo "_law_one_of", .glo "_law_ends", .glo "_law_depths", .glo "_law_raised_open", .glo "_law_term_drawn", .glo "_law_flat_depths", .glo "_law_opened", .glo "_law_told", .glo "_law_raise_right", .glo "_law_made_right", .glo "_law_right", .glo "law", .free "int", .free "isinstance", .free "len", .free "enumerate", .free "zip", .free "max", .free "tuple", .free "range", .free "sorted", .free "abs", .free "min", .free "set", .int "WHOLE_END" c_WHOLE_END, .int "MAX_PARTS" c_MAX_PARTS, .int "MAX_VARIABLE" c_MAX_VARIABLE, .glo "TooMany"]
def lawN : List PySem.Str := ["_law_dice", "_law_roll", "_law_one_of", "_law_ends", "_law_depths", "_law_raised_open", "_law_term_drawn", "_law_flat_depths", "_law_opened", "_law_told", "_law_raise_right", "_law_made_right", "_law_right", "law"]
def tf : List He.Defn := lawN.map fun x => (x, none)
def exB (K : PySem.W.Frag) : Bool := lamB lawN ["_law_raise_right", "_law_made_right"] K && PySem.OwnEx.errB K "OverflowError.__new__" [.type "OverflowError", .type "ArithmeticError", .type "Exception", .type "BaseException", .type "object"] "TooMany" "limit"
abbrev R : PySem.W.OpenRow := PySem.W.OpenLaw.row PySem.Challenge.rw_oncework_k02_whole_terms_made_of_terms
abbrev hk : PySem.W.Hook := He.hookX 5 fa fn [] tf exB
def ob (s : PySem.W.SharedT) : He.AlX := He.obsX 5 fa fn [] tf exB (HandSHeadRun.getT s)
theorem ob_eq (s : PySem.W.SharedT) : ob s = hk.obs s.abs := He.obsX_eq (HandSHeadRun.getT_eq s)
theorem run (w : World) : HandSHeadRun.RunEq R (PySem.W.view R.prog [42]) hk ob 3000 (("WorkError" : PySem.Str) :: ("InvalidTerm" : PySem.Str) :: ("InvalidPlace" : PySem.Str) :: ("InvalidOperation" : PySem.Str) :: ("InvalidNumber" : PySem.Str) :: ("TooMany" : PySem.Str) :: ("WHOLE_END" : PySem.Str) :: ("MAX_PARTS" : PySem.Str) :: ("MAX_VARIABLE" : PySem.Str) :: ("is_whole" : PySem.Str) :: ("is_whole_within" : PySem.Str) :: ("end_behind" : PySem.Str) :: ("depths_in" : PySem.Str) :: ("raised_parts" : PySem.Str) :: ("is_term" : PySem.Str) :: ("check_term" : PySem.Str) :: ("check_place" : PySem.Str) :: ("passed_limit" : PySem.Str) :: ("check_limits" : PySem.Str) :: ("part_of" : PySem.Str) :: ("variables_of" : PySem.Str) :: ("open_variables" : PySem.Str) :: ("raised_term" : PySem.Str) :: ("called" : PySem.Str) :: ("function_with" : PySem.Str) :: ("_law_dice" : PySem.Str) :: ("_law_roll" : PySem.Str) :: ("_law_one_of" : PySem.Str) :: ("_law_ends" : PySem.Str) :: ("_law_depths" : PySem.Str) :: ("_law_raised_open" : PySem.Str) :: ("_law_term_drawn" : PySem.Str) :: ("_law_flat_depths" : PySem.Str) :: ("_law_opened" : PySem.Str) :: ("_law_told" : PySem.Str) :: ("_law_raise_right" : PySem.Str) :: ("_law_made_right" : PySem.Str) :: ("_law_right" : PySem.Str) :: []) w := by
  intro os
  kernel_rfl
theorem tx {K : PySem.W.Frag} {h : Heap} {w : World} {mg : Str → Option Value} (X : K.In h) (G : h.Ns mainGlobals mg) (cx : He.SaysX fa fn [] tf exB w h K) :
    ∃ fds : Nat → FuncData, (∀ i, i < 30 → FnP K (nm i) (st i) (He.ga K (nm i)) (fds i)) ∧ ∀ base : Heap, (∀ p ∈ tf.map (He.cT K), LamX.TabB base mg p.1 p.2) → Tx K mg base (fun i => He.ga K (nm i)) fds := by
  have c := cx.t.d
  have E : ∀ i, i < 30 → ∃ fd, FnP K (nm i) (st i) (He.ga K (nm i)) fd := fun i h => match i, h with
    | 0, _ => c.def_ 0 (d := d_is_whole) rfl
    | 1, _ => c.def_ 1 (d := d_is_whole_within) rfl
    | 2, _ => c.def_ 2 (d := d_end_behind) rfl
    | 3, _ => c.def_ 3 (d := d_depths_in) rfl
    | 4, _ => c.def_ 4 (d := d_raised_parts) rfl
    | 5, _ => c.def_ 5 (d := d_is_term) rfl
    | 6, _ => c.def_ 6 (d := d_check_term) rfl
    | 7, _ => c.def_ 7 (d := d_check_place) rfl
    | 8, _ => c.def_ 8 (d := d_passed_limit) rfl
    | 9, _ => c.def_ 9 (d := d_check_limits) rfl
    | 10, _ => c.def_ 10 (d := d_part_of) rfl
    | 11, _ => c.def_ 11 (d := d_variables_of) rfl
    | 12, _ => c.def_ 12 (d := d_open_variables) rfl
    | 13, _ => c.def_ 13 (d := d_raised_term) rfl
    | 14, _ => c.def_ 14 (d := d_called) rfl
    | 15, _ => c.def_ 15 (d := d_function_with) rfl
    | 16, _ => c.def_ 16 (d := d__law_dice) rfl
    | 17, _ => c.def_ 17 (d := d__law_roll) rfl
    | 18, _ => c.def_ 18 (d := d__law_one_of) rfl
    | 19, _ => c.def_ 19 (d := d__law_ends) rfl
    | 20, _ => c.def_ 20 (d := d__law_depths) rfl
    | 21, _ => c.def_ 21 (d := d__law_raised_open) rfl
    | 22, _ => c.def_ 22 (d := d__law_term_drawn) rfl
    | 23, _ => c.def_ 23 (d := d__law_flat_depths) rfl
    | 24, _ => c.def_ 24 (d := d__law_opened) rfl
    | 25, _ => c.def_ 25 (d := d__law_told) rfl
    | 26, _ => c.def_ 26 (d := d__law_raise_right) rfl
    | 27, _ => c.def_ 27 (d := d__law_made_right) rfl
    | 28, _ => c.def_ 28 (d := d__law_right) rfl
    | 29, _ => c.def_ 29 (d := d_law) rfl
    | n + 30, h => absurd h (by omega)
  have eB := cx.more
  unfold exB at eB
  simp only [Bool.and_eq_true] at eB
  obtain ⟨lB, e_TooMany⟩ := eB
  let fds : Nat → FuncData := fun i => if h : i < 30 then Classical.choose (E i h) else Classical.choose (E 0 (by decide))
  have D : ∀ i, i < 30 → FnP K (nm i) (st i) (He.ga K (nm i)) (fds i) := fun i h => by
    show FnP K (nm i) (st i) (He.ga K (nm i)) (if h : i < 30 then _ else _)
    rw [dif_pos h]
    exact Classical.choose_spec (E i h)
  refine ⟨fds, D, fun base TB => ⟨D, fun i h => ?_, fun x hx => ?_, ?_, ?_, ?_, ?_, ?_, ?_, ?_⟩⟩
  · match i, h with
    | 0, _ => exact He.glo_ok X G (c.fact 0 (f := .glo "is_whole") rfl)
    | 1, _ => exact He.glo_ok X G (c.fact 1 (f := .glo "is_whole_within") rfl)
    | 2, _ => exact He.glo_ok X G (c.fact 2 (f := .glo "end_behind") rfl)
    | 3, _ => exact He.glo_ok X G (c.fact 3 (f := .glo "depths_in") rfl)
    | 4, _ => exact He.glo_ok X G (c.fact 4 (f := .glo "raised_parts") rfl)
    | 5, _ => exact He.glo_ok X G (c.fact 5 (f := .glo "is_term") rfl)
    | 6, _ => exact He.glo_ok X G (c.fact 6 (f := .glo "check_term") rfl)
    | 7, _ => exact He.glo_ok X G (c.fact 7 (f := .glo "check_place") rfl)
    | 8, _ => exact He.glo_ok X G (c.fact 8 (f := .glo "passed_limit") rfl)
    | 9, _ => exact He.glo_ok X G (c.fact 9 (f := .glo "check_limits") rfl)
    | 10, _ => exact He.glo_ok X G (c.fact 10 (f := .glo "part_of") rfl)
    | 11, _ => exact He.glo_ok X G (c.fact 11 (f := .glo "variables_of") rfl)
    | 12, _ => exact He.glo_ok X G (c.fact 12 (f := .glo "open_variables") rfl)
    | 13, _ => exact He.glo_ok X G (c.fact 13 (f := .glo "raised_term") rfl)
    | 14, _ => exact He.glo_ok X G (c.fact 14 (f := .glo "called") rfl)
    | 15, _ => exact He.glo_ok X G (c.fact 15 (f := .glo "function_with") rfl)
    | 16, _ => exact He.glo_ok X G (c.fact 16 (f := .glo "_law_dice") rfl)
    | 17, _ => exact He.glo_ok X G (c.fact 17 (f := .glo "_law_roll") rfl)
    | 18, _ => exact He.glo_ok X G (c.fact 18 (f := .glo "_law_one_of") rfl)
    | 19, _ => exact He.glo_ok X G (c.fact 19 (f := .glo "_law_ends") rfl)
    | 20, _ => exact He.glo_ok X G (c.fact 20 (f := .glo "_law_depths") rfl)
    | 21, _ => exact He.glo_ok X G (c.fact 21 (f := .glo "_law_raised_open") rfl)
    | 22, _ => exact He.glo_ok X G (c.fact 22 (f := .glo "_law_term_drawn") rfl)
    | 23, _ => exact He.glo_ok X G (c.fact 23 (f := .glo "_law_flat_depths") rfl)
    | 24, _ => exact He.glo_ok X G (c.fact 24 (f := .glo "_law_opened") rfl)
    | 25, _ => exact He.glo_ok X G (c.fact 25 (f := .glo "_law_told") rfl)
    | 26, _ => exact He.glo_ok X G (c.fact 26 (f := .glo "_law_raise_right") rfl)
    | 27, _ => exact He.glo_ok X G (c.fact 27 (f := .glo "_law_made_right") rfl)
    | 28, _ => exact He.glo_ok X G (c.fact 28 (f := .glo "_law_right") rfl)
    | 29, _ => exact He.glo_ok X G (c.fact 29 (f := .glo "law") rfl)
    | n + 30, h => exact absurd h (by omega)
  · have a : ∀ x, x ∈ frees → (He.Fa.free x).ok K = true := fun x hx => by
      obtain ⟨i, hi⟩ := List.mem_iff_getElem?.mp hx
      have hlt : i < 12 := (List.getElem?_eq_some_iff.mp hi).1
      match i, hlt, hi with
      | 0, _, hi => cases hi; exact c.fact 30 (f := .free "int") rfl
      | 1, _, hi => cases hi; exact c.fact 31 (f := .free "isinstance") rfl
      | 2, _, hi => cases hi; exact c.fact 32 (f := .free "len") rfl
      | 3, _, hi => cases hi; exact c.fact 33 (f := .free "enumerate") rfl
      | 4, _, hi => cases hi; exact c.fact 34 (f := .free "zip") rfl
      | 5, _, hi => cases hi; exact c.fact 35 (f := .free "max") rfl
      | 6, _, hi => cases hi; exact c.fact 36 (f := .free "tuple") rfl
      | 7, _, hi => cases hi; exact c.fact 37 (f := .free "range") rfl
      | 8, _, hi => cases hi; exact c.fact 38 (f := .free "sorted") rfl
      | 9, _, hi => cases hi; exact c.fact 39 (f := .free "abs") rfl
      | 10, _, hi => cases hi; exact c.fact 40 (f := .free "min") rfl
      | 11, _, hi => cases hi; exact c.fact 41 (f := .free "set") rfl
      | n + 12, h, _ => exact absurd h (by omega)
    exact He.free_ok X G (a x hx)
  · exact He.int_ok X G (c.fact 42 (f := .int "WHOLE_END" c_WHOLE_END) rfl)
  · exact He.int_ok X G (c.fact 43 (f := .int "MAX_PARTS" c_MAX_PARTS) rfl)
  · exact He.int_ok X G (c.fact 44 (f := .int "MAX_VARIABLE" c_MAX_VARIABLE) rfl)
  · exact lamMk_of (D 26 (by decide)) (TB _ (List.mem_map.mpr ⟨("_law_raise_right", none), List.mem_map.mpr ⟨"_law_raise_right", by decide +kernel, rfl⟩, rfl⟩)) (lamB_mk lB (x := "_law_raise_right") (by decide +kernel)).1 (lamB_mk lB (x := "_law_raise_right") (by decide +kernel)).2
  · exact lamMk_of (D 27 (by decide)) (TB _ (List.mem_map.mpr ⟨("_law_made_right", none), List.mem_map.mpr ⟨"_law_made_right", by decide +kernel, rfl⟩, rfl⟩)) (lamB_mk lB (x := "_law_made_right") (by decide +kernel)).1 (lamB_mk lB (x := "_law_made_right") (by decide +kernel)).2
  · exact PySem.OwnEx.errB_ok (He.glo_ok X G (c.fact 45 (f := .glo "TooMany") rfl)) PySem.F.excBase_OverflowError PySem.F.store_OverflowError e_TooMany
  · obtain ⟨fd, z⟩ := c.def_ 30 (d := di_TooMany) rfl
    exact PySem.OwnTooMany.init_of (s := si_TooMany) z ⟨_, _, rfl⟩ ⟨_, _, _, _, rfl⟩ rfl
end Dl
open PySem PySem.W PySem.Calls PyProof.Rows
set_option maxRecDepth 100000 in
set_option maxHeartbeats 8000000 in
theorem PySem.Challenge.cw_oncework_k02_whole_terms_made_of_terms_holds : PySem.Challenge.rw_oncework_k02_whole_terms_made_of_terms.Holds := by
  w_on; o_law
  refine HandSHeadRun.head_any (r := OpenLaw.row PySem.Challenge.rw_oncework_k02_whole_terms_made_of_terms) (q := view (OpenLaw.row PySem.Challenge.rw_oncework_k02_whole_terms_made_of_terms).prog [42]) (H := Dl.hk) (ob := Dl.ob) (M := 3000) (loose := (("WorkError" : PySem.Str) :: ("InvalidTerm" : PySem.Str) :: ("InvalidPlace" : PySem.Str) :: ("InvalidOperation" : PySem.Str) :: ("InvalidNumber" : PySem.Str) :: ("TooMany" : PySem.Str) :: ("WHOLE_END" : PySem.Str) :: ("MAX_PARTS" : PySem.Str) :: ("MAX_VARIABLE" : PySem.Str) :: ("is_whole" : PySem.Str) :: ("is_whole_within" : PySem.Str) :: ("end_behind" : PySem.Str) :: ("depths_in" : PySem.Str) :: ("raised_parts" : PySem.Str) :: ("is_term" : PySem.Str) :: ("check_term" : PySem.Str) :: ("check_place" : PySem.Str) :: ("passed_limit" : PySem.Str) :: ("check_limits" : PySem.Str) :: ("part_of" : PySem.Str) :: ("variables_of" : PySem.Str) :: ("open_variables" : PySem.Str) :: ("raised_term" : PySem.Str) :: ("called" : PySem.Str) :: ("function_with" : PySem.Str) :: ("_law_dice" : PySem.Str) :: ("_law_roll" : PySem.Str) :: ("_law_one_of" : PySem.Str) :: ("_law_ends" : PySem.Str) :: ("_law_depths" : PySem.Str) :: ("_law_raised_open" : PySem.Str) :: ("_law_term_drawn" : PySem.Str) :: ("_law_flat_depths" : PySem.Str) :: ("_law_opened" : PySem.Str) :: ("_law_told" : PySem.Str) :: ("_law_raise_right" : PySem.Str) :: ("_law_made_right" : PySem.Str) :: ("_law_right" : PySem.Str) :: [])) (d := HandSHeadRun.topDef (OpenLaw.row PySem.Challenge.rw_oncework_k02_whole_terms_made_of_terms).prog 42) (kwd := []) Dl.ob_eq
    (by kernel_rfl) (fun s => by kernel_rfl) Dl.run (by kernel_rfl) (by kernel_rfl) (by kernel_rfl) (by rfl) (by first | assumption | decide +kernel) (by decide +kernel) ⟨rfl, rfl, rfl, rfl, rfl, by decide +kernel⟩ ?hw ?hc
  case hw => w_witness2
  case hc =>
    refine LamX.walk_ofTsE (l := PySem.Challenge.rw_oncework_k02_whole_terms_made_of_terms) (n := 63) (k := 8) (x := "script") (CX := fun _ => L2.CX0) rfl (by decide) (by kernel_rfl) ⟨rfl, by decide, by decide⟩ ?F (fun _ _ _ _ _ z => z)
    intro w mg fa h Y G hmg0
    obtain ⟨K, KX, c⟩ := Y
    have hmg : mg ("law" : PySem.Str) = some (.ref fa) := by
      have e : (HandSHeadRun.topDef (OpenLaw.row PySem.Challenge.rw_oncework_k02_whole_terms_made_of_terms).prog 42).name = ("law" : PySem.Str) := by kernel_rfl
      rw [← e]
      exact hmg0
    obtain ⟨fds, Df, T⟩ := Dl.tx KX G c
    have gl : mg ("law" : PySem.Str) = some (.ref (He.ga K "law")) := He.glo_ok KX G (c.t.d.fact 29 (f := .glo "law") rfl)
    have e := hmg.symm.trans gl
    cases e
    have bl := L2.FunD.bindsA (ps := ["script"]) (Df 29 (by decide)) fun _ _ _ _ _ _ us hl => match us, hl with | [_], _ => rfl
    have hcs : ∀ p ∈ Dl.tf.map (He.cT K), PySem.W.CodeHd h p.1 p.2 := fun p hp => by
      obtain ⟨d, hd, rfl⟩ := List.mem_map.mp hp
      exact PySem.W.codeHd_of_K KX (c.hd d hd)
    have hem : ∀ p ∈ Dl.tf.map (He.cT K), h.get? p.2 = some { cls := .none, data := .fields #[] } := fun p hp => by
      obtain ⟨d, hd, rfl⟩ := List.mem_map.mp hp
      exact c.empty d hd
    have hno : ∀ p ∈ Dl.tf.map (He.cT K), K.lookup p.2 = none := fun p hp => by
      obtain ⟨d, hd, rfl⟩ := List.mem_map.mp hp
      exact c.out d hd
    have lB0 : Dl.lamB Dl.lawN ["_law_raise_right", "_law_made_right"] K = true := by
      have eB := c.more
      unfold Dl.exB at eB
      simp only [Bool.and_eq_true] at eB
      exact eB.1
    have lB : ∀ x ∈ Dl.lamNm K, x ∈ Dl.lawN := fun x hx => Dl.lamB_law lB0 hx
    refine ⟨K, KX, fds 29, Dl.tf.map (He.cT K), Dl.SpD K 1 Dl.pre_law Dl.post_law, hem, hno, hcs, fun s v => ?_, fun H a ns hl _ hT hS => ?_, fun base KB GB TB => ?_⟩
    · exact bl s [v] rfl
    · exact Dl.law_inT lB ⟨ns, rfl, hl⟩ (fun _ h => h) hT hS
    · exact Dl.ok_law (T base TB)
