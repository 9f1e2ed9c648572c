import PyProof.Rows.All
import Wide.All
import OpenK.AllK
import Wide.FinOn
import KE.KStateDown
import HandS.ForMost
import HandS.TupAny
import HandS.TupMul
import HandS.IsInst
import HandS.Wide
import HandS.Flow
import HandS.Conv
import HandS.Defaults
import KE.GoesMore
import KE.GoesEnum
import HandS.Deep
import HandS.Style
import HandS.RaiseMore
import KE.KDictZip
import HandS.SetFor
import HandS.Zip
import HandS.TupLe
import Lean
import HandS.Words
import HandS.WordsExc
import HandS.Head0
import HandS.Head1
import HandS.Head2
import HandS.HeadEnd
import HandS.HeadHook1
import HandS.HeadHook2
import PySem.Challenge.RW_oncework_k00_whole_terms_and_their_parts
set_option Elab.async false
set_option linter.all false
set_option maxRecDepth 100000
set_option maxHeartbeats 8000000
/-! Dl: programs over plain data: a second layer over the readings, in which the heap is no more seen. -/
namespace Dl
open PySem PySem.Spec PyProof.Rows L2

inductive D where
  | non | bl (b : Bool) | int (i : Int) | str (x : Str) | lst (ds : List D) | tup (ds : List D) | frl (ds : List D) | emp | ty (n : String) | rng (lo hi : Int) | dct (ks : List Int) (ds : List D)
/-- the pairs of a dict -/
def mkD (ks : List Int) (xs : List V) : List (L2.Key × V) := List.zipWith (fun k x => (Sum.inl k, x)) ks xs

mutual
def Rep (K : PySem.W.Frag) (B : Hp) : D → V → Prop
  | .non, v => v = .non
  | .bl b, v => v = .bl b
  | .int i, v => v = .int i
  | .str x, v => v = .str x
  | .lst ds, v => ∃ a xs, v = .ref a ∧ B a = some (.lst xs) ∧ Reps K B ds xs
  | .tup ds, v => ∃ a xs, v = .ref a ∧ SqT K B a xs ∧ Reps K B ds xs
  | .frl ds, v => ∃ a xs, v = .ref a ∧ SqL K B a xs ∧ Reps K B ds xs
  | .emp, v => ∃ a, v = .ref a ∧ B a = some (.dK [])
  | .ty n, v => v = .ty n
  | .rng lo hi, v => ∃ a, v = .ref a ∧ B a = some (.rng lo hi)
  | .dct ks ds, v => ∃ a xs, v = .ref a ∧ B a = some (.dK (mkD ks xs)) ∧ ks.length = ds.length ∧ Reps K B ds xs
def Reps (K : PySem.W.Frag) (B : Hp) : List D → List V → Prop
  | [], vs => vs = []
  | d :: ds, vs => ∃ x r, vs = x :: r ∧ Rep K B d x ∧ Reps K B ds r
end

theorem same_sqT {K : PySem.W.Frag} {H H' : Hp} {a : Addr} {xs : List V} (e : Same H H') (h : SqT K H a xs) : SqT K H' a xs := by
  rcases h with (h | ⟨o, h⟩) | h
  · exact .inl (.inl (e _ _ h))
  · exact .inl (.inr ⟨o, e _ _ h⟩)
  · exact .inr h

section
variable {K : PySem.W.Frag} {B B' H H' : Hp}
mutual
theorem Rep.mono (e : Same B B') : ∀ {d : D} {v : V}, Rep K B d v → Rep K B' d v
  | .non, _, h => by rw [Rep] at h ⊢; exact h
  | .bl _, _, h => by rw [Rep] at h ⊢; exact h
  | .int _, _, h => by rw [Rep] at h ⊢; exact h
  | .str _, _, h => by rw [Rep] at h ⊢; exact h
  | .ty _, _, h => by rw [Rep] at h ⊢; exact h
  | .rng _ _, _, h => by rw [Rep] at h ⊢; obtain ⟨a, r, h1⟩ := h; exact ⟨a, r, e _ _ h1⟩
  | .dct ks ds, _, h => by rw [Rep] at h ⊢; obtain ⟨a, xs, r, h1, hl, h2⟩ := h; exact ⟨a, xs, r, e _ _ h1, hl, Reps.mono e h2⟩
  | .lst ds, _, h => by rw [Rep] at h ⊢; obtain ⟨a, xs, r, h1, h2⟩ := h; exact ⟨a, xs, r, e _ _ h1, Reps.mono e h2⟩
  | .tup ds, _, h => by rw [Rep] at h ⊢; obtain ⟨a, xs, r, h1, h2⟩ := h; exact ⟨a, xs, r, same_sqT e h1, Reps.mono e h2⟩
  | .frl ds, _, h => by rw [Rep] at h ⊢; obtain ⟨a, xs, r, h1, h2⟩ := h; exact ⟨a, xs, r, e.seq h1, Reps.mono e h2⟩
  | .emp, _, h => by rw [Rep] at h ⊢; obtain ⟨a, r, h1⟩ := h; exact ⟨a, r, e _ _ h1⟩
theorem Reps.mono (e : Same B B') : ∀ {ds : List D} {vs : List V}, Reps K B ds vs → Reps K B' ds vs
  | [], _, h => by rw [Reps] at h ⊢; exact h
  | d :: ds, _, h => by rw [Reps] at h ⊢; obtain ⟨x, r, q, h1, h2⟩ := h; exact ⟨x, r, q, Rep.mono e h1, Reps.mono e h2⟩
end
theorem Reps.nil : Reps K B [] [] := by rw [Reps]
theorem Reps.cons {d ds x xs} (h : Rep K B d x) (r : Reps K B ds xs) : Reps K B (d :: ds) (x :: xs) := by rw [Reps]; exact ⟨x, xs, rfl, h, r⟩
theorem Reps.len : ∀ {ds : List D} {vs : List V}, Reps K B ds vs → vs.length = ds.length
  | [], _, h => by rw [Reps] at h; rw [h]; rfl
  | d :: ds, _, h => by rw [Reps] at h; obtain ⟨x, r, rfl, _, h2⟩ := h; simp [h2.len]
theorem Reps.get : ∀ {ds : List D} {vs : List V} {i : Nat} {d : D}, Reps K B ds vs → ds[i]? = some d → ∃ v, vs[i]? = some v ∧ Rep K B d v
  | [], _, _, _, _, e => by simp at e
  | d :: ds, _, 0, _, h, e => by
    rw [Reps] at h; obtain ⟨x, r, rfl, h1, _⟩ := h; simp at e; subst e; exact ⟨x, rfl, h1⟩
  | d :: ds, _, i + 1, d', h, e => by
    rw [Reps] at h; obtain ⟨x, r, rfl, _, h2⟩ := h
    obtain ⟨v, e1, e2⟩ := h2.get (i := i) (d := d') (by simpa using e)
    exact ⟨v, by simpa using e1, e2⟩
theorem Reps.get' : ∀ {ds : List D} {vs : List V} {i : Nat} {v : V}, Reps K B ds vs → vs[i]? = some v → ∃ d, ds[i]? = some d ∧ Rep K B d v := fun {ds vs i v} h e => by
  have hl := h.len
  have hi : i < ds.length := by rw [← hl]; exact (List.getElem?_eq_some_iff.mp e).1
  obtain ⟨w, e1, e2⟩ := h.get (i := i) (d := ds[i]) (by simp [hi])
  rw [e] at e1; cases e1
  exact ⟨_, by simp [hi], e2⟩
theorem Reps.append : ∀ {ds es : List D} {vs ws : List V}, Reps K B ds vs → Reps K B es ws → Reps K B (ds ++ es) (vs ++ ws)
  | [], _, _, _, h, k => by rw [Reps] at h; subst h; exact k
  | d :: ds, es, _, ws, h, k => by
    rw [Reps] at h; obtain ⟨x, r, rfl, h1, h2⟩ := h
    exact .cons h1 (h2.append k)
theorem Reps.take : ∀ {ds : List D} {vs : List V} (n : Nat), Reps K B ds vs → Reps K B (ds.take n) (vs.take n)
  | _, _, 0, _ => by simp [Reps.nil]
  | [], _, n + 1, h => by rw [Reps] at h; subst h; exact .nil
  | d :: ds, _, n + 1, h => by
    rw [Reps] at h; obtain ⟨x, r, rfl, h1, h2⟩ := h
    exact .cons h1 (h2.take n)
theorem Reps.drop : ∀ {ds : List D} {vs : List V} (n : Nat), Reps K B ds vs → Reps K B (ds.drop n) (vs.drop n)
  | _, _, 0, h => h
  | [], _, n + 1, h => by rw [Reps] at h; subst h; exact .nil
  | d :: ds, _, n + 1, h => by
    rw [Reps] at h; obtain ⟨x, r, rfl, h1, h2⟩ := h
    exact h2.drop n
theorem Reps.set : ∀ {ds : List D} {vs : List V} {d : D} {v : V} (i : Nat), Reps K B ds vs → Rep K B d v → Reps K B (ds.set i d) (vs.set i v)
  | [], _, _, _, _, h, _ => by rw [Reps] at h; subst h; exact .nil
  | _ :: ds, _, _, _, 0, h, k => by rw [Reps] at h; obtain ⟨x, r, rfl, h1, h2⟩ := h; exact .cons k h2
  | _ :: ds, _, _, _, i + 1, h, k => by rw [Reps] at h; obtain ⟨x, r, rfl, h1, h2⟩ := h; exact .cons h1 (h2.set i k)
theorem Reps.dropLast {ds : List D} {vs : List V} (h : Reps K B ds vs) : Reps K B ds.dropLast vs.dropLast := by
  rw [List.dropLast_eq_take, List.dropLast_eq_take, h.len]
  exact h.take _
theorem Reps.rep {ds : List D} {vs : List V} (h : Reps K B ds vs) : ∀ n, Reps K B (List.replicate n ds).flatten (List.replicate n vs).flatten
  | 0 => .nil
  | n + 1 => by
    rw [List.replicate_succ, List.replicate_succ, List.flatten_cons, List.flatten_cons]
    exact h.append (h.rep n)
theorem Reps.reverse : ∀ {ds : List D} {vs : List V}, Reps K B ds vs → Reps K B ds.reverse vs.reverse
  | [], _, h => by rw [Reps] at h; subst h; exact .nil
  | d :: ds, _, h => by
    rw [Reps] at h; obtain ⟨x, r, rfl, h1, h2⟩ := h
    rw [List.reverse_cons, List.reverse_cons]
    exact h2.reverse.append (.cons h1 .nil)
theorem reps_ints (ns : List Int) : Reps K B (ns.map .int) (ns.map V.int) := by
  induction ns with
  | nil => exact .nil
  | cons n ns ih => exact .cons (by rw [Rep]) ih
theorem reps_ints_eq : ∀ {ns : List Int} {vs : List V}, Reps K B (ns.map .int) vs → vs = ns.map V.int
  | [], _, h => by simpa [Reps] using h
  | n :: ns, _, h => by
    rw [List.map_cons, Reps] at h; obtain ⟨x, r, rfl, h1, h2⟩ := h
    rw [Rep] at h1; subst h1; rw [reps_ints_eq h2]; rfl
end

/-! ### heaps -/
/-- the dice at J, if there are some: a list of three ints, the first one not below 0 -/
def Own (J : Option Addr) (B H : Hp) : Prop := ∀ a, J = some a → B a = none ∧ ∃ l m c : Int, 0 ≤ l ∧ H a = some (.lst [.int l, .int m, .int c])
structure Grow (J : Option Addr) (B H B' H' : Hp) : Prop where
  bb : Same B B'
  bh : Same B' H'
  hh : ∀ b o, J ≠ some b → H b = some o → H' b = some o
  ne : ∀ b, H b ≠ none → H' b ≠ none
  fr : ∀ b, H b ≠ none → B' b = B b
section
variable {J : Option Addr} {B H B1 H1 B2 H2 : Hp} {p : Addr} {o : HO}
theorem Grow.refl (h : Same B H) : Grow J B H B H := ⟨.refl _, h, fun _ _ _ e => e, fun _ e => e, fun _ _ => rfl⟩
theorem Grow.trans (a : Grow J B H B1 H1) (b : Grow J B1 H1 B2 H2) : Grow J B H B2 H2 :=
  ⟨a.bb.trans b.bb, b.bh, fun c o n e => b.hh c o n (a.hh c o n e), fun c e => b.ne c (a.ne c e), fun c e => (b.fr c (a.ne c e)).trans (a.fr c e)⟩
theorem upd_same_of (h : H p = none) : Same H (upd H p o) := fun b x e => by rw [upd_ne (ne_of_none e h)]; exact e
theorem same_upd2 (h : Same B H) (n : H p = none) : Same (upd B p o) (upd H p o) := fun b x e => by
  by_cases hb : b = p
  · subst hb; rw [upd_same] at e ⊢; exact e
  · rw [upd_ne hb] at e ⊢; exact h b x e
/-- a new object, known -/
theorem Grow.new (h : Same B H) (n : H p = none) : Grow J B H (upd B p o) (upd H p o) :=
  ⟨upd_same_of (h.free n), same_upd2 h n, fun b x _ e => upd_same_of n b x e, fun b e => by
    by_cases hb : b = p
    · subst hb; rw [upd_same]; simp
    · rw [upd_ne hb]; exact e, fun b e => upd_ne (fun z => e (by rw [z]; exact n))⟩
/-- a new object of one's own -/
theorem Grow.fresh (h : Same B H) (n : H p = none) : Grow J B H B (upd H p o) :=
  ⟨.refl _, fun b x e => by rw [upd_ne (ne_of_none (h b x e) n)]; exact h b x e, fun b x _ e => upd_same_of n b x e, fun b e => by
    by_cases hb : b = p
    · subst hb; rw [upd_same]; simp
    · rw [upd_ne hb]; exact e, fun _ _ => rfl⟩
theorem Own.new (w : Own J B H) (n : H p = none) : Own J (upd B p o) (upd H p o) := fun a e => by
  obtain ⟨h1, l, m, c, h0, h2⟩ := w a e
  have ne : a ≠ p := ne_of_none h2 n
  exact ⟨by rw [upd_ne ne]; exact h1, l, m, c, h0, by rw [upd_ne ne]; exact h2⟩
theorem Own.fresh (w : Own J B H) (n : H p = none) : Own J B (upd H p o) := fun a e => by
  obtain ⟨h1, l, m, c, h0, h2⟩ := w a e
  have ne : a ≠ p := ne_of_none h2 n
  exact ⟨h1, l, m, c, h0, by rw [upd_ne ne]; exact h2⟩
theorem Own.no (w : Own J B H) (n : H p = none) : J ≠ some p := fun e => by
  obtain ⟨_, l, m, c, _, h2⟩ := w p e
  rw [n] at h2; cases h2
end

/-! ### slots and values -/
inductive S where
  | no | val (d : D) | own (ds : List D) | dice
def RS (K : PySem.W.Frag) (J : Option Addr) (H0 B H : Hp) : S → Option V → Prop
  | .no, _ => True
  | .val d, o => ∃ v, o = some v ∧ Rep K B d v
  | .own ds, o => ∃ a xs, o = some (.ref a) ∧ H0 a = none ∧ B a = none ∧ H a = some (.lst xs) ∧ Reps K B ds xs
  | .dice, o => ∃ a, o = some (.ref a) ∧ J = some a
structure Env (K : PySem.W.Frag) (J : Option Addr) (B0 H0 B H : Hp) (σ : L2.St) (δ : List S) : Prop where
  gr : Grow J B0 H0 B H
  ow : Own J B H
  jn : ∀ a, J = some a → H0 a ≠ none
  ln : δ.length = σ.length
  sl : ∀ (i : Nat) (s : S), δ[i]? = some s → RS K J H0 B H s ((σ[i]?).getD none)
  ap : ∀ (i j : Nat) (ds es : List D) (a : Addr), i ≠ j → δ[i]? = some (.own ds) → δ[j]? = some (.own es) → σ[i]? = some (some (.ref a)) → σ[j]? = some (some (.ref a)) → False

inductive DV where
  | c (d : D) | f (ds : List D) | o (i : Nat) | j
def RepV (K : PySem.W.Frag) (J : Option Addr) (Hs B H : Hp) (σ : L2.St) (δ : List S) : DV → V → Prop
  | .c d, v => Rep K B d v
  | .f ds, v => ∃ a xs, v = .ref a ∧ Hs a = none ∧ B a = none ∧ H a = some (.lst xs) ∧ Reps K B ds xs
  | .o i, v => (∃ ds, δ[i]? = some (.own ds)) ∧ σ[i]? = some (some v)
  | .j, v => ∃ a, J = some a ∧ v = .ref a
/-- the data that is read -/
def rd (δ : List S) : DV → Option D
  | .c d => some d
  | .f ds => some (.lst ds)
  | .o i => match δ[i]? with
    | some (.own ds) => some (.lst ds)
    | _ => none
  | .j => none
/-- .. that may be kept -/
def cl : DV → Option D
  | .c d => some d
  | .f ds => some (.lst ds)
  | _ => none
/-- d is read at v: known, or a list at H with known items -/
def RepT (K : PySem.W.Frag) (J : Option Addr) (B H : Hp) (d : D) (v : V) : Prop :=
  Rep K B d v ∨ ∃ ds a xs, d = .lst ds ∧ v = .ref a ∧ J ≠ some a ∧ H a = some (.lst xs) ∧ Reps K B ds xs
section
variable {K : PySem.W.Frag} {J : Option Addr} {B0 H0 B H B' H' Hs : Hp} {σ : L2.St} {δ : List S} {d : D} {v : V}
theorem RepT.step (g : Grow J B H B' H') (h : RepT K J B H d v) : RepT K J B' H' d v := by
  rcases h with h | ⟨ds, a, xs, rfl, rfl, n, h1, h2⟩
  · exact .inl (h.mono g.bb)
  · exact .inr ⟨ds, a, xs, rfl, rfl, n, g.hh a _ n h1, h2.mono g.bb⟩
theorem RepT.lst {ds : List D} (s : Same B H) (h : RepT K J B H (.lst ds) v) : ∃ a xs, v = .ref a ∧ H a = some (.lst xs) ∧ Reps K B ds xs := by
  rcases h with h | ⟨ds', a, xs, e, rfl, n, h1, h2⟩
  · rw [Rep] at h; obtain ⟨a, xs, rfl, h1, h2⟩ := h; exact ⟨a, xs, rfl, s _ _ h1, h2⟩
  · cases e; exact ⟨a, xs, rfl, h1, h2⟩
theorem RepT.rep (nl : ∀ ds, d ≠ .lst ds) (h : RepT K J B H d v) : Rep K B d v := by
  rcases h with h | ⟨ds', a, xs, e, _⟩
  · exact h
  · exact absurd e (nl _)
theorem RepT.tup {ds : List D} (s : Same B H) (h : RepT K J B H (.tup ds) v) : ∃ a xs, v = .ref a ∧ SqT K B a xs ∧ SqT K H a xs ∧ Reps K B ds xs := by
  have h := h.rep (fun _ => by simp)
  rw [Rep] at h; obtain ⟨a, xs, rfl, h1, h2⟩ := h; exact ⟨a, xs, rfl, h1, same_sqT s h1, h2⟩
theorem RepT.int {i : Int} (h : RepT K J B H (.int i) v) : v = .int i := by
  have h := h.rep (fun _ => by simp); rw [Rep] at h; exact h
theorem RepT.bl {b : Bool} (h : RepT K J B H (.bl b) v) : v = .bl b := by
  have h := h.rep (fun _ => by simp); rw [Rep] at h; exact h
theorem RepT.str {b : Str} (h : RepT K J B H (.str b) v) : v = .str b := by
  have h := h.rep (fun _ => by simp); rw [Rep] at h; exact h
theorem RepT.non (h : RepT K J B H .non v) : v = .non := by
  have h := h.rep (fun _ => by simp); rw [Rep] at h; exact h

theorem Env.bh (e : Env K J B0 H0 B H σ δ) : Same B H := e.gr.bh
theorem Env.slot {i : Nat} {s : S} (e : Env K J B0 H0 B H σ δ) (h : δ[i]? = some s) : ∃ o, σ[i]? = some o ∧ RS K J H0 B H s o := by
  have hi : i < σ.length := by rw [← e.ln]; exact (List.getElem?_eq_some_iff.mp h).1
  have := e.sl i s h
  rw [List.getElem?_eq_getElem hi] at this
  exact ⟨σ[i], List.getElem?_eq_getElem hi, this⟩
theorem Env.ownJ {i : Nat} {ds : List D} (e : Env K J B0 H0 B H σ δ) (h : δ[i]? = some (.own ds)) : ∃ a xs, σ[i]? = some (some (.ref a)) ∧ H0 a = none ∧ B a = none ∧ H a = some (.lst xs) ∧ Reps K B ds xs ∧ J ≠ some a := by
  obtain ⟨o, e1, a, xs, rfl, n0, nB, hH, r⟩ := e.slot h
  exact ⟨a, xs, e1, n0, nB, hH, r, fun z => e.jn a z n0⟩
/-- behind an expression -/
theorem Env.step (e : Env K J B0 H0 B H σ δ) (g : Grow J B H B' H') (w : Own J B' H') : Env K J B0 H0 B' H' σ δ := by
  refine ⟨e.gr.trans g, w, e.jn, e.ln, fun i s h => ?_, e.ap⟩
  have q := e.sl i s h
  cases s with
  | no => trivial
  | val d => obtain ⟨v, e1, r⟩ := q; exact ⟨v, e1, r.mono g.bb⟩
  | dice => exact q
  | own ds =>
    obtain ⟨a, xs, e1, n0, nB, hH, r⟩ := q
    have nj : J ≠ some a := fun z => e.jn a z n0
    exact ⟨a, xs, e1, n0, by rw [g.fr a (by rw [hH]; simp)]; exact nB, g.hh a _ nj hH, r.mono g.bb⟩
/-- no dice are new -/
abbrev NoD (J : Option Addr) (Hs : Hp) : Prop := ∀ a, J = some a → Hs a ≠ none
theorem Env.nod (e : Env K J B0 H0 B H σ δ) : NoD J H := fun a z => e.gr.ne a (e.jn a z)
/-- what is read -/
theorem RepV.toT {x : DV} (e : Env K J B0 H0 B H σ δ) (ws : NoD J Hs) (h : RepV K J Hs B H σ δ x v) (hr : rd δ x = some d) : RepT K J B H d v := by
  cases x with
  | c d' => cases hr; exact .inl h
  | f ds =>
    cases hr
    obtain ⟨a, xs, rfl, nS, nB, hH, r⟩ := h
    exact .inr ⟨ds, a, xs, rfl, rfl, fun z => ws a z nS, hH, r⟩
  | o i =>
    obtain ⟨⟨ds, hd⟩, hs⟩ := h
    have : d = .lst ds := by simp only [rd, hd] at hr; cases hr; rfl
    subst this
    obtain ⟨a, xs, e1, n0, nB, hH, r, nj⟩ := e.ownJ hd
    rw [hs] at e1; cases e1
    exact .inr ⟨ds, a, xs, rfl, rfl, nj, hH, r⟩
  | j => cases hr
theorem RepV.step {x : DV} (ws : NoD J Hs) (g : Grow J B H B' H') (h : RepV K J Hs B H σ δ x v) : RepV K J Hs B' H' σ δ x v := by
  cases x with
  | c d' => exact Rep.mono g.bb h
  | f ds =>
    obtain ⟨a, xs, rfl, nS, nB, hH, r⟩ := h
    exact ⟨a, xs, rfl, nS, by rw [g.fr a (by rw [hH]; simp)]; exact nB, g.hh a _ (fun z => ws a z nS) hH, r.mono g.bb⟩
  | o i => exact h
  | j => exact h
/-- what is kept is known from now on -/
theorem RepV.keep {x : DV} (ws : NoD J Hs) (g : Grow J B Hs B' H') (w : Own J B' H') (h : RepV K J Hs B' H' σ δ x v) (hc : cl x = some d) :
    ∃ B2, Grow J B Hs B2 H' ∧ Own J B2 H' ∧ Same B' B2 ∧ Rep K B2 d v ∧ ∀ b, (∀ ds, x = .f ds → v ≠ .ref b) → B2 b = B' b := by
  cases x with
  | c d' => cases hc; exact ⟨B', g, w, .refl _, h, fun _ _ => rfl⟩
  | f ds =>
    cases hc
    obtain ⟨a, xs, rfl, nS, nB, hH, r⟩ := h
    have sm : Same B' (upd B' a (.lst xs)) := upd_same_of nB
    refine ⟨upd B' a (.lst xs), ⟨g.bb.trans sm, fun b o e => ?_, g.hh, g.ne, fun b e => ?_⟩, fun b e => ?_, sm, ?_, fun b hb => ?_⟩
    · by_cases hb : b = a
      · subst hb; rw [upd_same] at e; cases e; exact hH
      · rw [upd_ne hb] at e; exact g.bh b o e
    · rw [upd_ne (fun z => e (by rw [z]; exact nS))]; exact g.fr b e
    · obtain ⟨h1, l, m, c, h0, h2⟩ := w b e
      have hb : b ≠ a := fun z => ws b e (by rw [z]; exact nS)
      exact ⟨by rw [upd_ne hb]; exact h1, l, m, c, h0, h2⟩
    · rw [Rep]; exact ⟨a, xs, rfl, upd_same, r.mono sm⟩
    · exact upd_ne (fun z => hb ds rfl (by rw [z]))
  | o i => cases hc
  | j => cases hc
/-- several values: new lists among them are unlike -/
def RepVs (K : PySem.W.Frag) (J : Option Addr) (Hs B H : Hp) (σ : L2.St) (δ : List S) : List DV → List V → Prop
  | [], vs => vs = []
  | x :: xs, vs => ∃ v r, vs = v :: r ∧ RepV K J Hs B H σ δ x v ∧ RepVs K J Hs B H σ δ xs r ∧ ∀ ds, x = .f ds → ∀ (j : Nat) es, xs[j]? = some (.f es) → r[j]? ≠ some v
theorem RepVs.at {xs : List DV} : ∀ {vs : List V} {j : Nat} {x : DV}, RepVs K J Hs B H σ δ xs vs → xs[j]? = some x → ∃ v, vs[j]? = some v ∧ RepV K J Hs B H σ δ x v := by
  induction xs with
  | nil => intro vs j x _ e; simp at e
  | cons y ys ih =>
    intro vs j x h e
    obtain ⟨v, r, rfl, h1, h2, _⟩ := h
    cases j with
    | zero => simp at e; subst e; exact ⟨v, rfl, h1⟩
    | succ j => obtain ⟨u, e1, e2⟩ := ih h2 (j := j) (x := x) (by simpa using e); exact ⟨u, by simpa using e1, e2⟩
/-- seen from an earlier heap -/
theorem RepVs.back {xs : List DV} (hs : ∀ b, Hs b ≠ none → H' b ≠ none) : ∀ {vs : List V}, RepVs K J H' B H σ δ xs vs → RepVs K J Hs B H σ δ xs vs := by
  induction xs with
  | nil => intro vs h; exact h
  | cons y ys ih =>
    intro vs h
    obtain ⟨v, r, rfl, h1, h2, h3⟩ := h
    refine ⟨v, r, rfl, ?_, ih h2, h3⟩
    cases y with
    | f ds =>
      obtain ⟨a, xs, rfl, nS, q⟩ := h1
      refine ⟨a, xs, rfl, ?_, q⟩
      exact Classical.byContradiction fun z => hs a z nS
    | c d => exact h1
    | o i => exact h1
    | j => exact h1
def cls : List DV → Option (List D)
  | [] => some []
  | x :: xs => match cl x, cls xs with
    | some d, some ds => some (d :: ds)
    | _, _ => none
def rds (δ : List S) : List DV → Option (List D)
  | [] => some []
  | x :: xs => match rd δ x, rds δ xs with
    | some d, some ds => some (d :: ds)
    | _, _ => none
theorem RepVs.keep {xs : List DV} (ws : NoD J Hs) : ∀ {vs : List V} {ds : List D}, Grow J B Hs B' H' → Own J B' H' → RepVs K J Hs B' H' σ δ xs vs → cls xs = some ds →
    ∃ B2, Grow J B Hs B2 H' ∧ Own J B2 H' ∧ Same B' B2 ∧ Reps K B2 ds vs ∧ ∀ b, (∀ (j : Nat) es, xs[j]? = some (.f es) → vs[j]? ≠ some (.ref b)) → B2 b = B' b := by
  induction xs with
  | nil => intro vs ds g w h e; cases e; cases (show vs = [] from h); exact ⟨B', g, w, .refl _, .nil, fun _ _ => rfl⟩
  | cons x xs ih =>
    intro vs ds g w h e
    obtain ⟨v, r, rfl, h1, h2, h3⟩ := h
    unfold cls at e
    cases hx : cl x with
    | none => rw [hx] at e; cases e
    | some d =>
      cases hxs : cls xs with
      | none => rw [hx, hxs] at e; cases e
      | some ds' =>
        rw [hx, hxs] at e; cases e
        obtain ⟨B2, g2, w2, s2, r2, f2⟩ := ih g w h2 hxs
        have h1' : RepV K J Hs B2 H' σ δ x v := by
          cases x with
          | c d' => exact Rep.mono s2 h1
          | f es =>
            obtain ⟨a, ys, rfl, nS, nB, hH, q⟩ := h1
            exact ⟨a, ys, rfl, nS, by rw [f2 a fun j es' e1 e2 => h3 _ rfl j es' e1 e2]; exact nB, hH, q.mono s2⟩
          | o i => exact h1
          | j => exact h1
        obtain ⟨B3, g3, w3, s3, r3, f3⟩ := h1'.keep ws g2 w2 hx
        refine ⟨B3, g3, w3, s2.trans s3, .cons r3 (r2.mono s3), fun b hb => ?_⟩
        rw [f3 b fun es e1 e2 => hb 0 es (by simp [e1]) (by simp [e2]), f2 b fun j es e1 e2 => hb (j + 1) es (by simpa using e1) (by simpa using e2)]
/-- several values read -/
def RepTs (K : PySem.W.Frag) (J : Option Addr) (B H : Hp) : List D → List V → Prop
  | [], vs => vs = []
  | d :: ds, vs => ∃ v r, vs = v :: r ∧ RepT K J B H d v ∧ RepTs K J B H ds r
theorem RepVs.toT {xs : List DV} (e : Env K J B0 H0 B H σ δ) (ws : NoD J Hs) : ∀ {vs : List V} {ds : List D}, RepVs K J Hs B H σ δ xs vs → rds δ xs = some ds → RepTs K J B H ds vs := by
  induction xs with
  | nil => intro vs ds h q; cases q; exact h
  | cons x xs ih =>
    intro vs ds h q
    obtain ⟨v, r, rfl, h1, h2, _⟩ := h
    unfold rds at q
    cases hx : rd δ x with
    | none => rw [hx] at q; cases q
    | some d =>
      cases hxs : rds δ xs with
      | none => rw [hx, hxs] at q; cases q
      | some ds' =>
        rw [hx, hxs] at q; cases q
        exact ⟨v, r, rfl, h1.toT e ws hx, ih h2 hxs⟩
end
end Dl
namespace Dl
open PySem PySem.Spec PyProof.Rows L2

/-! ### the judgements over data -/
abbrev DE := List S → (DV → Prop) → Prop
abbrev DT := List S → (Bool → Prop) → Prop
abbrev DA := List S → (List DV → Prop) → Prop
structure DEnds where
  nx : List S → Prop
  rt : List S → DV → Prop
  bk : List S → Prop := fun _ => False
  ct : List S → Prop := fun _ => False
abbrev DS := DEnds → List S → Prop

def EvE (K : PySem.W.Frag) (te : TE) (w : DE) : Prop := ∀ ⦃J : Option Addr⦄ ⦃B0 H0 B H : Hp⦄ ⦃σ : L2.St⦄ ⦃δ : List S⦄, Env K J B0 H0 B H σ δ → ∀ k : DV → Prop, w δ k → ∀ Q : VK,
  (∀ x v B' H', k x → Grow J B H B' H' → Own J B' H' → RepV K J H B' H' σ δ x v → Q v H') → te σ H Q
def EvT (K : PySem.W.Frag) (tt : TT) (w : DT) : Prop := ∀ ⦃J : Option Addr⦄ ⦃B0 H0 B H : Hp⦄ ⦃σ : L2.St⦄ ⦃δ : List S⦄, Env K J B0 H0 B H σ δ → ∀ k : Bool → Prop, w δ k → ∀ Q : Bool → Hp → Prop,
  (∀ b B' H', k b → Grow J B H B' H' → Own J B' H' → Q b H') → tt σ H Q
def EvA (K : PySem.W.Frag) (ta : TA) (w : DA) : Prop := ∀ ⦃J : Option Addr⦄ ⦃B0 H0 B H : Hp⦄ ⦃σ : L2.St⦄ ⦃δ : List S⦄, Env K J B0 H0 B H σ δ → ∀ k : List DV → Prop, w δ k → ∀ Q : List V → Hp → Prop,
  (∀ xs vs B' H', k xs → Grow J B H B' H' → Own J B' H' → RepVs K J H B' H' σ δ xs vs → Q vs H') → ta σ H Q
structure Fits (K : PySem.W.Frag) (J : Option Addr) (B0 H0 : Hp) (R : DEnds) (En : Ends) : Prop where
  nx : ∀ {B H : Hp} {σ : L2.St} {δ : List S}, R.nx δ → Env K J B0 H0 B H σ δ → En.nx σ H
  rt : ∀ {d : DV} {v : V} {B H : Hp} {σ : L2.St} {δ : List S}, R.rt δ d → Env K J B0 H0 B H σ δ → RepV K J H0 B H [] [] d v → En.rt v H
  bk : ∀ {B H : Hp} {σ : L2.St} {δ : List S}, R.bk δ → Env K J B0 H0 B H σ δ → En.bk σ H
  ct : ∀ {B H : Hp} {σ : L2.St} {δ : List S}, R.ct δ → Env K J B0 H0 B H σ δ → En.ct σ H
def EvS (K : PySem.W.Frag) (t : TS) (w : DS) : Prop := ∀ ⦃J : Option Addr⦄ ⦃B0 H0 B H : Hp⦄ ⦃σ : L2.St⦄ ⦃δ : List S⦄, Env K J B0 H0 B H σ δ → ∀ R : DEnds, w R δ → ∀ En : Ends, Fits K J B0 H0 R En → t En σ H

structure De (X : Cx) (e : Expr) (w : DE) : Prop where
  ex : ∃ t, PE X e t ∧ EvE X.K t w
structure Dt (X : Cx) (e : Expr) (w : DT) : Prop where
  ex : ∃ t, PT X e t ∧ EvT X.K t w
structure Dw (X : Cx) (e : Expr) (w : DT) : Prop where
  ex : ∃ t, PW X e t ∧ EvT X.K t w
structure Da (X : Cx) (es : List Expr) (w : DA) : Prop where
  ex : ∃ t, PA X es t ∧ EvA X.K t w
structure Ds (X : Cx) (st : Stmt) (w : DS) : Prop where
  ex : ∃ t, PS X st t ∧ EvS X.K t w
structure Dss (X : Cx) (sts : List Stmt) (w : DS) : Prop where
  ex : ∃ t, PSs X sts t ∧ EvS X.K t w

section
variable {X : Cx} {e a b c : Expr} {pos : Pos}

/-! ### names and constants -/
def wVar (i : Nat) : DE := fun δ k => match δ[i]? with
  | some (.val d) => k (.c d)
  | some (.own _) => k (.o i)
  | some .dice => k .j
  | _ => False
theorem ev_var {K : PySem.W.Frag} (i : Nat) : EvE K (tVar i) (wVar i) := by
  intro J B0 H0 B H σ δ e k h Q q
  unfold wVar at h
  cases hs : δ[i]? with
  | none => rw [hs] at h; exact h.elim
  | some s =>
    rw [hs] at h
    obtain ⟨o, e1, r⟩ := e.slot hs
    cases s with
    | no => exact h.elim
    | val d =>
      obtain ⟨v, rfl, r⟩ := r
      exact ⟨v, e1, q (.c d) v B H h (.refl e.bh) e.ow r⟩
    | own ds =>
      obtain ⟨a, xs, rfl, _⟩ := r
      exact ⟨_, e1, q (.o i) _ B H h (.refl e.bh) e.ow ⟨⟨ds, hs⟩, e1⟩⟩
    | dice =>
      obtain ⟨a, rfl, hj⟩ := r
      exact ⟨_, e1, q .j _ B H h (.refl e.bh) e.ow ⟨a, hj, rfl⟩⟩
theorem de_var (i : Nat) {x : Str} {pos : Pos} (hN : X.N[i]? = some x := by rfl) (hv : Vis X.env.scope x := by first | exact Or.inl rfl | exact Or.inr (Or.inl rfl) | exact Or.inr (Or.inr rfl)) (hd : (x == ("__debug__" : Str)) = false := by decide)
    (hcd : (x == ("__classdict__" : Str)) = false := by decide) : De X (.Name x pos) (wVar i) := ⟨_, pv i hN hv hd hcd, ev_var i⟩
def wC (d : D) : DE := fun _ k => k (.c d)
theorem ev_c {K : PySem.W.Frag} {v : V} {d : D} (r : ∀ B : Hp, Rep K B d v) : EvE K (tC v) (wC d) := by
  intro J B0 H0 B H σ δ e k h Q q
  exact q (.c d) v B H h (.refl e.bh) e.ow (r B)
theorem de_int {i j pos} : De X (.Constant (.int i) j pos) (wC (.int i)) := ⟨_, pe_int, ev_c fun _ => by rw [Rep]⟩
theorem de_bl {b j pos} : De X (.Constant (.bool b) j pos) (wC (.bl b)) := ⟨_, pe_bl, ev_c fun _ => by rw [Rep]⟩
theorem de_non {j pos} : De X (.Constant .none j pos) (wC .non) := ⟨_, pe_non, ev_c fun _ => by rw [Rep]⟩
theorem de_str {x j pos} : De X (.Constant (.str x) j pos) (wC (.str x)) := ⟨_, pe_str, ev_c fun _ => by rw [Rep]⟩
theorem de_glob {x : Str} {pos : Pos} {u : Value} {i : Int} (hg : Gl X x) (hm : X.mg x = some u) (r : RelV (.int i) u) (hd : (x == ("__debug__" : Str)) = false := by decide) : De X (.Name x pos) (wC (.int i)) := ⟨_, pe_glob hg hm r hd, ev_c fun _ => by rw [Rep]⟩
theorem de_ty {x : Str} {pos : Pos} {n : String} (hg : Gl X x) (hm : X.mg x = none) (hv : bootBuiltins x = some (.type n)) (hn : x ≠ "__name__" := by decide) (hd : (x == ("__debug__" : Str)) = false := by decide) : De X (.Name x pos) (wC (.ty n)) := ⟨_, pe_bltn (v := .ty n) hg hm hv rfl hn hd, ev_c fun _ => by rw [Rep]⟩

/-! ### operators by values -/
/-- results: d and e read, then what comes -/
abbrev R2D := D → D → (DV → Prop) → Prop
def DOp (K : PySem.W.Frag) (ρ : R2) (r : R2D) : Prop := ∀ ⦃J : Option Addr⦄ ⦃B H : Hp⦄ ⦃d e : D⦄ ⦃k : DV → Prop⦄ ⦃x y : V⦄ ⦃Q : VK⦄, r d e k → Same B H → Own J B H → RepT K J B H d x → RepT K J B H e y →
  (∀ z v B' H', k z → Grow J B H B' H' → Own J B' H' → (∀ σ δ, RepV K J H B' H' σ δ z v) → Q v H') → ρ x y H Q
def wOp (r : R2D) (wa wb : DE) : DE := fun δ k => wa δ fun x => wb δ fun y => ∃ d e, rd δ x = some d ∧ rd δ y = some e ∧ r d e k
/-- what is new from a later heap is new from an earlier one -/
theorem RepV.back {K : PySem.W.Frag} {J : Option Addr} {Hs H1 B H : Hp} {σ : L2.St} {δ : List S} {x : DV} {v : V} (hs : ∀ b, Hs b ≠ none → H1 b ≠ none) (h : RepV K J H1 B H σ δ x v) : RepV K J Hs B H σ δ x v := by
  cases x with
  | f ds => obtain ⟨a, xs, rfl, nS, q⟩ := h; exact ⟨a, xs, rfl, Classical.byContradiction fun z => hs a z nS, q⟩
  | c d => exact h
  | o i => exact h
  | j => exact h
theorem ev_op {K : PySem.W.Frag} {ta tb : TE} {wa wb : DE} {ρ : R2} {r : R2D} (ho : DOp K ρ r) (ha : EvE K ta wa) (hb : EvE K tb wb) : EvE K (tOp ρ ta tb) (wOp r wa wb) := by
  intro J B0 H0 B H σ δ e k h Q q
  refine ha e _ h _ fun x v B1 H1 h1 g1 w1 r1 => ?_
  have e1 := e.step g1 w1
  refine hb e1 _ h1 _ fun y u B2 H2 h2 g2 w2 r2 => ?_
  have e2 := e1.step g2 w2
  obtain ⟨d, d', rx, ry, h2⟩ := h2
  have t1 := (r1.toT e1 e.nod rx).step g2
  have t2 := r2.toT e2 e1.nod ry
  exact ho h2 e2.bh w2 t1 t2 fun z v' B' H' kz g w r => q z v' B' H' kz ((g1.trans g2).trans g) w ((r σ δ).back fun b hb => g2.ne b (g1.ne b hb))
theorem de_op {op : Operator} {ρ : R2} {r : R2D} {wa wb : DE} (ho : OpR X (binaryOp op) ρ) (hd : DOp X.K ρ r) (ha : De X a wa) (hb : De X b wb) : De X (.BinOp a op b pos) (wOp r wa wb) := by
  obtain ⟨ta, pa, va⟩ := ha.ex
  obtain ⟨tb, pb, vb⟩ := hb.ex
  exact ⟨_, pe_op ho pa pb, ev_op hd va vb⟩
theorem de_cmp {op : CmpOp} {ρ : R2} {r : R2D} {wa wb : DE} (ho : OpR X (compareOp op) ρ) (hd : DOp X.K ρ r) (ha : De X a wa) (hb : De X b wb) (hm : behindInMarks op b = false := by first | exact nomark _ | with_unfolding_all rfl) : De X (.Compare a [op] [b] pos) (wOp r wa wb) := by
  obtain ⟨ta, pa, va⟩ := ha.ex
  obtain ⟨tb, pb, vb⟩ := hb.ex
  exact ⟨_, pe_cmpR ho pa pb hm, ev_op hd va vb⟩
theorem de_ix {ρ : R2} {r : R2D} {wa wb : DE} (ho : IxR X ρ) (hd : DOp X.K ρ r) (ha : De X a wa) (hb : De X b wb) (hs : PlainIx b := by exact fun _ _ => rfl) : De X (.Subscript a b pos) (wOp r wa wb) := by
  obtain ⟨ta, pa, va⟩ := ha.ex
  obtain ⟨tb, pb, vb⟩ := hb.ex
  exact ⟨_, pe_ix ho pa pb hs, ev_op hd va vb⟩

/-- a scalar comes -/
theorem fin_c {K : PySem.W.Frag} {J : Option Addr} {B H : Hp} {d : D} {v : V} {k : DV → Prop} {Q : VK} (h : k (.c d)) (s : Same B H) (w : Own J B H) (r : Rep K B d v)
    (q : ∀ z v B' H', k z → Grow J B H B' H' → Own J B' H' → (∀ σ δ, RepV K J H B' H' σ δ z v) → Q v H') : Q v H := q (.c d) v B H h (.refl s) w fun _ _ => r
/-- a new tuple comes -/
theorem fin_tup {K : PySem.W.Frag} {J : Option Addr} {B H : Hp} {ds : List D} {xs : List V} {k : DV → Prop} {Q : VK} {p : Addr} (n : H p = none) (h : k (.c (.tup ds))) (s : Same B H) (w : Own J B H) (r : Reps K B ds xs)
    (q : ∀ z v B' H', k z → Grow J B H B' H' → Own J B' H' → (∀ σ δ, RepV K J H B' H' σ δ z v) → Q v H') : Q (.ref p) (upd H p (.tup xs)) :=
  q (.c (.tup ds)) _ (upd B p (.tup xs)) _ h (.new s n) (w.new n) fun _ _ => by
    show Rep K _ _ _
    rw [Rep]
    exact ⟨p, xs, rfl, .inl (.inl upd_same), r.mono (upd_same_of (s.free n))⟩
/-- a new list comes -/
theorem fin_lst {K : PySem.W.Frag} {J : Option Addr} {B H : Hp} {ds : List D} {xs : List V} {k : DV → Prop} {Q : VK} {p : Addr} (n : H p = none) (h : k (.f ds)) (s : Same B H) (w : Own J B H) (r : Reps K B ds xs)
    (q : ∀ z v B' H', k z → Grow J B H B' H' → Own J B' H' → (∀ σ δ, RepV K J H B' H' σ δ z v) → Q v H') : Q (.ref p) (upd H p (.lst xs)) :=
  q (.f ds) _ B _ h (.fresh s n) (w.fresh n) fun _ _ => ⟨p, xs, rfl, n, s.free n, upd_same, r⟩
theorem sz5 {n : Nat} (h : n ≤ 100000) : n ≤ sizeLine := Nat.le_trans h (by decide)

/-! #### ints -/
def rII (g : Int → Int → D) : R2D := fun d e k => match d, e with
  | .int i, .int j => k (.c (g i j))
  | _, _ => False
def rIIC (C : Int → Int → Prop) (g : Int → Int → D) : R2D := fun d e k => match d, e with
  | .int i, .int j => C i j ∧ k (.c (g i j))
  | _, _ => False
def DV0 : D → V
  | .int i => .int i
  | .bl b => .bl b
  | _ => .non
theorem dop_I0 {K : PySem.W.Frag} {g : Int → Int → D} {g' : Int → Int → V} (hg : ∀ i j B, Rep K B (g i j) (g' i j)) : DOp K (rI0 g') (rII g) := by
  intro J B H d e k x y Q h s w tx ty q
  unfold rII at h
  cases d <;> try exact h.elim
  cases e <;> try exact h.elim
  cases tx.int
  cases ty.int
  exact ⟨_, _, rfl, rfl, fin_c h s w (hg _ _ _) q⟩
theorem dop_I {K : PySem.W.Frag} {C C' : Int → Int → Prop} {g : Int → Int → D} {g' : Int → Int → V} (hc : ∀ i j, C i j → C' i j) (hg : ∀ i j B, C i j → Rep K B (g i j) (g' i j)) : DOp K (rI C' g') (rIIC C g) := by
  intro J B H d e k x y Q h s w tx ty q
  unfold rIIC at h
  cases d <;> try exact h.elim
  cases e <;> try exact h.elim
  cases tx.int
  cases ty.int
  exact ⟨_, _, rfl, rfl, hc _ _ h.1, fin_c h.2 s w (hg _ _ _ h.1) q⟩
theorem DOp.or {K : PySem.W.Frag} {ρ ρ' : R2} {r r' : R2D} (h : DOp K ρ r) (h' : DOp K ρ' r') : DOp K (fun x y H Q => ρ x y H Q ∨ ρ' x y H Q) (fun d e k => r d e k ∨ r' d e k) := by
  intro J B H d e k x y Q hr s w tx ty q
  rcases hr with hr | hr
  · exact .inl (h hr s w tx ty q)
  · exact .inr (h' hr s w tx ty q)
theorem DOp.imp {K : PySem.W.Frag} {ρ : R2} {r r' : R2D} (h : DOp K ρ r) (hi : ∀ d e k, r' d e k → r d e k) : DOp K ρ r' := by
  intro J B H d e k x y Q hr s w tx ty q
  exact h (hi _ _ _ hr) s w tx ty q
/-! #### + of tuples, of lists -/
def rTT : R2D := fun d e k => match d, e with
  | .tup a, .tup b => a.length + b.length ≤ 100000 ∧ k (.c (.tup (a ++ b)))
  | _, _ => False
theorem dop_TT {K : PySem.W.Frag} : DOp K (rCatA K) rTT := by
  intro J B H d e k x y Q h s w tx ty q
  unfold rTT at h
  cases d <;> try exact h.elim
  rename_i ds
  cases e <;> try exact h.elim
  rename_i es
  obtain ⟨hz, h⟩ := h
  obtain ⟨a, xs, rfl, aB, aH, ra⟩ := tx.tup s
  obtain ⟨b, ys, rfl, bB, bH, rb⟩ := ty.tup s
  have l1 := ra.len
  have l2 := rb.len
  refine ⟨a, b, xs, ys, rfl, rfl, aH, bH, sz5 (by omega), fun e => ?_, fun n e => ?_, fun n n2 p hp => ?_⟩
  · subst e
    have : ds = [] := List.eq_nil_of_length_eq_zero (by rw [← l1]; rfl)
    subst this
    exact fin_c h s w (by rw [List.nil_append, Rep]; exact ⟨b, ys, rfl, bB, rb⟩) q
  · subst e
    have : es = [] := List.eq_nil_of_length_eq_zero (by rw [← l2]; rfl)
    subst this
    exact fin_c h s w (by rw [List.append_nil, Rep]; exact ⟨a, xs, rfl, aB, ra⟩) q
  · exact fin_tup hp h s w (ra.append rb) q
def rLL : R2D := fun d e k => match d, e with
  | .lst a, .lst b => a.length + b.length ≤ 100000 ∧ k (.f (a ++ b))
  | _, _ => False
theorem dop_LL {K : PySem.W.Frag} : DOp K rCat rLL := by
  intro J B H d e k x y Q h s w tx ty q
  unfold rLL at h
  cases d <;> try exact h.elim
  cases e <;> try exact h.elim
  obtain ⟨hz, h⟩ := h
  obtain ⟨a, xs, rfl, aH, ra⟩ := tx.lst s
  obtain ⟨b, ys, rfl, bH, rb⟩ := ty.lst s
  have l1 := ra.len
  have l2 := rb.len
  exact ⟨a, b, xs, ys, rfl, rfl, aH, bH, sz5 (by omega), fun p hp => fin_lst hp h s w (ra.append rb) q⟩
/-- + -/
def rPlus : R2D := fun d e k => match d, e with
  | .int i, .int j => k (.c (.int (i + j)))
  | .tup a, .tup b => a.length + b.length ≤ 100000 ∧ k (.c (.tup (a ++ b)))
  | .lst a, .lst b => a.length + b.length ≤ 100000 ∧ k (.f (a ++ b))
  | _, _ => False
theorem dop_plus {K : PySem.W.Frag} : DOp K (fun x y H Q => rI0 (fun i j => .int (i + j)) x y H Q ∨ (rCatA K x y H Q ∨ rCat x y H Q)) rPlus := by
  refine ((dop_I0 (g := fun i j => .int (i + j)) fun i j B => by rw [Rep]).or (dop_TT.or dop_LL)).imp fun d e k h => ?_
  unfold rPlus at h
  split at h
  · exact .inl h
  · exact .inr (.inl h)
  · exact .inr (.inr h)
  · exact h.elim
theorem de_add {wa wb : DE} (ha : De X a wa) (hb : De X b wb) : De X (.BinOp a .Add b pos) (wOp rPlus wa wb) :=
  de_op (op_add.or (op_catA.or op_cat)) dop_plus ha hb
theorem de_sub {wa wb : DE} (ha : De X a wa) (hb : De X b wb) : De X (.BinOp a .Sub b pos) (wOp (rII fun i j => .int (i - j)) wa wb) :=
  de_op op_sub (dop_I0 fun i j B => by rw [Rep]) ha hb
/-! #### * -/
def rRepD : R2D := fun d e k => match d, e with
  | .lst a, .int n => 0 ≤ n ∧ n ≤ 100000 ∧ a.length * n.toNat ≤ 100000 ∧ k (.f (List.replicate n.toNat a).flatten)
  | _, _ => False
theorem dop_rep {K : PySem.W.Frag} : DOp K rRep rRepD := by
  intro J B H d e k x y Q h s w tx ty q
  unfold rRepD at h
  cases d <;> try exact h.elim
  cases e <;> try exact h.elim
  obtain ⟨h0, h1, h2, h⟩ := h
  obtain ⟨a, xs, rfl, aH, ra⟩ := tx.lst s
  cases ty.int
  have l1 := ra.len
  exact ⟨a, _, xs, rfl, rfl, aH, by omega, by omega, sz5 (by rw [l1]; exact h2), fun p hp => fin_lst hp h s w (ra.rep _) q⟩
def rRepTD : R2D := fun d e k => match d, e with
  | .tup a, .int n => a ≠ [] ∧ 2 ≤ n ∧ n ≤ 1000 ∧ a.length ≤ 1000 ∧ k (.c (.tup (List.replicate n.toNat a).flatten))
  | _, _ => False
theorem dop_repT {K : PySem.W.Frag} : DOp K (rRepT K) rRepTD := by
  intro J B H d e k x y Q h s w tx ty q
  unfold rRepTD at h
  cases d <;> try exact h.elim
  rename_i ds
  cases e <;> try exact h.elim
  obtain ⟨h0, h1, h2, h3, h⟩ := h
  obtain ⟨a, xs, rfl, aB, aH, ra⟩ := tx.tup s
  cases ty.int
  have l1 := ra.len
  exact ⟨a, _, xs, rfl, rfl, aH, fun e => h0 (List.eq_nil_of_length_eq_zero (by rw [← l1, e]; rfl)), h1, h2, by omega, fun p hp => fin_tup hp h s w (ra.rep _) q⟩
def rTimes : R2D := fun d e k => match d, e with
  | .int i, .int j => (-(2 ^ 64) < i ∧ i < 2 ^ 64) ∧ k (.c (.int (i * j)))
  | .tup a, .int n => a ≠ [] ∧ 2 ≤ n ∧ n ≤ 1000 ∧ a.length ≤ 1000 ∧ k (.c (.tup (List.replicate n.toNat a).flatten))
  | .lst a, .int n => 0 ≤ n ∧ n ≤ 100000 ∧ a.length * n.toNat ≤ 100000 ∧ k (.f (List.replicate n.toNat a).flatten)
  | _, _ => False
end
end Dl
namespace Dl
open PySem PySem.Spec PyProof.Rows L2
section
variable {X : Cx} {e a b c : Expr} {es : List Expr} {pos : Pos}

/-! #### *, //, %, ** -/
theorem dop_times {K : PySem.W.Frag} : DOp K (fun x y H Q => rI CMul (fun i j => .int (i * j)) x y H Q ∨ (rRepT K x y H Q ∨ rRep x y H Q)) rTimes := by
  refine DOp.imp (DOp.or (dop_I (C := fun i j => -(2 ^ 64) < i ∧ i < 2 ^ 64) (g := fun i j => .int (i * j)) (fun i j h => .inl h) fun i j B _ => by rw [Rep]) (DOp.or dop_repT dop_rep)) fun d e k h => ?_
  unfold rTimes at h
  split at h
  · exact .inl h
  · exact .inr (.inl h)
  · exact .inr (.inr h)
  · exact h.elim
theorem de_mul {wa wb : DE} (ha : De X a wa) (hb : De X b wb) : De X (.BinOp a .Mult b pos) (wOp rTimes wa wb) :=
  de_op (OpR.or op_mul (OpR.or op_repT op_rep)) dop_times ha hb
def rFdiv : R2D := rIIC (fun _ j => 0 < j ∧ j < 1073741824) fun i j => .int (i / j)
theorem de_fdiv {wa wb : DE} (ha : De X a wa) (hb : De X b wb) : De X (.BinOp a .FloorDiv b pos) (wOp rFdiv wa wb) :=
  de_op op_fdiv (dop_I (fun i j h => h) fun i j B _ => by rw [Rep]) ha hb
def rFdivW : R2D := rIIC CDivW fun i j => .int (i / j)
theorem de_fdivW {wa wb : DE} (ha : De X a wa) (hb : De X b wb) : De X (.BinOp a .FloorDiv b pos) (wOp rFdivW wa wb) :=
  de_op op_fdivW (dop_I (fun i j h => h) fun i j B _ => by rw [Rep]) ha hb
def rMod : R2D := rIIC (fun _ j => 0 < j) fun i j => .int (i % j)
theorem de_mod {wa wb : DE} (ha : De X a wa) (hb : De X b wb) : De X (.BinOp a .Mod b pos) (wOp rMod wa wb) :=
  de_op op_mod (dop_I (fun i j h => h) fun i j B _ => by rw [Rep]) ha hb
def rPow : R2D := rIIC CPow fun i j => .int (i ^ j.toNat)
theorem de_pow {wa wb : DE} (ha : De X a wa) (hb : De X b wb) : De X (.BinOp a .Pow b pos) (wOp rPow wa wb) :=
  de_op op_pow (dop_I (fun i j h => h) fun i j B _ => by rw [Rep]) ha hb
/-! #### - of one -/
def wUn (r : D → (DV → Prop) → Prop) (wa : DE) : DE := fun δ k => wa δ fun x => ∃ d, rd δ x = some d ∧ r d k
def rNeg : D → (DV → Prop) → Prop := fun d k => match d with
  | .int i => k (.c (.int (-i)))
  | _ => False
theorem de_neg {wa : DE} (ha : De X a wa) : De X (.UnaryOp .USub a pos) (wUn rNeg wa) := by
  obtain ⟨ta, pa, va⟩ := ha.ex
  refine ⟨_, pe_un un_neg pa, ?_⟩
  intro J B0 H0 B H σ δ e k h Q q
  refine va e _ h _ fun x v B1 H1 h1 g1 w1 r1 => ?_
  obtain ⟨d, rx, h1⟩ := h1
  have t1 := r1.toT (e.step g1 w1) e.nod rx
  unfold rNeg at h1
  cases d <;> try exact h1.elim
  cases t1.int
  exact ⟨_, rfl, q _ _ B1 H1 h1 g1 w1 (by show Rep _ _ _ _; rw [Rep])⟩

/-! #### comparisons of ints -/
def rLt : R2D := rII fun i j => .bl (decide (i < j))
def rLe : R2D := rII fun i j => .bl (decide (i ≤ j))
def rGt : R2D := rII fun i j => .bl (decide (j < i))
def rGe : R2D := rII fun i j => .bl (decide (j ≤ i))
theorem dop_lt {K : PySem.W.Frag} : DOp K (rI0 fun i j => .bl (decide (i < j))) rLt := dop_I0 fun i j B => by rw [Rep]
theorem dop_le {K : PySem.W.Frag} : DOp K (rI0 fun i j => .bl (decide (i ≤ j))) rLe := dop_I0 fun i j B => by rw [Rep]
theorem dop_gt {K : PySem.W.Frag} : DOp K (rI0 fun i j => .bl (decide (j < i))) rGt := dop_I0 fun i j B => by rw [Rep]
theorem dop_ge {K : PySem.W.Frag} : DOp K (rI0 fun i j => .bl (decide (j ≤ i))) rGe := dop_I0 fun i j B => by rw [Rep]
/-! #### == of any data -/
mutual
def py : D → PyData
  | .non => .none
  | .bl b => .bool b
  | .int i => .int i
  | .str x => .str x
  | .lst ds => .list (pys ds)
  | .tup ds => .tuple (pys ds)
  | .frl ds => .list (pys ds)
  | .emp => .none
  | .ty _ => .none
  | .rng _ _ => .none
  | .dct _ _ => .none
def pys : List D → List PyData
  | [] => []
  | d :: ds => py d :: pys ds
end
/-! no dict, no class within -/
mutual
def plain : D → Bool
  | .emp => false
  | .ty _ => false
  | .rng _ _ => false
  | .dct _ _ => false
  | .lst ds => plains ds
  | .tup ds => plains ds
  | .frl ds => plains ds
  | .non => true
  | .bl _ => true
  | .int _ => true
  | .str _ => true
def plains : List D → Bool
  | [] => true
  | d :: ds => plain d && plains ds
end
section
variable {K : PySem.W.Frag} {B H : Hp}
mutual
theorem dp_of : ∀ {d : D} {v : V}, plain d = true → Rep K B d v → Dp K B v (py d)
  | .non, _, _, h => by rw [Rep] at h; subst h; rw [py]; exact .non
  | .bl b, _, _, h => by rw [Rep] at h; subst h; rw [py]; exact .bl b
  | .int i, _, _, h => by rw [Rep] at h; subst h; rw [py]; exact .int i
  | .str x, _, _, h => by rw [Rep] at h; subst h; rw [py]; exact .str x
  | .lst ds, _, p, h => by
    rw [Rep] at h; obtain ⟨a, xs, rfl, h1, h2⟩ := h
    rw [py]; rw [plain] at p
    exact .lst (.inl (.inl h1)) (dps_of p h2)
  | .tup ds, _, p, h => by
    rw [Rep] at h; obtain ⟨a, xs, rfl, h1, h2⟩ := h
    rw [py]; rw [plain] at p
    exact .tup h1 (dps_of p h2)
  | .frl ds, _, p, h => by
    rw [Rep] at h; obtain ⟨a, xs, rfl, h1, h2⟩ := h
    rw [py]; rw [plain] at p
    exact .lst h1 (dps_of p h2)
  | .emp, _, p, _ => by rw [plain] at p; cases p
  | .ty _, _, p, _ => by rw [plain] at p; cases p
  | .rng _ _, _, p, _ => by rw [plain] at p; cases p
  | .dct _ _, _, p, _ => by rw [plain] at p; cases p
theorem dps_of : ∀ {ds : List D} {vs : List V}, plains ds = true → Reps K B ds vs → DpAll K B vs (pys ds)
  | [], _, _, h => by rw [Reps] at h; subst h; rw [pys]; exact .nil
  | d :: ds, _, p, h => by
    rw [Reps] at h; obtain ⟨x, r, rfl, h1, h2⟩ := h
    rw [plains, Bool.and_eq_true] at p
    rw [pys]
    exact .cons (dp_of p.1 h1) (dps_of p.2 h2)
end
theorem dp_ofT {J : Option Addr} {d : D} {v : V} (s : Same B H) (p : plain d = true) (h : RepT K J B H d v) : Dp K H v (py d) := by
  rcases h with h | ⟨ds, a, xs, rfl, rfl, n, h1, h2⟩
  · exact dp_of p (h.mono s)
  · rw [py]; rw [plain] at p
    exact .lst (.inl (.inl h1)) (dps_of p (h2.mono s))
end
/-- both are plain and shaped -/
def okD (d : D) : Prop := plain d = true ∧ SeqAt.shaped (py d) = true
def eqD (d e : D) : Bool := PyData.eqv (py d) (py e)
def rEqq : R2D := fun d e k => okD d ∧ okD e ∧ k (.c (.bl (eqD d e)))
def rNeq : R2D := fun d e k => okD d ∧ okD e ∧ k (.c (.bl (!eqD d e)))
theorem dop_eq {K : PySem.W.Frag} : DOp K (rEqD K) rEqq := by
  intro J B H d e k x y Q h s w tx ty q
  obtain ⟨⟨p1, s1⟩, ⟨p2, s2⟩, h⟩ := h
  exact ⟨_, _, dp_ofT s p1 tx, dp_ofT s p2 ty, s1, s2, fin_c h s w (by rw [Rep]; rfl) q⟩
theorem dop_ne {K : PySem.W.Frag} : DOp K (rNeD K) rNeq := by
  intro J B H d e k x y Q h s w tx ty q
  obtain ⟨⟨p1, s1⟩, ⟨p2, s2⟩, h⟩ := h
  exact ⟨_, _, dp_ofT s p1 tx, dp_ofT s p2 ty, s1, s2, fin_c h s w (by rw [Rep]; rfl) q⟩
theorem de_eq {wa wb : DE} (hu : X.A.units + 64 < cLine) (ha : De X a wa) (hb : De X b wb) : De X (.Compare a [.Eq] [b] pos) (wOp rEqq wa wb) := de_cmp (op_eqD hu) dop_eq ha hb
theorem de_ne {wa wb : DE} (hu : X.A.units + 64 < cLine) (ha : De X a wa) (hb : De X b wb) : De X (.Compare a [.NotEq] [b] pos) (wOp rNeq wa wb) := de_cmp (op_neD hu) dop_ne ha hb
/-! #### is None -/
def isNone : D → Bool
  | .non => true
  | _ => false
def rIsN : R2D := fun d e k => match e with
  | .non => k (.c (.bl (isNone d)))
  | _ => False
def rNotN : R2D := fun d e k => match e with
  | .non => k (.c (.bl (!isNone d)))
  | _ => False
theorem isNone_V {K : PySem.W.Frag} {J : Option Addr} {B H : Hp} {d : D} {v : V} (h : RepT K J B H d v) : decide (v = .non) = isNone d := by
  rcases h with h | ⟨ds, a, xs, rfl, rfl, _⟩
  · cases d <;> rw [Rep] at h
    case non => subst h; rfl
    case bl => subst h; rfl
    case int => subst h; rfl
    case str => subst h; rfl
    case ty => subst h; rfl
    case lst => obtain ⟨a, xs, rfl, _⟩ := h; rfl
    case tup => obtain ⟨a, xs, rfl, _⟩ := h; rfl
    case frl => obtain ⟨a, xs, rfl, _⟩ := h; rfl
    case emp => obtain ⟨a, rfl, _⟩ := h; rfl
    case rng => obtain ⟨a, rfl, _⟩ := h; rfl
    case dct => obtain ⟨a, xs, rfl, _⟩ := h; rfl
  · rfl
theorem dop_isN {K : PySem.W.Frag} : DOp K (fun x y H Q => y = .non ∧ Q (.bl (decide (x = .non))) H) rIsN := by
  intro J B H d e k x y Q h s w tx ty q
  unfold rIsN at h
  cases e <;> try exact h.elim
  cases ty.non
  exact ⟨rfl, fin_c h s w (by rw [Rep, isNone_V tx]) q⟩
theorem dop_notN {K : PySem.W.Frag} : DOp K (fun x y H Q => y = .non ∧ Q (.bl (!decide (x = .non))) H) rNotN := by
  intro J B H d e k x y Q h s w tx ty q
  unfold rNotN at h
  cases e <;> try exact h.elim
  cases ty.non
  exact ⟨rfl, fin_c h s w (by rw [Rep, isNone_V tx]) q⟩
/-! #### chains -/
def wChain (r r' : R2D) (wa wb wc : DE) : DE := fun δ k => wa δ fun x => wb δ fun y => ∃ d e, rd δ x = some d ∧ rd δ y = some e ∧
  r d e fun z => ∃ t, z = .c (.bl t) ∧ (if t = true then wc δ fun x2 => ∃ f, rd δ x2 = some f ∧ r' e f k else k (.c (.bl false)))
/-- a rule that makes nothing: its value is a bool -/
theorem ev_chain {K : PySem.W.Frag} {ρ ρ' : R2} {r r' : R2D} {ta tb tc : TE} {wa wb wc : DE} (ho : DOp K ρ r) (ho' : DOp K ρ' r') (ha : EvE K ta wa) (hb : EvE K tb wb) (hc : EvE K tc wc) : EvE K (tChain ρ ρ' ta tb tc) (wChain r r' wa wb wc) := by
  intro J B0 H0 B H σ δ e k h Q q
  refine ha e _ h _ fun x v B1 H1 h1 g1 w1 r1 => ?_
  have e1 := e.step g1 w1
  refine hb e1 _ h1 _ fun y u B2 H2 h2 g2 w2 r2 => ?_
  have e2 := e1.step g2 w2
  obtain ⟨d, d', rx, ry, h2⟩ := h2
  have t1 := (r1.toT e1 e.nod rx).step g2
  have t2 := r2.toT e2 e1.nod ry
  refine ho h2 e2.bh w2 t1 t2 fun z v' B3 H3 kz g3 w3 r3 => ?_
  obtain ⟨t, rfl, kz⟩ := kz
  have r3' := r3 [] []
  have : v' = .bl t := by
    have : Rep K B3 (.bl t) v' := r3'
    rw [Rep] at this; exact this
  subst this
  refine ⟨t, rfl, ?_⟩
  have e3 := e2.step g3 w3
  have G3 := (g1.trans g2).trans g3
  cases t with
  | false => exact q _ _ B3 H3 kz G3 w3 r3'
  | true =>
    refine hc e3 _ kz _ fun x2 v2 B4 H4 h4 g4 w4 r4 => ?_
    obtain ⟨f, rx2, h4⟩ := h4
    have e4 := e3.step g4 w4
    exact ho' h4 e4.bh w4 ((t2.step g3).step g4) (r4.toT e4 e3.nod rx2) fun z v5 B5 H5 kz g5 w5 r5 => q z v5 B5 H5 kz ((G3.trans g4).trans g5) w5 ((r5 σ δ).back fun b hb => g4.ne b (G3.ne b hb))
theorem de_chain {op op' : CmpOp} {ρ ρ' : R2} {r r' : R2D} {wa wb wc : DE} (ho : OpR X (compareOp op) ρ) (ho' : OpR X (compareOp op') ρ') (hd : DOp X.K ρ r) (hd' : DOp X.K ρ' r') (ha : De X a wa) (hb : De X b wb) (hc : De X c wc)
    (hm : lastMarks [op, op'] [b, c] = false := by with_unfolding_all rfl) : De X (.Compare a [op, op'] [b, c] pos) (wChain r r' wa wb wc) := by
  obtain ⟨ta, pa, va⟩ := ha.ex
  obtain ⟨tb, pb, vb⟩ := hb.ex
  obtain ⟨tc, pc, vc⟩ := hc.ex
  exact ⟨_, pe_chain ho ho' pa pb pc hm, ev_chain hd hd' va vb vc⟩

/-! ### and, or, not -/
def wAnd (wa wb : DE) : DE := fun δ k => wa δ fun x => ∃ t, x = .c (.bl t) ∧ if t = true then wb δ k else k (.c (.bl false))
def wOr (wa wb : DE) : DE := fun δ k => wa δ fun x => ∃ t, x = .c (.bl t) ∧ if t = true then k (.c (.bl true)) else wb δ k
def wNot (wa : DE) : DE := fun δ k => wa δ fun x => ∃ t, x = .c (.bl t) ∧ k (.c (.bl (!t)))
theorem rv_bl {K : PySem.W.Frag} {J : Option Addr} {Hs B H : Hp} {σ : L2.St} {δ : List S} {t : Bool} {v : V} (h : RepV K J Hs B H σ δ (.c (.bl t)) v) : v = .bl t := by
  have h : Rep K B (.bl t) v := h
  rw [Rep] at h; exact h
theorem rv_bl' {K : PySem.W.Frag} {J : Option Addr} {Hs B H : Hp} {σ : L2.St} {δ : List S} {t : Bool} : RepV K J Hs B H σ δ (.c (.bl t)) (.bl t) := by
  show Rep K B (.bl t) _
  rw [Rep]
theorem de_one {op} {wa : DE} (ha : De X a wa) : De X (.BoolOp op [a] pos) wa := by
  obtain ⟨ta, pa, va⟩ := ha.ex
  exact ⟨_, pe_one pa, va⟩
theorem de_and {rest : List Expr} {wa wb : DE} (ha : De X a wa) (hb : De X (.BoolOp .And (b :: rest) pos) wb) : De X (.BoolOp .And (a :: b :: rest) pos) (wAnd wa wb) := by
  obtain ⟨ta, pa, va⟩ := ha.ex
  obtain ⟨tb, pb, vb⟩ := hb.ex
  refine ⟨_, pe_and pa pb, ?_⟩
  intro J B0 H0 B H σ δ e k h Q q
  refine va e _ h _ fun x v B1 H1 h1 g1 w1 r1 => ?_
  obtain ⟨t, rfl, h1⟩ := h1
  cases rv_bl r1
  refine ⟨t, rfl, ?_⟩
  cases t with
  | false => exact q _ _ B1 H1 h1 g1 w1 rv_bl'
  | true => exact vb (e.step g1 w1) _ h1 _ fun y u B2 H2 h2 g2 w2 r2 => q y u B2 H2 h2 (g1.trans g2) w2 (r2.back g1.ne)
theorem de_or {rest : List Expr} {wa wb : DE} (ha : De X a wa) (hb : De X (.BoolOp .Or (b :: rest) pos) wb) : De X (.BoolOp .Or (a :: b :: rest) pos) (wOr wa wb) := by
  obtain ⟨ta, pa, va⟩ := ha.ex
  obtain ⟨tb, pb, vb⟩ := hb.ex
  refine ⟨_, pe_or pa pb, ?_⟩
  intro J B0 H0 B H σ δ e k h Q q
  refine va e _ h _ fun x v B1 H1 h1 g1 w1 r1 => ?_
  obtain ⟨t, rfl, h1⟩ := h1
  cases rv_bl r1
  refine ⟨t, rfl, ?_⟩
  cases t with
  | true => exact q _ _ B1 H1 h1 g1 w1 rv_bl'
  | false => exact vb (e.step g1 w1) _ h1 _ fun y u B2 H2 h2 g2 w2 r2 => q y u B2 H2 h2 (g1.trans g2) w2 (r2.back g1.ne)
theorem de_not {wa : DE} (ha : De X a wa) : De X (.UnaryOp .Not a pos) (wNot wa) := by
  obtain ⟨ta, pa, va⟩ := ha.ex
  refine ⟨_, pe_not pa, ?_⟩
  intro J B0 H0 B H σ δ e k h Q q
  refine va e _ h _ fun x v B1 H1 h1 g1 w1 r1 => ?_
  obtain ⟨t, rfl, h1⟩ := h1
  cases rv_bl r1
  exact ⟨t, rfl, q _ _ B1 H1 h1 g1 w1 rv_bl'⟩
/-! ### tests -/
def wB (wa : DE) : DT := fun δ k => wa δ fun x => ∃ t, x = .c (.bl t) ∧ k t
theorem dt_val {wa : DE} (ha : De X a wa) (he : ∀ whole, isTrue a X.env whole = (do let v ← whole; standAt a.pos; holding [v] (truthy v)) := by intro _; rfl) : Dt X a (wB wa) := by
  obtain ⟨ta, pa, va⟩ := ha.ex
  refine ⟨_, pt_val pa he, ?_⟩
  intro J B0 H0 B H σ δ e k h Q q
  refine va e _ h _ fun x v B1 H1 h1 g1 w1 r1 => ?_
  obtain ⟨t, rfl, h1⟩ := h1
  cases rv_bl r1
  exact ⟨t, rfl, q t B1 H1 h1 g1 w1⟩
/-- one comparison -/
theorem dt_cmp {op : CmpOp} {ρ : R2} {r : R2D} {wa wb : DE} (ho : OpR X (compareOp op) ρ) (hd : DOp X.K ρ r) (ha : De X a wa) (hb : De X b wb) (hm : behindInMarks op b = false := by first | exact nomark _ | with_unfolding_all rfl) : Dt X (.Compare a [op] [b] pos) (wB (wOp r wa wb)) := by
  obtain ⟨ta, pa, va⟩ := ha.ex
  obtain ⟨tb, pb, vb⟩ := hb.ex
  refine ⟨_, pt_cmpR ho pa pb hm, ?_⟩
  intro J B0 H0 B H σ δ e k h Q q
  refine ev_op hd va vb e _ h _ fun x v B1 H1 h1 g1 w1 r1 => ?_
  obtain ⟨t, rfl, h1⟩ := h1
  cases rv_bl r1
  exact ⟨t, rfl, q t B1 H1 h1 g1 w1⟩
theorem dt_eq {wa wb : DE} (hu : X.A.units + 64 < cLine) (ha : De X a wa) (hb : De X b wb) : Dt X (.Compare a [.Eq] [b] pos) (wB (wOp rEqq wa wb)) := dt_cmp (op_eqD hu) dop_eq ha hb
theorem dt_ne {wa wb : DE} (hu : X.A.units + 64 < cLine) (ha : De X a wa) (hb : De X b wb) : Dt X (.Compare a [.NotEq] [b] pos) (wB (wOp rNeq wa wb)) := dt_cmp (op_neD hu) dop_ne ha hb
theorem dt_chain {op op' : CmpOp} {ρ ρ' : R2} {r r' : R2D} {wa wb wc : DE} (ho : OpR X (compareOp op) ρ) (ho' : OpR X (compareOp op') ρ') (hd : DOp X.K ρ r) (hd' : DOp X.K ρ' r') (ha : De X a wa) (hb : De X b wb) (hc : De X c wc)
    (hm : lastMarks [op, op'] [b, c] = false := by with_unfolding_all rfl) : Dt X (.Compare a [op, op'] [b, c] pos) (wB (wChain r r' wa wb wc)) := by
  obtain ⟨ta, pa, va⟩ := ha.ex
  obtain ⟨tb, pb, vb⟩ := hb.ex
  obtain ⟨tc, pc, vc⟩ := hc.ex
  refine ⟨_, pt_chain ho ho' pa pb pc hm, ?_⟩
  intro J B0 H0 B H σ δ e k h Q q
  refine ev_chain hd hd' va vb vc e _ h _ fun x v B1 H1 h1 g1 w1 r1 => ?_
  obtain ⟨t, rfl, h1⟩ := h1
  cases rv_bl r1
  exact ⟨t, rfl, q t B1 H1 h1 g1 w1⟩
def wAndT (wa wb : DT) : DT := fun δ k => wa δ fun t => if t = true then wb δ k else k false
def wOrT (wa wb : DT) : DT := fun δ k => wa δ fun t => if t = true then k true else wb δ k
def wNotT (wa : DT) : DT := fun δ k => wa δ fun t => k (!t)
theorem dw_and1 {wa : DT} (ha : Dt X a wa) : Dw X (.BoolOp .And [a] pos) wa := by
  obtain ⟨ta, pa, va⟩ := ha.ex
  exact ⟨_, pw_and1 pa, va⟩
theorem dw_or1 {wa : DT} (ha : Dt X a wa) : Dw X (.BoolOp .Or [a] pos) wa := by
  obtain ⟨ta, pa, va⟩ := ha.ex
  exact ⟨_, pw_or1 pa, va⟩
theorem dw_and {rest : List Expr} {wa wb : DT} (ha : Dt X a wa) (hb : Dw X (.BoolOp .And (b :: rest) pos) wb) : Dw X (.BoolOp .And (a :: b :: rest) pos) (wAndT wa wb) := by
  obtain ⟨ta, pa, va⟩ := ha.ex
  obtain ⟨tb, pb, vb⟩ := hb.ex
  refine ⟨_, pw_and pa pb, ?_⟩
  intro J B0 H0 B H σ δ e k h Q q
  refine va e _ h _ fun t B1 H1 h1 g1 w1 => ?_
  cases t with
  | false => exact q _ B1 H1 h1 g1 w1
  | true => exact vb (e.step g1 w1) _ h1 _ fun t B2 H2 h2 g2 w2 => q t B2 H2 h2 (g1.trans g2) w2
theorem dw_or {rest : List Expr} {wa wb : DT} (ha : Dt X a wa) (hb : Dw X (.BoolOp .Or (b :: rest) pos) wb) : Dw X (.BoolOp .Or (a :: b :: rest) pos) (wOrT wa wb) := by
  obtain ⟨ta, pa, va⟩ := ha.ex
  obtain ⟨tb, pb, vb⟩ := hb.ex
  refine ⟨_, pw_or pa pb, ?_⟩
  intro J B0 H0 B H σ δ e k h Q q
  refine va e _ h _ fun t B1 H1 h1 g1 w1 => ?_
  cases t with
  | true => exact q _ B1 H1 h1 g1 w1
  | false => exact vb (e.step g1 w1) _ h1 _ fun t B2 H2 h2 g2 w2 => q t B2 H2 h2 (g1.trans g2) w2
theorem Dw.pt {wa : DT} (h : Dw X a wa) : Dt X a wa := by
  obtain ⟨ta, pa, va⟩ := h.ex
  exact ⟨_, pa.pt, va⟩
theorem dt_not {wa : DT} (ha : Dt X a wa) : Dt X (.UnaryOp .Not a pos) (wNotT wa) := by
  obtain ⟨ta, pa, va⟩ := ha.ex
  refine ⟨_, pt_not pa, ?_⟩
  intro J B0 H0 B H σ δ e k h Q q
  exact va e _ h _ fun t B1 H1 h1 g1 w1 => q _ B1 H1 h1 g1 w1
def wIf (wc : DT) (wa wb : DE) : DE := fun δ k => wc δ fun t => if t = true then wa δ k else wb δ k
theorem de_if {wc : DT} {wa wb : DE} (hc : Dt X c wc) (ha : De X a wa) (hb : De X b wb) : De X (.IfExp c a b pos) (wIf wc wa wb) := by
  obtain ⟨tc, pc, vc⟩ := hc.ex
  obtain ⟨ta, pa, va⟩ := ha.ex
  obtain ⟨tb, pb, vb⟩ := hb.ex
  refine ⟨_, pe_ifExp pc pa pb, ?_⟩
  intro J B0 H0 B H σ δ e k h Q q
  refine vc e _ h _ fun t B1 H1 h1 g1 w1 => ?_
  cases t with
  | true => exact va (e.step g1 w1) _ h1 _ fun y u B2 H2 h2 g2 w2 r2 => q y u B2 H2 h2 (g1.trans g2) w2 (r2.back g1.ne)
  | false => exact vb (e.step g1 w1) _ h1 _ fun y u B2 H2 h2 g2 w2 r2 => q y u B2 H2 h2 (g1.trans g2) w2 (r2.back g1.ne)
end
end Dl
namespace Dl
open PySem PySem.Spec PyProof.Rows L2
section
variable {X : Cx} {e a b c : Expr} {es : List Expr} {pos : Pos}

/-! ### argument lists, displays -/
def waNil : DA := fun _ k => k []
def waCons (wa : DE) (wr : DA) : DA := fun δ k => wa δ fun x => wr δ fun xs => k (x :: xs)
theorem da_nil : Da X [] waNil := by
  refine ⟨_, pa_nil, ?_⟩
  intro J B0 H0 B H σ δ e k h Q q
  exact q [] [] B H h (.refl e.bh) e.ow rfl
theorem da_cons {wa : DE} {wr : DA} (ha : De X e wa) (hr : Da X es wr) (hs : starEach (e :: es) X.env = (false, eval e X.env) :: starEach es X.env := by rfl) : Da X (e :: es) (waCons wa wr) := by
  obtain ⟨ta, pa, va⟩ := ha.ex
  obtain ⟨tr, pr, vr⟩ := hr.ex
  refine ⟨_, pa_cons pa pr hs, ?_⟩
  intro J B0 H0 B H σ δ e k h Q q
  refine va e _ h _ fun x v B1 H1 h1 g1 w1 r1 => ?_
  have e1 := e.step g1 w1
  refine vr e1 _ h1 _ fun xs vs B2 H2 h2 g2 w2 r2 => ?_
  refine q (x :: xs) (v :: vs) B2 H2 h2 (g1.trans g2) w2 ⟨v, vs, rfl, r1.step e.nod g2, r2.back g1.ne, fun ds hx j es' hj hv => ?_⟩
  subst hx
  obtain ⟨a, ys, rfl, nS, nB, hH, _⟩ := r1
  obtain ⟨u, e3, r3⟩ := r2.at hj
  rw [hv] at e3; cases e3
  obtain ⟨a', _, e4, n4, _⟩ := r3
  cases e4
  rw [hH] at n4; cases n4
/-- (a, b, ..) -/
def wTup (wa : DA) : DE := fun δ k => wa δ fun xs => ∃ ds, cls xs = some ds ∧ ds.length ≤ 100000 ∧ k (.c (.tup ds))
def wLst (wa : DA) : DE := fun δ k => wa δ fun xs => ∃ ds, cls xs = some ds ∧ ds.length ≤ 100000 ∧ k (.f ds)
theorem de_tup {x1} {wa : DA} (ha : Da X es wa) : De X (.Tuple es x1 pos) (wTup wa) := by
  obtain ⟨ta, pa, va⟩ := ha.ex
  refine ⟨_, pe_tup pa, ?_⟩
  intro J B0 H0 B H σ δ e k h Q q
  refine va e _ h _ fun xs vs B1 H1 h1 g1 w1 r1 => ?_
  obtain ⟨ds, hc, hl, h1⟩ := h1
  obtain ⟨B2, g2, w2, _, r2, _⟩ := r1.keep e.nod g1 w1 hc
  refine ⟨sz5 (by rw [r2.len]; exact hl), fun p hp => ?_⟩
  exact fin_tup hp h1 g2.bh w2 r2 fun z v B' H' kz g w r => q z v B' H' kz (g2.trans g) w ((r σ δ).back g2.ne)
theorem de_lst {wa : DA} (ha : Da X es wa) : De X (.List es pos) (wLst wa) := by
  obtain ⟨ta, pa, va⟩ := ha.ex
  refine ⟨_, pe_lst pa, ?_⟩
  intro J B0 H0 B H σ δ e k h Q q
  refine va e _ h _ fun xs vs B1 H1 h1 g1 w1 r1 => ?_
  obtain ⟨ds, hc, hl, h1⟩ := h1
  obtain ⟨B2, g2, w2, _, r2, _⟩ := r1.keep e.nod g1 w1 hc
  refine ⟨sz5 (by rw [r2.len]; exact hl), fun p hp => ?_⟩
  exact fin_lst hp h1 g2.bh w2 r2 fun z v B' H' kz g w r => q z v B' H' kz (g2.trans g) w ((r σ δ).back g2.ne)
/-- {} -/
def wEmp : DE := fun _ k => k (.c .emp)
theorem de_emp : De X (.Dict [] [] pos) wEmp := by
  refine ⟨_, pe_dnewK, ?_⟩
  intro J B0 H0 B H σ δ e k h Q q
  refine fun p hp => ?_
  refine q (.c .emp) _ (upd B p (.dK [])) _ h (.new e.bh hp) (e.ow.new hp) ?_
  show Rep _ _ _ _
  rw [Rep]
  exact ⟨p, rfl, upd_same⟩

/-! ### items -/
def rIxD : R2D := fun d e k => match e with
  | .int i => match d with
    | .lst ds => ∃ x, atI ds i = some x ∧ k (.c x)
    | .tup ds => ∃ x, atI ds i = some x ∧ k (.c x)
    | .frl ds => ∃ x, atI ds i = some x ∧ k (.c x)
    | _ => False
  | _ => False
theorem atI_reps {K : PySem.W.Frag} {B : Hp} {ds : List D} {xs : List V} {i : Int} {d : D} (r : Reps K B ds xs) (h : atI ds i = some d) : ∃ v, atI xs i = some v ∧ Rep K B d v := by
  unfold atI at h ⊢
  rw [r.len]
  cases hi : ixN ds.length i with
  | none => rw [hi] at h; cases h
  | some j =>
    rw [hi] at h
    exact r.get (i := j) h
theorem dop_ix {K : PySem.W.Frag} : DOp K (fun x y H Q => rIxL K x y H Q ∨ rIxT K x y H Q) rIxD := by
  intro J B H d e k x y Q h s w tx ty q
  unfold rIxD at h
  cases e <;> try exact h.elim
  cases ty.int
  cases d <;> try exact h.elim
  case lst ds =>
    obtain ⟨z, hz, h⟩ := h
    obtain ⟨a, xs, rfl, aH, ra⟩ := tx.lst s
    obtain ⟨v, hv, rv⟩ := atI_reps ra hz
    exact .inl ⟨a, xs, _, v, rfl, rfl, SqL.of aH, hv, fin_c h s w rv q⟩
  case tup ds =>
    obtain ⟨z, hz, h⟩ := h
    obtain ⟨a, xs, rfl, aB, aH, ra⟩ := tx.tup s
    obtain ⟨v, hv, rv⟩ := atI_reps ra hz
    exact .inr ⟨a, xs, _, v, rfl, rfl, aH, hv, fin_c h s w rv q⟩
  case frl ds =>
    obtain ⟨z, hz, h⟩ := h
    have tx := tx.rep (fun _ => by simp)
    rw [Rep] at tx
    obtain ⟨a, xs, rfl, aB, ra⟩ := tx
    obtain ⟨v, hv, rv⟩ := atI_reps ra hz
    exact .inl ⟨a, xs, _, v, rfl, rfl, Same.seq s aB, hv, fin_c h s w rv q⟩
theorem de_item {wa wb : DE} (ha : De X a wa) (hb : De X b wb) (hs : PlainIx b := by exact fun _ _ => rfl) : De X (.Subscript a b pos) (wOp rIxD wa wb) :=
  de_ix (IxR.or ix_list ix_tup) dop_ix ha hb hs
/-! ### slices -/
abbrev DO := List S → (Option Int → Prop) → Prop
def EvO (K : PySem.W.Frag) (to : TO) (w : DO) : Prop := ∀ ⦃J : Option Addr⦄ ⦃B0 H0 B H : Hp⦄ ⦃σ : L2.St⦄ ⦃δ : List S⦄, Env K J B0 H0 B H σ δ → ∀ k : Option Int → Prop, w δ k → ∀ Q : Option Int → Hp → Prop,
  (∀ x B' H', k x → Grow J B H B' H' → Own J B' H' → Q x H') → to σ H Q
structure Do (X : Cx) (e : Option Expr) (w : DO) : Prop where
  ex : ∃ t, PO X e t ∧ EvO X.K t w
def woNone : DO := fun _ k => k none
def woSome (wa : DE) : DO := fun δ k => wa δ fun x => ∃ i, x = .c (.int i) ∧ k (some i)
theorem do_none : Do X none woNone := by
  refine ⟨_, po_none, ?_⟩
  intro J B0 H0 B H σ δ e k h Q q
  exact q none B H h (.refl e.bh) e.ow
theorem do_some {wa : DE} (ha : De X a wa) : Do X (some a) (woSome wa) := by
  obtain ⟨ta, pa, va⟩ := ha.ex
  refine ⟨_, po_some pa, ?_⟩
  intro J B0 H0 B H σ δ e k h Q q
  refine va e _ h _ fun x v B1 H1 h1 g1 w1 r1 => ?_
  obtain ⟨i, rfl, h1⟩ := h1
  have r1 : Rep X.K B1 (.int i) v := r1
  rw [Rep] at r1
  exact ⟨i, r1, q _ B1 H1 h1 g1 w1⟩
def cutD (xs : List D) (lo hi : Option Int) : List D := (xs.drop (HT.sIx xs.length 0 lo)).take (HT.sIx xs.length xs.length hi - HT.sIx xs.length 0 lo)
theorem Reps.cut {K : PySem.W.Frag} {B : Hp} {ds : List D} {xs : List V} (r : Reps K B ds xs) (lo hi : Option Int) : Reps K B (cutD ds lo hi) (cutV xs lo hi) := by
  unfold cutD cutV
  rw [r.len]
  exact (r.drop _).take _
def rSlD (d : D) (lo hi : Option Int) (k : DV → Prop) : Prop := match d with
  | .tup ds => k (.c (.tup (cutD ds lo hi)))
  | .lst ds => k (.f (cutD ds lo hi))
  | _ => False
def wSl (wa : DE) (wl wh : DO) : DE := fun δ k => wa δ fun x => wl δ fun lo => wh δ fun hi => ∃ d, rd δ x = some d ∧ rSlD d lo hi k
theorem cutD_whole {xs : List D} {lo hi : Option Int} (h : HT.sIx xs.length 0 lo = 0 ∧ HT.sIx xs.length xs.length hi = xs.length) : cutD xs lo hi = xs := by
  unfold cutD
  rw [h.1, h.2]
  simp
theorem de_slice {lo hi : Option Expr} {p2 : Pos} {wa : DE} {wl wh : DO} (ha : De X a wa) (hl : Do X lo wl) (hh : Do X hi wh) : De X (.Subscript a (.Slice lo hi none p2) pos) (wSl wa wl wh) := by
  obtain ⟨ta, pa, va⟩ := ha.ex
  obtain ⟨tl, pl, vl⟩ := hl.ex
  obtain ⟨th, ph, vh⟩ := hh.ex
  refine ⟨_, pe_slice (SlR.or sl_tupA sl_list) pa pl ph, ?_⟩
  intro J B0 H0 B H σ δ e k h Q q
  refine va e _ h _ fun x v B1 H1 h1 g1 w1 r1 => ?_
  have e1 := e.step g1 w1
  refine vl e1 _ h1 _ fun lo B2 H2 h2 g2 w2 => ?_
  have e2 := e1.step g2 w2
  refine vh e2 _ h2 _ fun hi B3 H3 h3 g3 w3 => ?_
  have e3 := e2.step g3 w3
  obtain ⟨d, rx, h3⟩ := h3
  have t3 := ((r1.toT e1 e.nod rx).step g2).step g3
  have G := (g1.trans g2).trans g3
  unfold rSlD at h3
  cases d <;> try exact h3.elim
  case tup ds =>
    replace h3 : k (.c (.tup (cutD ds lo hi))) := h3
    obtain ⟨a, xs, rfl, aB, aH, ra⟩ := t3.tup e3.bh
    have l1 := ra.len
    refine .inl ⟨a, xs, rfl, aH, fun z => ?_, fun z p hp => ?_⟩
    · rw [l1] at z
      rw [cutD_whole z] at h3
      exact q _ _ B3 H3 h3 G w3 (by show Rep _ _ _ _; rw [Rep]; exact ⟨a, xs, rfl, aB, ra⟩)
    · exact fin_tup hp h3 e3.bh w3 (ra.cut _ _) fun z v B' H' kz g w r => q z v B' H' kz (G.trans g) w ((r σ δ).back G.ne)
  case lst ds =>
    obtain ⟨a, xs, rfl, aH, ra⟩ := t3.lst e3.bh
    exact .inr ⟨a, xs, rfl, SqL.of aH, fun p hp => fin_lst hp h3 e3.bh w3 (ra.cut _ _) fun z v B' H' kz g w r => q z v B' H' kz (G.trans g) w ((r σ δ).back G.ne)⟩

/-! ### built-ins by values -/
abbrev RcD := List D → (DV → Prop) → Prop
def DCall (K : PySem.W.Frag) (ρ : List V → Hp → VK → Prop) (r : RcD) : Prop := ∀ ⦃J : Option Addr⦄ ⦃B H : Hp⦄ ⦃ds : List D⦄ ⦃k : DV → Prop⦄ ⦃vs : List V⦄ ⦃Q : VK⦄, r ds k → Same B H → Own J B H → RepTs K J B H ds vs →
  (∀ z v B' H', k z → Grow J B H B' H' → Own J B' H' → (∀ σ δ, RepV K J H B' H' σ δ z v) → Q v H') → ρ vs H Q
def wCB (r : RcD) (wa : DA) : DE := fun δ k => wa δ fun xs => ∃ ds, rds δ xs = some ds ∧ r ds k
theorem ev_cb {K : PySem.W.Frag} {ρ : List V → Hp → VK → Prop} {r : RcD} {ta : TA} {wa : DA} (hd : DCall K ρ r) (va : EvA K ta wa) : EvE K (tCB ρ ta) (wCB r wa) := by
  intro J B0 H0 B H σ δ e k h Q q
  refine va e _ h _ fun xs vs B1 H1 h1 g1 w1 r1 => ?_
  obtain ⟨ds, hc, h1⟩ := h1
  have e1 := e.step g1 w1
  exact hd h1 e1.bh w1 (r1.toT e1 e.nod hc) fun z v B' H' kz g w r => q z v B' H' kz (g1.trans g) w ((r σ δ).back g1.ne)
theorem de_callB {id : String} {ρ : List V → Hp → VK → Prop} {r : RcD} {wa : DA} {x : Str} {p : Pos} (hc : CallR X (.builtin id) ρ) (hd : DCall X.K ρ r) (hg : Gl X x) (hm : X.mg x = none) (hv : bootBuiltins x = some (.builtin id)) (ha : Da X (e :: es) wa)
    (hn : x ≠ "__name__" := by decide) (hdb : (x == ("__debug__" : Str)) = false := by decide)
    (he : starEach (e :: es) X.env = (false, eval e X.env) :: starEach es X.env := by rfl) (hpl : (backTo pos (starEach es X.env)).any (·.1) = false := by rfl) : De X (.Call (.Name x p) (e :: es) [] pos) (wCB r wa) := by
  obtain ⟨ta, pa, va⟩ := ha.ex
  exact ⟨_, pe_callB hc hg hm hv pa hn hdb he hpl, ev_cb hd va⟩
theorem de_callTy {T : String} {ρ : List V → Hp → VK → Prop} {r : RcD} {wa : DA} {x : Str} {p : Pos} (hc : CallR X (.type T) ρ) (hd : DCall X.K ρ r) (hg : Gl X x) (hm : X.mg x = none) (hv : bootBuiltins x = some (.type T)) (ha : Da X (e :: es) wa)
    (hn : x ≠ "__name__" := by decide) (hdb : (x == ("__debug__" : Str)) = false := by decide)
    (he : starEach (e :: es) X.env = (false, eval e X.env) :: starEach es X.env := by rfl) (hpl : (backTo pos (starEach es X.env)).any (·.1) = false := by rfl) : De X (.Call (.Name x p) (e :: es) [] pos) (wCB r wa) := by
  obtain ⟨ta, pa, va⟩ := ha.ex
  exact ⟨_, pe_callTy hc hg hm hv pa hn hdb he hpl, ev_cb hd va⟩
theorem ts1 {K : PySem.W.Frag} {J : Option Addr} {B H : Hp} {d : D} {vs : List V} (h : RepTs K J B H [d] vs) : ∃ v, vs = [v] ∧ RepT K J B H d v := by
  obtain ⟨v, r, rfl, h1, h2⟩ := h
  cases (show r = [] from h2)
  exact ⟨v, rfl, h1⟩
theorem ts2 {K : PySem.W.Frag} {J : Option Addr} {B H : Hp} {d d' : D} {vs : List V} (h : RepTs K J B H [d, d'] vs) : ∃ v v', vs = [v, v'] ∧ RepT K J B H d v ∧ RepT K J B H d' v' := by
  obtain ⟨v, r, rfl, h1, h2⟩ := h
  obtain ⟨v', rfl, h3⟩ := ts1 h2
  exact ⟨v, v', rfl, h1, h3⟩
/-- len -/
def cLen : RcD := fun ds k => match ds with
  | [.lst xs] => k (.c (.int xs.length))
  | [.tup xs] => k (.c (.int xs.length))
  | [.frl xs] => k (.c (.int xs.length))
  | _ => False
theorem dc_len {K : PySem.W.Frag} : DCall K (fun xs H Q => ∃ p ys, xs = [.ref p] ∧ (SqL K H p ys ∨ SqT K H p ys) ∧ Q (.int ys.length) H) cLen := by
  intro J B H ds k vs Q h s w t q
  unfold cLen at h
  split at h
  · obtain ⟨v, rfl, t1⟩ := ts1 t
    obtain ⟨a, xs, rfl, aH, ra⟩ := t1.lst s
    exact ⟨a, xs, rfl, .inl (SqL.of aH), fin_c h s w (by rw [Rep, ra.len]) q⟩
  · obtain ⟨v, rfl, t1⟩ := ts1 t
    obtain ⟨a, xs, rfl, aB, aH, ra⟩ := t1.tup s
    exact ⟨a, xs, rfl, .inr aH, fin_c h s w (by rw [Rep, ra.len]) q⟩
  · obtain ⟨v, rfl, t1⟩ := ts1 t
    have t1 := t1.rep (fun _ => by simp)
    rw [Rep] at t1
    obtain ⟨a, xs, rfl, aB, ra⟩ := t1
    exact ⟨a, xs, rfl, .inl (Same.seq s aB), fin_c h s w (by rw [Rep, ra.len]) q⟩
  · exact h.elim
/-- tuple(x), list(x) -/
def cTuple : RcD := fun ds k => match ds with
  | [.lst xs] => k (.c (.tup xs))
  | [.tup xs] => k (.c (.tup xs))
  | _ => False
def cList : RcD := fun ds k => match ds with
  | [.lst xs] => k (.f xs)
  | [.tup xs] => k (.f xs)
  | _ => False
theorem dc_tuple {K : PySem.W.Frag} : DCall K (fun xs H Q => ∃ p ys, xs = [.ref p] ∧ ((SqL K H p ys ∧ ∀ l, H l = none → Q (.ref l) (upd H l (.tup ys))) ∨ (SqT K H p ys ∧ Q (.ref p) H))) cTuple := by
  intro J B H ds k vs Q h s w t q
  unfold cTuple at h
  split at h
  · obtain ⟨v, rfl, t1⟩ := ts1 t
    obtain ⟨a, xs, rfl, aH, ra⟩ := t1.lst s
    exact ⟨a, xs, rfl, .inl ⟨SqL.of aH, fun p hp => fin_tup hp h s w ra q⟩⟩
  · obtain ⟨v, rfl, t1⟩ := ts1 t
    obtain ⟨a, xs, rfl, aB, aH, ra⟩ := t1.tup s
    exact ⟨a, xs, rfl, .inr ⟨aH, fin_c h s w (by rw [Rep]; exact ⟨a, xs, rfl, aB, ra⟩) q⟩⟩
  · exact h.elim
theorem dc_list {K : PySem.W.Frag} : DCall K (fun xs H Q => ∃ p ys, xs = [.ref p] ∧ (SqL K H p ys ∨ SqT K H p ys) ∧ ∀ l, H l = none → Q (.ref l) (upd H l (.lst ys))) cList := by
  intro J B H ds k vs Q h s w t q
  unfold cList at h
  split at h
  · obtain ⟨v, rfl, t1⟩ := ts1 t
    obtain ⟨a, xs, rfl, aH, ra⟩ := t1.lst s
    exact ⟨a, xs, rfl, .inl (SqL.of aH), fun p hp => fin_lst hp h s w ra q⟩
  · obtain ⟨v, rfl, t1⟩ := ts1 t
    obtain ⟨a, xs, rfl, aB, aH, ra⟩ := t1.tup s
    exact ⟨a, xs, rfl, .inr aH, fun p hp => fin_lst hp h s w ra q⟩
  · exact h.elim
/-- min, max of two, abs, int -/
def cII (g : Int → Int → D) : RcD := fun ds k => match ds with
  | [.int i, .int j] => k (.c (g i j))
  | _ => False
theorem dc_min {K : PySem.W.Frag} : DCall K (fun xs H Q => ∃ i j, xs = [.int i, .int j] ∧ Q (.int (if j < i then j else i)) H) (cII fun i j => .int (if j < i then j else i)) := by
  intro J B H ds k vs Q h s w t q
  unfold cII at h
  split at h
  · obtain ⟨v, v', rfl, t1, t2⟩ := ts2 t
    cases t1.int
    cases t2.int
    exact ⟨_, _, rfl, fin_c h s w (by rw [Rep]) q⟩
  · exact h.elim
theorem dc_max {K : PySem.W.Frag} : DCall K (fun xs H Q => ∃ i j, xs = [.int i, .int j] ∧ Q (.int (if j > i then j else i)) H) (cII fun i j => .int (if j > i then j else i)) := by
  intro J B H ds k vs Q h s w t q
  unfold cII at h
  split at h
  · obtain ⟨v, v', rfl, t1, t2⟩ := ts2 t
    cases t1.int
    cases t2.int
    exact ⟨_, _, rfl, fin_c h s w (by rw [Rep]) q⟩
  · exact h.elim
def cAbs : RcD := fun ds k => match ds with
  | [.int i] => k (.c (.int (if i < 0 then -i else i)))
  | _ => False
theorem dc_abs {K : PySem.W.Frag} : DCall K (fun xs H Q => ∃ i, xs = [.int i] ∧ Q (.int (if i < 0 then -i else i)) H) cAbs := by
  intro J B H ds k vs Q h s w t q
  unfold cAbs at h
  split at h
  · obtain ⟨v, rfl, t1⟩ := ts1 t
    cases t1.int
    exact ⟨_, rfl, fin_c h s w (by rw [Rep]) q⟩
  · exact h.elim
def cInt : RcD := fun ds k => match ds with
  | [.int i] => k (.c (.int i))
  | [.bl t] => k (.c (.int (if t then 1 else 0)))
  | _ => False
theorem dc_int {K : PySem.W.Frag} : DCall K (fun xs H Q => (∃ i, xs = [.int i] ∧ Q (.int i) H) ∨ ∃ k, xs = [.bl k] ∧ Q (.int (if k then 1 else 0)) H) cInt := by
  intro J B H ds k vs Q h s w t q
  unfold cInt at h
  split at h
  · obtain ⟨v, rfl, t1⟩ := ts1 t
    cases t1.int
    exact .inl ⟨_, rfl, fin_c h s w (by rw [Rep]) q⟩
  · obtain ⟨v, rfl, t1⟩ := ts1 t
    cases t1.bl
    exact .inr ⟨_, rfl, fin_c h s w (by rw [Rep]) q⟩
  · exact h.elim
/-- isinstance(x, T), T a built-in type -/
def tyD : D → String
  | .non => "NoneType"
  | .bl _ => "bool"
  | .int _ => "int"
  | .str _ => "str"
  | .lst _ => "list"
  | .tup _ => "tuple"
  | .frl _ => "list"
  | .emp => "dict"
  | .ty _ => "type"
  | .rng _ _ => "range"
  | .dct _ _ => "dict"
/-- not a class -/
def noTy : D → Bool
  | .ty _ => false
  | .rng _ _ => false
  | .dct _ _ => false
  | _ => true
theorem noTy_ne {d : D} (h : noTy d = true) : ∀ m, d ≠ .ty m := fun m e => by subst e; cases h
def cIsi : RcD := fun ds k => match ds with
  | [d, .ty n] => noTy d = true ∧ ∃ t, kitB (tyD d) n = some t ∧ k (.c (.bl t))
  | _ => False
theorem tyx_of {K : PySem.W.Frag} {J : Option Addr} {B H : Hp} {d : D} {v : V} (s : Same B H) (nt : noTy d = true) (h : RepT K J B H d v) : TyX K H v (.type (tyD d)) := by
  cases d with
  | non => cases h.non; exact .base .non
  | bl b => cases h.bl; exact .base (.bl b)
  | int i => cases h.int; exact .base (.int i)
  | str x => cases h.str; exact .base (.str x)
  | lst ds => obtain ⟨a, xs, rfl, aH, _⟩ := h.lst s; exact .base (.lst aH)
  | tup ds =>
    obtain ⟨a, xs, rfl, _, aH, _⟩ := h.tup s
    rcases aH with (aH | ⟨o, aH⟩) | ⟨o, its, n, hk, hc, _⟩
    · exact .base (.tup aH)
    · exact .fTuple aH
    · exact .kTuple hk hc
  | frl ds =>
    have t := h.rep (fun _ => by simp)
    rw [Rep] at t
    obtain ⟨a, xs, rfl, aB, ra⟩ := t
    rcases Same.seq s aB with (aH | ⟨o, aH⟩) | ⟨o, its, n, hk, hc, _⟩
    · exact .base (.lst aH)
    · exact .base (.frz aH)
    · exact .kList hk hc
  | emp =>
    have t := h.rep (fun _ => by simp)
    rw [Rep] at t
    obtain ⟨a, rfl, aB⟩ := t
    exact .base (.dK (s _ _ aB))
  | ty n => cases nt
  | rng lo hi => cases nt
  | dct ks ds => cases nt
theorem dc_isi {K : PySem.W.Frag} : DCall K (rIsi K) cIsi := by
  intro J B H ds k vs Q h s w t q
  unfold cIsi at h
  split at h
  · rename_i d n
    obtain ⟨v, v', rfl, t1, t2⟩ := ts2 t
    obtain ⟨nt, b, hk, h⟩ := h
    have t2 := t2.rep (fun _ => by simp)
    rw [Rep] at t2; subst t2
    exact ⟨v, _, _, _, b, rfl, .ty n, tyx_of s nt t1, kit_ty hk, fin_c h s w (by rw [Rep]) q⟩
  · exact h.elim

end
end Dl
namespace Dl
open PySem PySem.Spec PyProof.Rows L2
section
variable {X : Cx} {e a b c : Expr} {es : List Expr} {pos : Pos}
/-! ### defs -/
def ArgOk (K : PySem.W.Frag) (J : Option Addr) (B : Hp) : S → V → Prop
  | .val d, v => Rep K B d v
  | .dice, v => ∃ a, J = some a ∧ v = .ref a
  | _, _ => False
def ArgsOk (K : PySem.W.Frag) (J : Option Addr) (B : Hp) : List S → List V → Prop
  | [], vs => vs = []
  | s :: ss, vs => ∃ v r, vs = v :: r ∧ ArgOk K J B s v ∧ ArgsOk K J B ss r
/-- a def's promise over data: it may use up dice; what it hands back is known, or a new list -/
def SpD (K : PySem.W.Frag) (n : Nat) (pre : List S → Prop) (post : List S → DV → Prop) : Sp := fun vs H Q _ => ∃ J B xs, xs.length = n ∧ ArgsOk K J B xs vs ∧ Same B H ∧ Own J B H ∧ pre xs ∧
  ∀ r v B' H', post xs r → Grow J B H B' H' → Own J B' H' → RepV K J H B' H' [] [] r v → Q v H'
theorem rv_any {K : PySem.W.Frag} {J : Option Addr} {Hs B H : Hp} {r : DV} {v : V} (h : RepV K J Hs B H [] [] r v) (nj : r ≠ .j) (σ : L2.St) (δ : List S) : RepV K J Hs B H σ δ r v := by
  cases r with
  | c d => exact h
  | f ds => exact h
  | o i => obtain ⟨⟨ds, e⟩, _⟩ := h; simp at e
  | j => exact absurd rfl nj
theorem ArgsOk.len {K : PySem.W.Frag} {J : Option Addr} {B : Hp} : ∀ {xs : List S} {vs : List V}, ArgsOk K J B xs vs → vs.length = xs.length
  | [], _, h => by rw [show _ = [] from h]; rfl
  | s :: ss, _, h => by obtain ⟨v, r, rfl, _, h2⟩ := h; simp [h2.len]
def toS : List DV → Option (List S)
  | [] => some []
  | .j :: xs => (toS xs).map (S.dice :: ·)
  | x :: xs => match cl x, toS xs with
    | some d, some ss => some (.val d :: ss)
    | _, _ => none
/-- all that may be kept of them is kept -/
def cj : List DV → List D
  | [] => []
  | x :: xs => match cl x with
    | some d => d :: cj xs
    | none => cj xs
section
variable {K : PySem.W.Frag} {J : Option Addr} {Hs B B' H' : Hp} {σ : L2.St} {δ : List S}
theorem RepVs.args {xs : List DV} (ws : NoD J Hs) : ∀ {vs : List V} {ss : List S}, Grow J B Hs B' H' → Own J B' H' → RepVs K J Hs B' H' σ δ xs vs → toS xs = some ss →
    ∃ B2, Grow J B Hs B2 H' ∧ Own J B2 H' ∧ Same B' B2 ∧ ArgsOk K J B2 ss vs ∧ ∀ b, (∀ (j : Nat) es, xs[j]? = some (.f es) → vs[j]? ≠ some (.ref b)) → B2 b = B' b := by
  induction xs with
  | nil => intro vs ss g w h e; cases e; cases (show vs = [] from h); exact ⟨B', g, w, .refl _, rfl, fun _ _ => rfl⟩
  | cons x xs ih =>
    intro vs ss g w h e
    obtain ⟨v, r, rfl, h1, h2, h3⟩ := h
    have val : ∀ d, cl x = some d → ∀ ss', toS xs = some ss' → ss = .val d :: ss' → ∃ B2, Grow J B Hs B2 H' ∧ Own J B2 H' ∧ Same B' B2 ∧ ArgsOk K J B2 ss (v :: r) ∧ ∀ b, (∀ (j : Nat) es, (x :: xs)[j]? = some (.f es) → (v :: r)[j]? ≠ some (.ref b)) → B2 b = B' b := by
      intro d hx ss' hxs hss
      subst hss
      obtain ⟨B2, g2, w2, s2, r2, f2⟩ := ih g w h2 hxs
      have h1' : RepV K J Hs B2 H' σ δ x v := by
        cases x with
        | c d' => exact Rep.mono s2 h1
        | f es =>
          obtain ⟨a, ys, rfl, nS, nB, hH, q⟩ := h1
          exact ⟨a, ys, rfl, nS, by rw [f2 a fun j es' e1 e2 => h3 _ rfl j es' e1 e2]; exact nB, hH, q.mono s2⟩
        | o i => exact h1
        | j => exact h1
      obtain ⟨B3, g3, w3, s3, r3, f3⟩ := h1'.keep ws g2 w2 hx
      have am : ∀ {ss : List S} {vs : List V}, ArgsOk K J B2 ss vs → ArgsOk K J B3 ss vs := by
        intro ss
        induction ss with
        | nil => intro vs h; exact h
        | cons s ss ih =>
          intro vs h
          obtain ⟨v, r, rfl, a1, a2⟩ := h
          refine ⟨v, r, rfl, ?_, ih a2⟩
          cases s with
          | val d => exact Rep.mono s3 a1
          | dice => exact a1
          | no => exact a1
          | own _ => exact a1
      refine ⟨B3, g3, w3, s2.trans s3, ⟨v, r, rfl, r3, am r2⟩, fun b hb => ?_⟩
      rw [f3 b fun es e1 e2 => hb 0 es (by simp [e1]) (by simp [e2]), f2 b fun j es e1 e2 => hb (j + 1) es (by simpa using e1) (by simpa using e2)]
    cases x with
    | c d =>
      cases hxs : toS xs with
      | none => simp [toS, cl, hxs] at e
      | some ss' => exact val d rfl ss' hxs (by simpa [toS, cl, hxs] using e.symm)
    | f es =>
      cases hxs : toS xs with
      | none => simp [toS, cl, hxs] at e
      | some ss' => exact val (.lst es) rfl ss' hxs (by simpa [toS, cl, hxs] using e.symm)
    | o i => simp [toS, cl] at e
    | j =>
      cases hxs : toS xs with
      | none => simp [toS, hxs] at e
      | some ss' =>
        have : ss = .dice :: ss' := by simpa [toS, hxs] using e.symm
        subst this
        obtain ⟨B2, g2, w2, s2, r2, f2⟩ := ih g w h2 hxs
        exact ⟨B2, g2, w2, s2, ⟨v, r, rfl, h1, r2⟩, fun b hb => f2 b fun j es e1 e2 => hb (j + 1) es (by simpa using e1) (by simpa using e2)⟩
end
/-- the call of a def; what comes back is known or a new list -/
def wCall (n : Nat) (pre : List S → Prop) (post : List S → DV → Prop) (wa : DA) : DE := fun δ k => wa δ fun xs => ∃ ss, toS xs = some ss ∧ ss.length = n ∧ pre ss ∧ ∀ r, post ss r → r ≠ .j ∧ k r
theorem de_call {CX : CXT} {k n : Nat} {f : Addr} {fd : FuncData} {ps : List Str} {pre : List S → Prop} {post : List S → DV → Prop} {x : Str} {p : Pos} {wa : DA} {E : XK}
    (F : FnOk X.prog X.w X.K X.mg X.base CX k f fd ps (SpD X.K n pre post)) (hr : Room k X.A) (hg : Gl X x) (hm : X.mg x = some (.ref f)) (hk : PySem.W.keepIn X.K (.ref f) = true) (hb : Binds X.K fd ps []) (hx : Passes CX X E)
    (ha : Da X (e :: es) wa) (hdb : (x == ("__debug__" : Str)) = false := by decide) (he : starEach (e :: es) X.env = (false, eval e X.env) :: starEach es X.env := by rfl) (hpl : (backTo pos (starEach es X.env)).any (·.1) = false := by rfl) :
    De X (.Call (.Name x p) (e :: es) [] pos) (wCall n pre post wa) := by
  obtain ⟨ta, pa, va⟩ := ha.ex
  refine ⟨_, pe_call F hr hg hm hk hb .nil hx pa hdb he hpl, ?_⟩
  intro J B0 H0 B H σ δ e k h Q q
  refine va e _ h _ fun xs vs B1 H1 h1 g1 w1 r1 => ?_
  obtain ⟨ss, hs, hn, hp, h1⟩ := h1
  obtain ⟨B2, g2, w2, _, r2, _⟩ := r1.args e.nod g1 w1 hs
  show SpD _ _ _ _ (vs ++ []) H1 Q _
  rw [List.append_nil]
  exact ⟨J, B2, ss, hn, r2, g2.bh, w2, hp, fun r v B' H' po g w rr => q r v B' H' (h1 r po).2 (g2.trans g) w ((rv_any rr (h1 r po).1 σ δ).back g2.ne)⟩
/-- the call of a def whose first argument is a new list of dice -/
def wCallF (n : Nat) (pre : List S → Prop) (post : List S → DV → Prop) (wa : DA) : DE := fun δ k => wa δ fun xs => ∃ l m c ys ss, xs = .f [.int l, .int m, .int c] :: ys ∧ 0 ≤ l ∧ toS ys = some ss ∧ (∀ s ∈ ss, ∃ d, s = .val d) ∧ (ss.length + 1 = n) ∧ pre (.dice :: ss) ∧
  ∀ r, post (.dice :: ss) r → r ≠ .j ∧ k r
theorem Grow.ofDice {J : Option Addr} {a : Addr} {B H B1 H1 B2 H2 : Hp} (n : H a = none) (g1 : Grow J B H B1 H1) (g2 : Grow (some a) B1 H1 B2 H2) (nj : J ≠ some a) : Grow J B H B2 H2 :=
  ⟨g1.bb.trans g2.bb, g2.bh, fun b o hb e => g2.hh b o (fun z => by cases z; rw [n] at e; cases e) (g1.hh b o hb e), fun b e => g2.ne b (g1.ne b e), fun b e => (g2.fr b (g1.ne b e)).trans (g1.fr b e)⟩
theorem Own.ofDice {J : Option Addr} {a : Addr} {B1 H1 B2 H2 : Hp} (w : Own J B1 H1) (g2 : Grow (some a) B1 H1 B2 H2) (nj : J ≠ some a) : Own J B2 H2 := fun b e => by
  obtain ⟨h1, l, m, c, h0, h2⟩ := w b e
  exact ⟨by rw [g2.fr b (by rw [h2]; simp)]; exact h1, l, m, c, h0, g2.hh b _ (fun z => nj (by rw [e, z])) h2⟩
theorem args_dice {K : PySem.W.Frag} {J J' : Option Addr} {B : Hp} : ∀ {ss : List S} {vs : List V}, (∀ s ∈ ss, ∃ d, s = .val d) → ArgsOk K J B ss vs → ArgsOk K J' B ss vs
  | [], _, _, h => h
  | s :: ss, _, hs, h => by
    obtain ⟨v, r, rfl, h1, h2⟩ := h
    obtain ⟨d, rfl⟩ := hs s List.mem_cons_self
    exact ⟨v, r, rfl, h1, args_dice (fun s z => hs s (List.mem_cons_of_mem _ z)) h2⟩
theorem de_callF {CX : CXT} {k n : Nat} {f : Addr} {fd : FuncData} {ps : List Str} {pre : List S → Prop} {post : List S → DV → Prop} {x : Str} {p : Pos} {wa : DA} {E : XK}
    (F : FnOk X.prog X.w X.K X.mg X.base CX k f fd ps (SpD X.K n pre post)) (hr : Room k X.A) (hg : Gl X x) (hm : X.mg x = some (.ref f)) (hk : PySem.W.keepIn X.K (.ref f) = true) (hb : Binds X.K fd ps []) (hx : Passes CX X E)
    (ha : Da X (e :: es) wa) (hdb : (x == ("__debug__" : Str)) = false := by decide) (he : starEach (e :: es) X.env = (false, eval e X.env) :: starEach es X.env := by rfl) (hpl : (backTo pos (starEach es X.env)).any (·.1) = false := by rfl) :
    De X (.Call (.Name x p) (e :: es) [] pos) (wCallF n pre post wa) := by
  obtain ⟨ta, pa, va⟩ := ha.ex
  refine ⟨_, pe_call F hr hg hm hk hb .nil hx pa hdb he hpl, ?_⟩
  intro J B0 H0 B H σ δ e k h Q q
  refine va e _ h _ fun xs vs B1 H1 h1 g1 w1 r1 => ?_
  obtain ⟨l, m, c, ys, ss, rfl, hl, hs, hv, hn, hp, h1⟩ := h1
  obtain ⟨v, r, rfl, ⟨a, ws, rfl, nS, nB, hH, rr⟩, r2, r3⟩ := r1
  obtain ⟨B2, g2, w2, s2, r2', f2⟩ := r2.args e.nod g1 w1 hs
  have nj : J ≠ some a := fun z => e.nod a z nS
  have hB2 : B2 a = none := by rw [f2 a fun j es e1 e2 => r3 _ rfl j es e1 e2]; exact nB
  have hws : ws = [.int l, .int m, .int c] := reps_ints_eq (ns := [l, m, c]) rr
  subst hws
  show SpD _ _ _ _ ((V.ref a :: r) ++ []) H1 Q _
  rw [List.append_nil]
  refine ⟨some a, B2, .dice :: ss, by simpa using hn, ⟨_, _, rfl, ⟨a, rfl, rfl⟩, args_dice hv r2'⟩, g2.bh, fun b z => ?_, hp, fun r v B' H' po g w rr => ?_⟩
  · cases z; exact ⟨hB2, l, m, c, hl, hH⟩
  · have g3 := Grow.ofDice nS g2 g nj
    have rr' : RepV X.K J H1 B' H' σ δ r v := by
      have := rv_any rr (h1 r po).1 σ δ
      cases r with
      | c d => exact this
      | f ds => exact this
      | o i => exact this
      | j => exact absurd rfl (h1 _ po).1
    exact q r v B' H' (h1 r po).2 g3 (w2.ofDice g nj) (rr'.back g2.ne)
end
end Dl
namespace Dl
open PySem PySem.Spec PyProof.Rows L2

/-! ### the slots change -/
def sv : DV → Option S
  | .c d => some (.val d)
  | .f ds => some (.own ds)
  | _ => none
section
variable {K : PySem.W.Frag} {J : Option Addr} {B0 H0 B H B1 H1 : Hp} {σ σ' : L2.St} {δ δ' : List S} {x : DV} {d : D} {v : V} {s : S} {i : Nat}
theorem getD_set {σ : L2.St} {i j : Nat} {o : Option V} : ((σ.set i o)[j]?).getD none = if i = j ∧ j < σ.length then o else (σ[j]?).getD none := by
  rw [List.getElem?_set]
  by_cases h : i = j
  · subst h
    by_cases h2 : i < σ.length
    · simp [h2]
    · simp [h2, List.getElem?_eq_none (Nat.le_of_not_lt h2)]
  · simp [h]
/-- .. at one heap -/
theorem Env.put2 {Hs : Hp} (e : Env K J B0 H0 B H σ δ) (r : RepV K J Hs B H σ' δ' x v) (hs : sv x = some s) (i : Nat) (hn : ∀ ds, x = .f ds → ∀ a, v = .ref a → ∀ (k : Nat) es, δ[k]? = some (.own es) → σ[k]? = some (some (.ref a)) → False) (h0 : ∀ b, H0 b ≠ none → Hs b ≠ none) :
    Env K J B0 H0 B H (σ.set i (some v)) (δ.set i s) := by
  have rs : RS K J H0 B H s (some v) := by
    cases x with
    | c d => cases hs; exact ⟨v, rfl, r⟩
    | f ds =>
      cases hs
      obtain ⟨a, xs, rfl, nS, nB, hH, rr⟩ := r
      exact ⟨a, xs, rfl, Classical.byContradiction fun z => h0 a z nS, nB, hH, rr⟩
    | o i => cases hs
    | j => cases hs
  refine ⟨e.gr, e.ow, e.jn, by simp [e.ln], fun j s' h => ?_, fun j k ds es a njk h1 h2 h3 h4 => ?_⟩
  · rw [getD_set]
    rw [List.getElem?_set] at h
    by_cases hij : i = j
    · subst hij
      by_cases h2 : i < δ.length
      · simp [h2] at h
        subst h
        rw [if_pos ⟨rfl, by rw [← e.ln]; exact h2⟩]
        exact rs
      · simp [h2] at h
    · rw [if_neg hij] at h
      rw [if_neg (fun z => hij z.1)]
      exact e.sl j s' h
  · have other : ∀ (j k : Nat) (ds es : List D), i = j → j ≠ k → s = .own ds → (δ.set i s)[k]? = some (S.own es) → some v = some (V.ref a) → (σ.set i (some v))[k]? = some (some (.ref a)) → False := by
      intro j k ds es hij njk hsd hk hv hk2
      subst hij
      rw [List.getElem?_set, if_neg njk] at hk hk2
      subst hsd
      cases x with
      | c d => cases hs
      | f ds' => exact hn ds' rfl a (Option.some.inj hv) k es hk hk2
      | o i => cases hs
      | j => cases hs
    by_cases hij : i = j
    · have hlt : i < δ.length := by
        rw [hij]
        have := (List.getElem?_eq_some_iff.mp h1).1
        simpa using this
      have hlt2 : i < σ.length := by rw [← e.ln]; exact hlt
      refine other j k ds es hij njk ?_ h2 ?_ h4
      · rw [List.getElem?_set, if_pos hij] at h1
        simp [hlt] at h1; exact h1
      · rw [List.getElem?_set, if_pos hij] at h3
        simp [hlt2] at h3
        rw [h3]
    · by_cases hik : i = k
      · have hlt : i < δ.length := by
          rw [hik]
          have := (List.getElem?_eq_some_iff.mp h2).1
          simpa using this
        have hlt2 : i < σ.length := by rw [← e.ln]; exact hlt
        refine other k j es ds hik (Ne.symm njk) ?_ h1 ?_ h3
        · rw [List.getElem?_set, if_pos hik] at h2
          simp [hlt] at h2; exact h2
        · rw [List.getElem?_set, if_pos hik] at h4
          simp [hlt2] at h4
          rw [h4]
      · rw [List.getElem?_set, if_neg hij] at h1 h3
        rw [List.getElem?_set, if_neg hik] at h2 h4
        exact e.ap j k ds es a njk h1 h2 h3 h4
/-- a slot gets a value -/
theorem Env.put (e : Env K J B0 H0 B H σ δ) (g : Grow J B H B1 H1) (w : Own J B1 H1) (r : RepV K J H B1 H1 σ δ x v) (hs : sv x = some s) (i : Nat) : Env K J B0 H0 B1 H1 (σ.set i (some v)) (δ.set i s) := by
  refine (e.step g w).put2 r hs i (fun ds hx a hv k es hk hsk => ?_) e.gr.ne
  subst hx
  obtain ⟨a2, xs2, p1, p2, p3, p4, _⟩ := e.ownJ hk
  rw [hsk] at p1; cases p1
  obtain ⟨a3, _, p5, p6, _⟩ := r
  rw [hv] at p5; cases p5
  rw [p4] at p6; cases p6
theorem Env.putc (e : Env K J B0 H0 B H σ δ) (r : Rep K B d v) (i : Nat) : Env K J B0 H0 B H (σ.set i (some v)) (δ.set i (.val d)) :=
  e.put (x := .c d) (.refl e.bh) e.ow r rfl i
/-- a list of one's own changes -/
theorem Env.change {a : Addr} {ds ds' : List D} {xs xs' : List V} (e : Env K J B0 H0 B H σ δ) (hd : δ[i]? = some (.own ds)) (hs : σ[i]? = some (some (.ref a))) (hH : H a = some (.lst xs)) (r : Reps K B ds' xs') :
    Env K J B0 H0 B (upd H a (.lst xs')) σ (δ.set i (.own ds')) := by
  obtain ⟨a', xs2, q1, n0, nB, q4, q5, nj⟩ := e.ownJ hd
  rw [hs] at q1; cases q1
  refine ⟨⟨e.gr.bb, fun b o eb => ?_, fun b o nb eb => ?_, fun b eb => ?_, e.gr.fr⟩, fun b z => ?_, e.jn, by simp [e.ln], fun j s' h => ?_, fun j k ds es a2 njk h1 h2 h3 h4 => ?_⟩
  · rw [upd_ne (fun z => by rw [z, nB] at eb; cases eb)]; exact e.gr.bh b o eb
  · rw [upd_ne (fun z => by rw [z, n0] at eb; cases eb)]; exact e.gr.hh b o nb eb
  · by_cases hb : b = a
    · rw [hb, upd_same]; simp
    · rw [upd_ne hb]; exact e.gr.ne b eb
  · obtain ⟨h1, l, m, c, h0, h2⟩ := e.ow b z
    exact ⟨h1, l, m, c, h0, by rw [upd_ne (fun q => nj (by rw [z, q]))]; exact h2⟩
  · rw [List.getElem?_set] at h
    by_cases hij : i = j
    · subst hij
      have hlt : i < δ.length := (List.getElem?_eq_some_iff.mp hd).1
      simp [hlt] at h
      subst h
      rw [hs]
      exact ⟨a, xs', rfl, n0, nB, upd_same, r⟩
    · rw [if_neg hij] at h
      have q := e.sl j s' h
      cases s' with
      | no => trivial
      | val d => exact q
      | dice => exact q
      | own es =>
        obtain ⟨a2, ys, q1, q2, q3, q4, q5⟩ := q
        have hj : σ[j]? = some (some (.ref a2)) := by
          obtain ⟨o, ho, _⟩ := e.slot h
          rw [ho] at q1 ⊢
          simp at q1; rw [q1]
        have na : a2 ≠ a := fun z => e.ap i j ds es a hij hd h hs (by rw [← z]; exact hj)
        exact ⟨a2, ys, q1, q2, q3, by rw [upd_ne na]; exact q4, q5⟩
  · have back : ∀ (j : Nat) (ds : List D), (δ.set i (.own ds'))[j]? = some (S.own ds) → ∃ es, δ[j]? = some (S.own es) := by
      intro j ds h
      rw [List.getElem?_set] at h
      by_cases hij : i = j
      · subst hij; exact ⟨_, hd⟩
      · rw [if_neg hij] at h; exact ⟨_, h⟩
    obtain ⟨_, h1⟩ := back j _ h1
    obtain ⟨_, h2⟩ := back k _ h2
    exact e.ap j k _ _ a2 njk h1 h2 h3 h4
/-- a list of one's own is no more changed -/
theorem Env.freeze {ds : List D} (e : Env K J B0 H0 B H σ δ) (hd : δ[i]? = some (.own ds)) : ∃ B2, Env K J B0 H0 B2 H σ (δ.set i (.val (.lst ds))) ∧ Same B B2 ∧ ∃ a, σ[i]? = some (some (.ref a)) ∧ Rep K B2 (.lst ds) (.ref a) := by
  obtain ⟨a, xs, hs, n0, nB, hH, r, nj⟩ := e.ownJ hd
  have sm : Same B (upd B a (.lst xs)) := upd_same_of nB
  have rp : Rep K (upd B a (.lst xs)) (.lst ds) (.ref a) := by rw [Rep]; exact ⟨a, xs, rfl, upd_same, r.mono sm⟩
  refine ⟨upd B a (.lst xs), ⟨⟨e.gr.bb.trans sm, fun b o eb => ?_, e.gr.hh, e.gr.ne, fun b eb => ?_⟩, fun b z => ?_, e.jn, by simp [e.ln], fun j s' h => ?_, fun j k ds' es a2 njk h1 h2 h3 h4 => ?_⟩, sm, a, hs, rp⟩
  · by_cases hb : b = a
    · subst hb; rw [upd_same] at eb; cases eb; exact hH
    · rw [upd_ne hb] at eb; exact e.gr.bh b o eb
  · rw [upd_ne (fun z => by rw [z] at eb; exact eb n0)]; exact e.gr.fr b eb
  · obtain ⟨h1, l, m, c, h0, h2⟩ := e.ow b z
    exact ⟨by rw [upd_ne (fun q => nj (by rw [z, q]))]; exact h1, l, m, c, h0, h2⟩
  · rw [List.getElem?_set] at h
    by_cases hij : i = j
    · subst hij
      have hlt : i < δ.length := (List.getElem?_eq_some_iff.mp hd).1
      simp [hlt] at h
      subst h
      rw [hs]
      exact ⟨_, rfl, rp⟩
    · rw [if_neg hij] at h
      have q := e.sl j s' h
      cases s' with
      | no => trivial
      | val d => obtain ⟨v, q1, q2⟩ := q; exact ⟨v, q1, q2.mono sm⟩
      | dice => exact q
      | own es =>
        obtain ⟨a2, ys, q1, q2, q3, q4, q5⟩ := q
        have hj : σ[j]? = some (some (.ref a2)) := by
          obtain ⟨o, ho, _⟩ := e.slot h
          rw [ho] at q1 ⊢
          simp at q1; rw [q1]
        have na : a2 ≠ a := fun z => e.ap i j ds es a hij hd h hs (by rw [← z]; exact hj)
        exact ⟨a2, ys, q1, q2, by rw [upd_ne na]; exact q3, q4, q5.mono sm⟩
  · have back : ∀ (j : Nat) (ds' : List D), (δ.set i (.val (.lst ds)))[j]? = some (S.own ds') → δ[j]? = some (S.own ds') := by
      intro j ds' h
      rw [List.getElem?_set] at h
      by_cases hij : i = j
      · subst hij
        have hlt : i < δ.length := (List.getElem?_eq_some_iff.mp hd).1
        simp [hlt] at h
      · rw [if_neg hij] at h; exact h
    exact e.ap j k _ _ a2 njk (back j _ h1) (back k _ h2) h3 h4
/-- more is known ahead of a loop -/
theorem Env.rebase (e : Env K J B0 H0 B H σ δ) : Env K J B H0 B H σ δ :=
  ⟨⟨.refl _, e.gr.bh, e.gr.hh, e.gr.ne, fun _ _ => rfl⟩, e.ow, e.jn, e.ln, e.sl, e.ap⟩
theorem Grow.unbase {B2 H2 : Hp} (g : Grow J B0 H0 B H) (g2 : Grow J B H0 B2 H2) : Grow J B0 H0 B2 H2 :=
  ⟨g.bb.trans g2.bb, g2.bh, g2.hh, g2.ne, fun b e => (g2.fr b e).trans (g.fr b e)⟩
theorem Env.unbase {B2 H2 : Hp} {σ2 : L2.St} {δ2 : List S} (e : Env K J B0 H0 B H σ δ) (e2 : Env K J B H0 B2 H2 σ2 δ2) : Env K J B0 H0 B2 H2 σ2 δ2 :=
  ⟨e.gr.unbase e2.gr, e2.ow, e2.jn, e2.ln, e2.sl, e2.ap⟩
end

section
variable {X : Cx} {e a b c tg iter : Expr} {es : List Expr} {pos : Pos} {st : Stmt} {rest body : List Stmt}
theorem dss_nil : Dss X [] (fun R δ => R.nx δ) := by
  refine ⟨_, pss_nil, ?_⟩
  intro J B0 H0 B H σ δ e R h En F
  exact F.nx h e
def wSeq (w1 w2 : DS) : DS := fun R δ => w1 { R with nx := w2 R } δ
theorem dss_cons {w1 w2 : DS} (h1 : Ds X st w1) (h2 : Dss X rest w2) : Dss X (st :: rest) (wSeq w1 w2) := by
  obtain ⟨t1, p1, v1⟩ := h1.ex
  obtain ⟨t2, p2, v2⟩ := h2.ex
  refine ⟨_, pss_cons p1 p2, ?_⟩
  intro J B0 H0 B H σ δ e R h En F
  exact v1 e { R with nx := w2 R } h { En with nx := t2 En } ⟨fun h' e' => v2 e' R h' En F, F.rt, F.bk, F.ct⟩
theorem dss_one {w1 : DS} (h1 : Ds X st w1) : Dss X [st] w1 := by
  obtain ⟨t1, p1, v1⟩ := h1.ex
  exact ⟨_, pss_one p1, v1⟩
theorem ds_pass : Ds X (.Pass pos) (fun R δ => R.nx δ) := by
  refine ⟨_, ps_pass, ?_⟩
  intro J B0 H0 B H σ δ e R h En F
  exact F.nx h e
theorem ds_break : Ds X (.Break pos) (fun R δ => R.bk δ) := by
  refine ⟨_, ps_break, ?_⟩
  intro J B0 H0 B H σ δ e R h En F
  exact F.bk h e
theorem ds_cont : Ds X (.Continue pos) (fun R δ => R.ct δ) := by
  refine ⟨_, ps_continue, ?_⟩
  intro J B0 H0 B H σ δ e R h En F
  exact F.ct h e
def wNever : DS := fun _ _ => False
theorem ds_never : Ds X st wNever := by
  refine ⟨_, ps_never, ?_⟩
  intro J B0 H0 B H σ δ e R h En F
  exact h.elim
theorem dss_never : Dss X body wNever := by
  refine ⟨_, pss_never, ?_⟩
  intro J B0 H0 B H σ δ e R h En F
  exact h.elim
/-- return -/
def ret (δ : List S) : DV → Option DV
  | .c d => some (.c d)
  | .f ds => some (.f ds)
  | .o i => match δ[i]? with
    | some (.own ds) => some (.f ds)
    | _ => none
  | .j => none
def wRet (wa : DE) : DS := fun R δ => wa δ fun x => ∃ z, ret δ x = some z ∧ R.rt δ z
theorem rv_ret {K : PySem.W.Frag} {J : Option Addr} {B0 H0 B H Hs : Hp} {σ : L2.St} {δ : List S} {x z : DV} {v : V} (e : Env K J B0 H0 B H σ δ) (hs : ∀ b, H0 b ≠ none → Hs b ≠ none) (r : RepV K J Hs B H σ δ x v) (hz : ret δ x = some z) : RepV K J H0 B H [] [] z v := by
  cases x with
  | c d => cases hz; exact r
  | f ds => cases hz; exact (RepV.back hs r : RepV K J H0 B H σ δ (.f ds) v)
  | o i =>
    obtain ⟨⟨ds, hd⟩, hv⟩ := r
    have : z = .f ds := by simp only [ret, hd] at hz; cases hz; rfl
    subst this
    obtain ⟨a, xs, h1, h2, h3, h4, h5, _⟩ := e.ownJ hd
    rw [hv] at h1; cases h1
    exact ⟨a, xs, rfl, h2, h3, h4, h5⟩
  | j => cases hz
theorem ds_ret {wa : DE} (ha : De X a wa) : Ds X (.Return (some a) pos) (wRet wa) := by
  obtain ⟨ta, pa, va⟩ := ha.ex
  refine ⟨_, ps_ret pa, ?_⟩
  intro J B0 H0 B H σ δ e R h En F
  refine va e _ h _ fun x v B1 H1 h1 g1 w1 r1 => ?_
  obtain ⟨z, hz, h1⟩ := h1
  exact F.rt h1 (e.step g1 w1) (rv_ret (e.step g1 w1) e.gr.ne r1 hz)
theorem ds_retN : Ds X (.Return none pos) (fun R δ => R.rt δ (.c .non)) := by
  refine ⟨_, ps_retN, ?_⟩
  intro J B0 H0 B H σ δ e R h En F
  exact F.rt h e (by show Rep _ _ _ _; rw [Rep])
/-- an expression alone -/
def wDrop (wa : DE) : DS := fun R δ => wa δ fun _ => R.nx δ
theorem ds_drop {wa : DE} (ha : De X a wa) (hs : swapsWith a none pos.line X.env = pure false := by rfl) : Ds X (.Expr a pos) (wDrop wa) := by
  obtain ⟨ta, pa, va⟩ := ha.ex
  refine ⟨_, ps_expr pa hs, ?_⟩
  intro J B0 H0 B H σ δ e R h En F
  exact va e _ h _ fun x v B1 H1 h1 g1 w1 r1 => F.nx h1 (e.step g1 w1)
/-- x = e -/
def wSet (i : Nat) (wa : DE) : DS := fun R δ => wa δ fun x => ∃ s, sv x = some s ∧ R.nx (δ.set i s)
theorem ds_set {i : Nat} {x : Str} {pos' : Pos} {wa : DE} (hN : X.N.Nodup) (hi : X.N[i]? = some x) (hx : Loc X.env.scope x) (ha : De X e wa) (hs : swapsWith e (some (.Name x pos')) pos.line X.env = pure false := by rfl) (hf : X.fn x = true ∨ X.env.scope.names.lookup x = some .local := by first | exact .inl rfl | exact .inr rfl | assumption) :
    Ds X (.Assign [.Name x pos'] e pos) (wSet i wa) := by
  obtain ⟨ta, pa, va⟩ := ha.ex
  refine ⟨_, ps_set hN hi hx pa hs hf, ?_⟩
  intro J B0 H0 B H σ δ e R h En F
  refine va e _ h _ fun x v B1 H1 h1 g1 w1 r1 => ?_
  obtain ⟨s, hs, h1⟩ := h1
  exact F.nx h1 (e.put g1 w1 r1 hs i)
/-- x, y = e1, e2 -/
def wPar (i j : Nat) (wa : DA) : DS := fun R δ => wa δ fun xs => ∃ x y s t, xs = [x, y] ∧ sv x = some s ∧ sv y = some t ∧ R.nx ((δ.set i s).set j t)
theorem ds_par {i j : Nat} {x y : Str} {px py pt : Pos} {kt k2 pt2} {wa : DA} (hc : X.calm = true) (hN : X.N.Nodup) (hi : X.N[i]? = some x) (hj : X.N[j]? = some y) (hij : i ≠ j)
    (hx : X.env.scope.names.lookup x = some .local) (hy : X.env.scope.names.lookup y = some .local) (ha : Da X [a, b] wa)
    (hw : swappedStores [.Tuple [.Name x px, .Name y py] kt pt] (.Tuple [a, b] k2 pt2) X.env = pure (some [x, y]) := by rfl)
    (hs : swapsWithSole [.Tuple [.Name x px, .Name y py] kt pt] (.Tuple [a, b] k2 pt2) pos.line X.env = pure false := by rfl) :
    Ds X (.Assign [.Tuple [.Name x px, .Name y py] kt pt] (.Tuple [a, b] k2 pt2) pos) (wPar i j wa) := by
  obtain ⟨ta, pa, va⟩ := ha.ex
  refine ⟨_, ps_par hc hN hi hj hij hx hy pa hw hs, ?_⟩
  intro J B0 H0 B H σ δ e R h En F
  refine va e _ h _ fun xs vs B1 H1 h1 g1 w1 r1 => ?_
  obtain ⟨x, y, s, t, rfl, hx, hy, h1⟩ := h1
  obtain ⟨v, r, rfl, q1, ⟨u, r', rfl, q2, q3, _⟩, ap⟩ := r1
  cases (show r' = [] from q3)
  refine ⟨v, u, rfl, F.nx (B := B1) h1 ?_⟩
  have e1 := e.put g1 w1 q1 hx i
  -- the second value, against the first one
  refine Env.put2 e1 (x := y) q2 hy j (fun ds hds a hva k es hk hsk => ?_) e.gr.ne
  subst hds
  rw [List.getElem?_set] at hk hsk
  by_cases hik : i = k
  · subst hik
    have hlt : i < δ.length := by
      by_cases z : i < δ.length
      · exact z
      · simp [z] at hk
    have hlt2 : i < σ.length := by rw [← e.ln]; exact hlt
    simp [hlt] at hk
    simp [hlt2] at hsk
    cases x with
    | c d => cases hx; cases hk
    | f ds' => exact ap ds' rfl 0 ds rfl (by simp [hva, hsk])
    | o i => cases hx
    | j => cases hx
  · rw [if_neg hik] at hk hsk
    obtain ⟨a2, xs2, p1, p2, p3, p4, _⟩ := e.ownJ hk
    rw [hsk] at p1; cases p1
    obtain ⟨a3, _, p5, p6, _⟩ := q2
    rw [hva] at p5; cases p5
    rw [p4] at p6; cases p6
end
end Dl
namespace Dl
open PySem PySem.Spec PyProof.Rows L2
section
variable {X : Cx} {e a b c tg iter : Expr} {es : List Expr} {pos : Pos} {st : Stmt} {rest body : List Stmt}
/-- x += e -/
def wAug (i : Nat) (r : R2D) (wa : DE) : DS := fun R δ => ∃ d, δ[i]? = some (.val d) ∧ wa δ fun y => ∃ d', rd δ y = some d' ∧ r d d' fun z => ∃ s, sv z = some s ∧ R.nx (δ.set i s)
theorem ev_aug {K : PySem.W.Frag} {i : Nat} {ti : TIp} {r : R2D} {te : TE} {wa : DE} (hd : DOp K ti r) (va : EvE K te wa) : EvS K (tAug i te ti) (wAug i r wa) := by
  intro J B0 H0 B H σ δ e R h En F
  obtain ⟨d, hi, h⟩ := h
  obtain ⟨o, hs, v, rfl, rv⟩ := e.slot hi
  refine ⟨v, hs, va e _ h _ fun y u B1 H1 h1 g1 w1 r1 => ?_⟩
  have e1 := e.step g1 w1
  obtain ⟨d', rd', h1⟩ := h1
  refine hd h1 e1.bh w1 (.inl (rv.mono g1.bb)) (r1.toT e1 e.nod rd') fun z v' B2 H2 kz g2 w2 r2 => ?_
  obtain ⟨s, hs', kz⟩ := kz
  exact F.nx kz (e1.put g2 w2 (r2 σ δ) hs' i)
theorem ds_augI {i : Nat} {x : Str} {op : Operator} {pos' : Pos} {wa : DE} {g : Int → Int → Int} (hN : X.N.Nodup) (hi : X.N[i]? = some x) (hx : Loc X.env.scope x) (ho : PIp X op (ipI g)) (ha : De X e wa) (hf : X.fn x = true ∨ X.env.scope.names.lookup x = some .local := by first | exact .inl rfl | exact .inr rfl | assumption) :
    Ds X (.AugAssign (.Name x pos') op e pos) (wAug i (rII fun i j => .int (g i j)) wa) := by
  obtain ⟨ta, pa, va⟩ := ha.ex
  exact ⟨_, ps_aug hN hi hx pa ho hf, ev_aug (dop_I0 fun i j B => by rw [Rep]) va⟩
/-- if -/
def wIfS (wc : DT) (wa wb : DS) : DS := fun R δ => wc δ fun t => if t = true then wa R δ else wb R δ
theorem ds_if {A C : List Stmt} {wc : DT} {wa wb : DS} (hc : Dt X c wc) (ha : Dss X A wa) (hb : Dss X C wb) : Ds X (.If c A C pos) (wIfS wc wa wb) := by
  obtain ⟨tc, pc, vc⟩ := hc.ex
  obtain ⟨ta, pa, va⟩ := ha.ex
  obtain ⟨tb, pb, vb⟩ := hb.ex
  refine ⟨_, ps_if pc pa pb, ?_⟩
  intro J B0 H0 B H σ δ e R h En F
  refine vc e _ h _ fun t B1 H1 h1 g1 w1 => ?_
  cases t with
  | true => exact va (e.step g1 w1) R h1 En F
  | false => exact vb (e.step g1 w1) R h1 En F
/-- while -/
def wWhile (wc : DT) (wb : DS) : DS := fun R δ => ∃ W : Nat → List S → Prop, (∃ m, W m δ) ∧ ∀ m δ, W m δ → wc δ fun t => if t = true then wb { R with nx := fun δ' => ∃ m', m' < m ∧ W m' δ', ct := fun δ' => ∃ m', m' < m ∧ W m' δ', bk := R.nx } δ else R.nx δ
theorem ds_while {wc : DT} {wb : DS} (hp : PassesOwn (model X.prog X.w) X.A X.env X.xe) (hc : Dt X c wc) (hb : Dss X body wb) : Ds X (.While c body [] pos) (wWhile wc wb) := by
  obtain ⟨tc, pc, vc⟩ := hc.ex
  obtain ⟨tb, pb, vb⟩ := hb.ex
  refine ⟨_, ps_while hp pc pb, ?_⟩
  intro J B0 H0 B H σ δ e R h En F
  obtain ⟨W, ⟨m, w0⟩, turn⟩ := h
  refine ⟨fun m σ H => ∃ B δ, Env X.K J B0 H0 B H σ δ ∧ W m δ, ⟨m, B, δ, e, w0⟩, ?_⟩
  rintro m σ H ⟨B, δ, e, w⟩
  refine vc e _ (turn m δ w) _ fun t B1 H1 h1 g1 w1 => ?_
  cases t with
  | true =>
    refine ⟨fun σ' H' => ∃ m', m' < m ∧ ∃ B δ, Env X.K J B0 H0 B H' σ' δ ∧ W m' δ, fun σ' H' h => h, vb (e.step g1 w1) _ h1 _ ⟨fun h' e' => ?_, F.rt, F.nx, fun h' e' => ?_⟩⟩
    · obtain ⟨m', l, w'⟩ := h'; exact ⟨m', l, _, _, e', w'⟩
    · obtain ⟨m', l, w'⟩ := h'; exact ⟨m', l, _, _, e', w'⟩
  | false => exact F.nx h1 (e.step g1 w1)

/-! ### targets of known values -/
abbrev DG := D → List S → (List S → Prop) → Prop
abbrev DGs := List D → List S → (List S → Prop) → Prop
def EvG (K : PySem.W.Frag) (g : TG) (wg : DG) : Prop := ∀ ⦃J : Option Addr⦄ ⦃B0 H0 B H : Hp⦄ ⦃σ : L2.St⦄ ⦃δ : List S⦄, Env K J B0 H0 B H σ δ → ∀ (d : D) (v : V), Rep K B d v → ∀ k : List S → Prop, wg d δ k → ∀ Q : L2.St → Hp → Prop,
  (∀ B' σ' δ', k δ' → Same B B' → Env K J B0 H0 B' H σ' δ' → Q σ' H) → g v σ H Q
def EvGs (K : PySem.W.Frag) (g : TGs) (wg : DGs) : Prop := ∀ ⦃J : Option Addr⦄ ⦃B0 H0 B H : Hp⦄ ⦃σ : L2.St⦄ ⦃δ : List S⦄, Env K J B0 H0 B H σ δ → ∀ (ds : List D) (vs : List V), Reps K B ds vs → ∀ k : List S → Prop, wg ds δ k → ∀ Q : L2.St → Hp → Prop,
  (∀ B' σ' δ', k δ' → Same B B' → Env K J B0 H0 B' H σ' δ' → Q σ' H) → g vs σ H Q
structure Dg (X : Cx) (t : Expr) (w : DG) : Prop where
  ex : ∃ g, PG X t g ∧ EvG X.K g w
structure Dgs (X : Cx) (ts : List Expr) (w : DGs) : Prop where
  ex : ∃ g, PGs X ts g ∧ EvGs X.K g w
def wgName (i : Nat) : DG := fun d δ k => k (δ.set i (.val d))
theorem dg_name {i : Nat} {x : Str} (hN : X.N.Nodup) (hi : X.N[i]? = some x) (hx : Loc X.env.scope x) (hf : X.fn x = true ∨ X.env.scope.names.lookup x = some .local := by first | exact .inl rfl | exact .inr rfl | assumption) : Dg X (.Name x pos) (wgName i) := by
  refine ⟨_, pg_name hN hi hx hf, ?_⟩
  intro J B0 H0 B H σ δ e d v r k h Q q
  exact q B _ _ h (.refl _) (e.putc r i)
def wgNil : DGs := fun ds δ k => ds = [] ∧ k δ
def wgCons (w : DG) (ws : DGs) : DGs := fun ds δ k => ∃ d r, ds = d :: r ∧ w d δ fun δ' => ws r δ' k
theorem dgs_nil : Dgs X [] wgNil := by
  refine ⟨_, pgs_nil, ?_⟩
  intro J B0 H0 B H σ δ e ds vs r k h Q q
  obtain ⟨rfl, h⟩ := h
  rw [Reps] at r
  exact ⟨r, q B _ _ h (.refl _) e⟩
theorem dgs_cons {w : DG} {ws : DGs} (h1 : Dg X e w) (h2 : Dgs X es ws) (hs : (assignEach (e :: es) X.env).map (·.2) = assign e X.env :: (assignEach es X.env).map (·.2) := by rfl) : Dgs X (e :: es) (wgCons w ws) := by
  obtain ⟨t1, p1, v1⟩ := h1.ex
  obtain ⟨t2, p2, v2⟩ := h2.ex
  refine ⟨_, pgs_cons p1 p2 hs, ?_⟩
  intro J B0 H0 B H σ δ e ds vs r k h Q q
  obtain ⟨d, dr, rfl, h⟩ := h
  rw [Reps] at r
  obtain ⟨x, xs, rfl, r1, r2⟩ := r
  exact ⟨x, xs, rfl, v1 e d x r1 _ h _ fun B1 σ1 δ1 h1 s1 e1 => v2 e1 dr xs (r2.mono s1) _ h1 _ fun B2 σ2 δ2 h2 s2 e2 => q B2 σ2 δ2 h2 (s1.trans s2) e2⟩
def wgTup (n : Nat) (ws : DGs) : DG := fun d δ k => ∃ ds, d = .tup ds ∧ ds.length = n ∧ ws ds δ k
theorem dg_tup {k n : Nat} {ws : DGs} (hc : X.calm = true) (h : Dgs X es ws) (hn : (assignEach es X.env).length = n := by rfl) (hst : (assignEach es X.env).findIdx? (·.1) = none := by rfl) : Dg X (.Tuple es k pos) (wgTup n ws) := by
  obtain ⟨t, p, v⟩ := h.ex
  refine ⟨_, pg_tup hc p hn hst, ?_⟩
  intro J B0 H0 B H σ δ e d u r k h Q q
  obtain ⟨ds, rfl, hl, h⟩ := h
  rw [Rep] at r
  obtain ⟨a, xs, rfl, r1, r2⟩ := r
  exact ⟨a, xs, rfl, same_sqT e.bh r1, by rw [r2.len, hl], v e ds xs r2 _ h _ q⟩
/-- a, b = e -/
def wAsgG (wa : DE) (wg : DG) : DS := fun R δ => wa δ fun x => ∃ d, cl x = some d ∧ wg d δ R.nx
theorem ds_asgG {wa : DE} {wg : DG} (ha : De X e wa) (hg : Dg X tg wg) (hs : swapsWithSole [tg] e pos.line X.env = pure false := by rfl) (hw : swappedStores [tg] e X.env = pure none := by rfl)
    (h1 : (assignEach [tg] X.env).map (·.2) = [assign tg X.env] := by rfl) : Ds X (.Assign [tg] e pos) (wAsgG wa wg) := by
  obtain ⟨ta, pa, va⟩ := ha.ex
  obtain ⟨tg', pg, vg⟩ := hg.ex
  refine ⟨_, ps_asg pa pg hs hw h1, ?_⟩
  intro J B0 H0 B H σ δ e R h En F
  refine va e _ h _ fun x v B1 H1 h1 g1 w1 r1 => ?_
  obtain ⟨d, hc, h1⟩ := h1
  obtain ⟨B2, g2, w2, s2, r2, _⟩ := r1.keep e.nod g1 w1 hc
  exact vg (e.step g2 w2) d v r2 _ h1 _ fun B3 σ3 δ3 h3 s3 e3 => F.nx h3 e3

/-! ### lists of one's own -/
/-- x.append(e) -/
def wApp (i : Nat) (wa : DE) : DS := fun R δ => ∃ ds, δ[i]? = some (.own ds) ∧ ds.length < 100000 ∧ wa δ fun y => ∃ d, cl y = some d ∧ R.nx (δ.set i (.own (ds ++ [d])))
theorem ds_append {i : Nat} {x : Str} {px apos cpos : Pos} {wa : DE} (hN : X.N[i]? = some x) (hv : Vis X.env.scope x) (ha : De X e wa)
    (hd : (x == ("__debug__" : Str)) = false := by decide) (hcd : (x == ("__classdict__" : Str)) = false := by decide)
    (hbase : attributeBase (.Name x px) "append" X.env (eval (.Name x px) X.env) = eval (.Name x px) X.env := by rfl)
    (hfew : ((backTo cpos (starEach [e] X.env)).all (fun x => !x.1) && (backToKw cpos (keywordEach [] X.env)).all (fun x => x.1.isSome)
      && decide ([e].length + ([] : List Keyword).length + (if ([] : List Keyword).isEmpty then 0 else 1) < 30)) = true := by rfl)
    (hline : (apos.endLine == cpos.line) = true := by rfl) (hs : starEach [e] X.env = (false, eval e X.env) :: starEach [] X.env := by rfl) (hplain : (backTo cpos (starEach [] X.env)).any (·.1) = false := by rfl)
    (hsw : swapsWith (.Call (.Attribute (.Name x px) "append" apos) [e] [] cpos) none pos.line X.env = pure false := by rfl) :
    Ds X (.Expr (.Call (.Attribute (.Name x px) "append" apos) [e] [] cpos) pos) (wApp i wa) := by
  obtain ⟨ta, pa, va⟩ := ha.ex
  refine ⟨_, ps_expr (pe_bm PySem.F.plainAttrs_list PySem.F.slot_list_append PySem.F.type_list_append mt_append (pv i hN hv hd hcd) (pa_cons pa pa_nil hs) hbase hfew hline hs hplain) hsw, ?_⟩
  intro J B0 H0 B H σ δ e R h En F
  obtain ⟨ds, hi, hl, h⟩ := h
  obtain ⟨a, xs, h1, h2, h3, h4, h5, h6⟩ := e.ownJ hi
  refine ⟨_, h1, .inl ⟨rfl, _, SqL.of h4⟩, va e _ h _ fun y u B1 H1 q1 g1 w1 r1 => ?_⟩
  obtain ⟨d, hc, q1⟩ := q1
  obtain ⟨B2, g2, w2, s2, r2, _⟩ := r1.keep e.nod g1 w1 hc
  have e2 := e.step g2 w2
  have hH1 : H1 a = some (.lst xs) := g2.hh a _ h6 h4
  refine ⟨a, xs, u, rfl, rfl, hH1, Nat.lt_of_lt_of_le (by rw [h5.len]; exact hl) (by decide : 100000 ≤ sizeLine), F.nx (B := B2) q1 ?_⟩
  exact e2.change hi h1 hH1 ((h5.mono g2.bb).append (.cons r2 .nil))
/-- x.extend(e) -/
def wExt (i : Nat) (wa : DE) : DS := fun R δ => ∃ ds, δ[i]? = some (.own ds) ∧ wa δ fun y => ∃ es, rd δ y = some (.lst es) ∧ ds.length + es.length ≤ 100000 ∧ R.nx (δ.set i (.own (ds ++ es)))
theorem ds_extend {i : Nat} {x : Str} {px apos cpos : Pos} {wa : DE} (hN : X.N[i]? = some x) (hv : Vis X.env.scope x) (ha : De X e wa)
    (hd : (x == ("__debug__" : Str)) = false := by decide) (hcd : (x == ("__classdict__" : Str)) = false := by decide)
    (hbase : attributeBase (.Name x px) "extend" X.env (eval (.Name x px) X.env) = eval (.Name x px) X.env := by rfl)
    (hfew : ((backTo cpos (starEach [e] X.env)).all (fun x => !x.1) && (backToKw cpos (keywordEach [] X.env)).all (fun x => x.1.isSome)
      && decide ([e].length + ([] : List Keyword).length + (if ([] : List Keyword).isEmpty then 0 else 1) < 30)) = true := by rfl)
    (hline : (apos.endLine == cpos.line) = true := by rfl) (hs : starEach [e] X.env = (false, eval e X.env) :: starEach [] X.env := by rfl) (hplain : (backTo cpos (starEach [] X.env)).any (·.1) = false := by rfl)
    (hsw : swapsWith (.Call (.Attribute (.Name x px) "extend" apos) [e] [] cpos) none pos.line X.env = pure false := by rfl) :
    Ds X (.Expr (.Call (.Attribute (.Name x px) "extend" apos) [e] [] cpos) pos) (wExt i wa) := by
  obtain ⟨ta, pa, va⟩ := ha.ex
  refine ⟨_, ps_expr (pe_bm PySem.F.plainAttrs_list PySem.F.slot_list_extend PySem.F.type_list_extend mt_extend (pv i hN hv hd hcd) (pa_cons pa pa_nil hs) hbase hfew hline hs hplain) hsw, ?_⟩
  intro J B0 H0 B H σ δ e R h En F
  obtain ⟨ds, hi, h⟩ := h
  obtain ⟨a, xs, h1, h2, h3, h4, h5, h6⟩ := e.ownJ hi
  refine ⟨_, h1, .inl ⟨rfl, _, SqL.of h4⟩, va e _ h _ fun y u B1 H1 q1 g1 w1 r1 => ?_⟩
  obtain ⟨es, hr, hl, q1⟩ := q1
  have e1 := e.step g1 w1
  obtain ⟨b, ys, rfl, hb, rb⟩ := (r1.toT e1 e.nod hr).lst e1.bh
  have hH1 : H1 a = some (.lst xs) := g1.hh a _ h6 h4
  refine ⟨a, b, xs, ys, rfl, rfl, hH1, hb, sz5 (by rw [h5.len, rb.len]; exact hl), F.nx (B := B1) q1 ?_⟩
  exact e1.change hi h1 hH1 ((h5.mono g1.bb).append rb)
/-- t = x.pop() -/
def wPop (i : Nat) (wg : DG) : DS := fun R δ => ∃ ds d, δ[i]? = some (.own ds) ∧ ds[ds.length - 1]? = some d ∧ wg d (δ.set i (.own ds.dropLast)) R.nx
theorem ds_pop {i : Nat} {x : Str} {px apos cpos : Pos} {wg : DG} (hN : X.N[i]? = some x) (hv : Vis X.env.scope x) (hg : Dg X tg wg)
    (hd : (x == ("__debug__" : Str)) = false := by decide) (hcd : (x == ("__classdict__" : Str)) = false := by decide)
    (hbase : attributeBase (.Name x px) "pop" X.env (eval (.Name x px) X.env) = eval (.Name x px) X.env := by rfl) (hline : (apos.endLine == cpos.line) = true := by rfl)
    (hs : swapsWithSole [tg] (.Call (.Attribute (.Name x px) "pop" apos) [] [] cpos) pos.line X.env = pure false := by rfl) (hw : swappedStores [tg] (.Call (.Attribute (.Name x px) "pop" apos) [] [] cpos) X.env = pure none := by rfl)
    (h1 : (assignEach [tg] X.env).map (·.2) = [assign tg X.env] := by rfl) : Ds X (.Assign [tg] (.Call (.Attribute (.Name x px) "pop" apos) [] [] cpos) pos) (wPop i wg) := by
  obtain ⟨tg', pg, vg⟩ := hg.ex
  refine ⟨_, ps_asg (pe_bm0 PySem.F.plainAttrs_list PySem.F.slot_list_pop PySem.F.type_list_pop mt_pop (pv i hN hv hd hcd) hbase hline) pg hs hw h1, ?_⟩
  intro J B0 H0 B H σ δ e R h En F
  obtain ⟨ds, d, hi, hl, h⟩ := h
  obtain ⟨a, xs, h1, h2, h3, h4, h5, h6⟩ := e.ownJ hi
  obtain ⟨v, hv, rv⟩ := h5.get hl
  refine ⟨_, h1, .inl ⟨rfl, _, SqL.of h4⟩, a, xs, v, rfl, rfl, h4, by rw [h5.len]; exact hv, ?_⟩
  exact vg (e.change hi h1 h4 h5.dropLast) d v rv _ h _ fun B3 σ3 δ3 h3 s3 e3 => F.nx h3 e3
/-- x[k] = e -/
def wSetI (i : Nat) (wa wk : DE) : DS := fun R δ => ∃ ds, δ[i]? = some (.own ds) ∧ wa δ fun y => wk δ fun z => ∃ d n j, cl y = some d ∧ z = .c (.int n) ∧ ixN ds.length n = some j ∧ R.nx (δ.set i (.own (ds.set j d)))
theorem ds_setI {i : Nat} {x : Str} {px pt : Pos} {wa wk : DE} (hN : X.N[i]? = some x) (hv : Vis X.env.scope x) (ha : De X e wa) (hk : De X b wk)
    (hd : (x == ("__debug__" : Str)) = false := by decide) (hcd : (x == ("__classdict__" : Str)) = false := by decide)
    (hq : ∀ v, assign (.Subscript (.Name x px) b pt) X.env v = (do
      let ov ← holding [v] (eval (.Name x px) X.env)
      let iv ← holding [v, ov] (eval b X.env)
      standAt pt
      holding [v, ov, iv] (setItem ov iv v)
      release [v, ov, iv] []) := by intro _; rfl)
    (hs : swapsWithSole [.Subscript (.Name x px) b pt] e pos.line X.env = pure false := by rfl) (hw : swappedStores [.Subscript (.Name x px) b pt] e X.env = pure none := by rfl)
    (h1 : (assignEach [.Subscript (.Name x px) b pt] X.env).map (·.2) = [assign (.Subscript (.Name x px) b pt) X.env] := by rfl) : Ds X (.Assign [.Subscript (.Name x px) b pt] e pos) (wSetI i wa wk) := by
  obtain ⟨ta, pa, va⟩ := ha.ex
  obtain ⟨tk, pk, vk⟩ := hk.ex
  refine ⟨_, ps_asg pa (pg_sub (pv i hN hv hd hcd) pk set_list hq) hs hw h1, ?_⟩
  intro J B0 H0 B H σ δ e R h En F
  obtain ⟨ds, hi, h⟩ := h
  refine va e _ h _ fun y u B1 H1 q1 g1 w1 r1 => ?_
  have e1 := e.step g1 w1
  obtain ⟨a, xs, h1, h2, h3, h4, h5, h6⟩ := e1.ownJ hi
  refine ⟨_, h1, vk e1 _ q1 _ fun z iv B2 H2 q2 g2 w2 r2 => ?_⟩
  obtain ⟨d, n, j, hc, rfl, hj, q2⟩ := q2
  have r2 : Rep X.K B2 (.int n) iv := r2
  rw [Rep] at r2; subst r2
  have hH2 : H2 a = some (.lst xs) := g2.hh a _ h6 h4
  have g12 := g1.trans g2
  obtain ⟨B3, g3, w3, s3, r3, _⟩ := (r1.step e.nod g2).keep e.nod g12 w2 hc
  have e3 := e.step g3 w3
  have r5 : Reps X.K B3 ds xs := (h5.mono g2.bb).mono s3
  exact ⟨a, xs, n, j, rfl, rfl, hH2, by rw [h5.len]; exact hj, F.nx q2 (e3.change hi h1 hH2 (r5.set j r3))⟩
end
end Dl
namespace Dl
open PySem PySem.Spec PyProof.Rows L2
section
variable {X : Cx} {e a b c d tg iter : Expr} {es : List Expr} {pos : Pos} {st : Stmt} {rest body : List Stmt}

/-! ### a < b < c < d, as a test -/
def tChain3 (r r' r'' : R2) (ta tb tc td : TE) : TE := fun σ H Q => ta σ H fun x H1 => tb σ H1 fun y H2 => r x y H2 fun z H3 => ∃ k, z = .bl k ∧
  (if k = true then tc σ H3 fun y' H4 => r' y y' H4 fun z' H5 => ∃ k', z' = .bl k' ∧ (if k' = true then td σ H5 fun y'' H6 => r'' y' y'' H6 Q else Q (.bl false) H5) else Q (.bl false) H3)
theorem pt_chain3 {op op' op'' : CmpOp} {r r' r'' : R2} {ta tb tc td : TE} (ho : OpR X (compareOp op) r) (ho' : OpR X (compareOp op') r') (ho'' : OpR X (compareOp op'') r'') (ha : PE X a ta) (hb : PE X b tb) (hc : PE X c tc) (hd : PE X d td)
    (hm : lastMarks [op, op', op''] [b, c, d] = false := by with_unfolding_all rfl) : PT X (.Compare a [op, op', op''] [b, c, d] pos) (tTest (tChain3 r r' r'' ta tb tc td)) := by
  refine ⟨fun pins s σ H Q I h => ?_⟩
  refine isTrue_chain (thn (ha.run pins s σ H _ I h) fun v s1 ⟨x, H1, I1, r1, q1⟩ => test_link (thn (hb.run pins s1 σ H1 _ I1 q1) fun u s2 ⟨y, H2, I2, r2, q2⟩ =>
    thn (ho pins s2 σ H2 x y v u _ I2 r1 r2 q2) fun d1 s3 ⟨z, H3, I3, r3, k, e, q3⟩ => ?_)) hm
  subst e
  cases r3
  refine wpAny_truthy_bool ?_
  cases k with
  | false =>
    obtain ⟨k', e', q'⟩ := q3
    cases e'
    exact ite_ff ⟨H3, I3, q'⟩
  | true =>
    refine ite_tt (test_link (thn (hc.run pins s3 σ H3 _ I3 q3) fun w' s4 ⟨z', H4, I4, r4, q4⟩ => thn (ho' pins s4 σ H4 y z' u w' _ I4 r2 r4 q4) fun d' s5 ⟨z2, H5, I5, r5, k2, e2, q5⟩ => ?_))
    subst e2
    cases r5
    refine wpAny_truthy_bool ?_
    cases k2 with
    | false =>
      obtain ⟨k', e', q'⟩ := q5
      cases e'
      exact ite_ff ⟨H5, I5, q'⟩
    | true =>
      refine ite_tt (test_last (thn (hd.run pins s5 σ H5 _ I5 q5) fun w2 s6 ⟨z3, H6, I6, r6, q6⟩ => thn (ho'' pins s6 σ H6 z' z3 w' w2 _ I6 r4 r6 q6) fun d2 s7 ⟨z4, H7, I7, r7, k3, e3, q7⟩ => ?_))
      subst e3
      cases r7
      exact wpAny_truthy_bool ⟨H7, I7, q7⟩
/-- of ints alone -/
def wChainI3 (p p' p'' : Int → Int → Bool) (wa wb wc wd : DE) : DT := fun δ k => wa δ fun x => wb δ fun y => ∃ i j, x = .c (.int i) ∧ y = .c (.int j) ∧
  if p i j = true then wc δ fun y' => ∃ j', y' = .c (.int j') ∧ if p' j j' = true then wd δ fun y'' => ∃ j'', y'' = .c (.int j'') ∧ k (p'' j' j'') else k false else k false
theorem rv_int {K : PySem.W.Frag} {J : Option Addr} {Hs B H : Hp} {σ : L2.St} {δ : List S} {i : Int} {v : V} (h : RepV K J Hs B H σ δ (.c (.int i)) v) : v = .int i := by
  have h : Rep K B (.int i) v := h
  rw [Rep] at h; exact h
theorem dt_chainI3 {op op' op'' : CmpOp} {p p' p'' : Int → Int → Bool} {wa wb wc wd : DE} (ho : OpR X (compareOp op) (rI0 fun i j => .bl (p i j))) (ho' : OpR X (compareOp op') (rI0 fun i j => .bl (p' i j))) (ho'' : OpR X (compareOp op'') (rI0 fun i j => .bl (p'' i j)))
    (ha : De X a wa) (hb : De X b wb) (hc : De X c wc) (hd : De X d wd)
    (hm : lastMarks [op, op', op''] [b, c, d] = false := by with_unfolding_all rfl) : Dt X (.Compare a [op, op', op''] [b, c, d] pos) (wChainI3 p p' p'' wa wb wc wd) := by
  obtain ⟨ta, pa, va⟩ := ha.ex
  obtain ⟨tb, pb, vb⟩ := hb.ex
  obtain ⟨tc, pc, vc⟩ := hc.ex
  obtain ⟨td, pd, vd⟩ := hd.ex
  refine ⟨_, pt_chain3 ho ho' ho'' pa pb pc pd hm, ?_⟩
  intro J B0 H0 B H σ δ e k h Q q
  refine va e _ h _ fun x v B1 H1 h1 g1 w1 r1 => ?_
  have e1 := e.step g1 w1
  refine vb e1 _ h1 _ fun y u B2 H2 h2 g2 w2 r2 => ?_
  have e2 := e1.step g2 w2
  obtain ⟨i, j, rfl, rfl, h2⟩ := h2
  cases rv_int r1
  cases rv_int r2
  refine ⟨i, j, rfl, rfl, p i j, rfl, ?_⟩
  have g12 := g1.trans g2
  by_cases hp : p i j = true
  · rw [if_pos hp] at h2 ⊢
    refine vc e2 _ h2 _ fun y' u' B3 H3 h3 g3 w3 r3 => ?_
    have e3 := e2.step g3 w3
    obtain ⟨j', rfl, h3⟩ := h3
    cases rv_int r3
    refine ⟨j, j', rfl, rfl, p' j j', rfl, ?_⟩
    have g13 := g12.trans g3
    by_cases hp' : p' j j' = true
    · rw [if_pos hp'] at h3 ⊢
      refine vd e3 _ h3 _ fun y'' u'' B4 H4 h4 g4 w4 r4 => ?_
      obtain ⟨j'', rfl, h4⟩ := h4
      cases rv_int r4
      exact ⟨j', j'', rfl, rfl, p'' j' j'', rfl, q _ B4 H4 h4 (g13.trans g4) w4⟩
    · rw [if_neg hp'] at h3 ⊢
      exact ⟨false, rfl, q _ B3 H3 h3 g13 w3⟩
  · rw [if_neg hp] at h2 ⊢
    exact ⟨false, rfl, q _ B2 H2 h2 g12 w2⟩

/-! ### loops over a list or a tuple -/
def iSeq (K : PySem.W.Frag) (tl : TE) : TI := fun σ H R => tl σ H fun x H1 => ∃ a, x = .ref a ∧ (((∃ xs, SqL K H1 a xs) ∧ R (Itl K a) H1) ∨ ((∃ xs, SqT K H1 a xs) ∧ R (Itt K a) H1))
theorem pi_seq {l : Expr} {tl : TE} (hl : PE X l tl) : PI X tg l (iSeq X.K tl) := by
  refine ⟨fun pins s σ H R I h => ?_⟩
  refine thn (hl.run pins s σ H _ I h) fun v s1 ⟨x, H1, I1, r1, q1⟩ => ?_
  obtain ⟨a, e, q⟩ := q1
  subst e
  cases r1
  rcases q with ⟨⟨xs, hq⟩, q⟩ | ⟨⟨xs, hq⟩, q⟩
  · obtain ⟨its, rv, p, hz⟩ := I1.list hq
    refine wpAny_pyIter_list p.isList ?_
    refine ⟨s1.heap.objs.size, [s1.heap.objs.size], _, _, H1, rfl, I1.kept (t' := s1.toks) fun b o e => Heap.get?_push_of_some _ e, turn_list a _, ⟨_, Heap.get?_push_size _ rfl, rfl, rfl⟩, fun b hb => ?_, q⟩
    have e : b = s1.heap.objs.size := by simpa using hb
    subst e
    exact I1.fpOk (Nat.le_refl _) (I1.hok.fresh (Nat.le_refl _))
  · obtain ⟨its, rv, p, hz⟩ := I1.tuple hq
    refine wpAny_pyIter_tuple (show s1.heap.IsTuple a its.toArray from p) ?_
    refine ⟨s1.heap.objs.size, [s1.heap.objs.size], _, _, H1, rfl, I1.kept (t' := s1.toks) fun b o e => Heap.get?_push_of_some _ e, turn_tuple a _, ⟨_, Heap.get?_push_size _ rfl, rfl, rfl⟩, fun b hb => ?_, q⟩
    have e : b = s1.heap.objs.size := by simpa using hb
    subst e
    exact I1.fpOk (Nat.le_refl _) (I1.hok.fresh (Nat.le_refl _))
/-- what is walked; a list of one's own is no more changed -/
def items (δ : List S) : DV → Option (List S × List D)
  | .c (.lst ds) => some (δ, ds)
  | .c (.tup ds) => some (δ, ds)
  | .c (.frl ds) => some (δ, ds)
  | .f ds => some (δ, ds)
  | .o i => match δ[i]? with
    | some (.own ds) => some (δ.set i (.val (.lst ds)), ds)
    | _ => none
  | _ => none
theorem items_ok {K : PySem.W.Frag} {J : Option Addr} {B0 H0 B H B1 H1 : Hp} {σ : L2.St} {δ δ' : List S} {x : DV} {v : V} {ds : List D} (e : Env K J B0 H0 B H σ δ) (g : Grow J B H B1 H1) (w : Own J B1 H1) (r : RepV K J H B1 H1 σ δ x v) (h : items δ x = some (δ', ds)) :
    ∃ B2 a xs, Env K J B0 H0 B2 H1 σ δ' ∧ v = .ref a ∧ (SqL K B2 a xs ∨ SqT K B2 a xs) ∧ Reps K B2 ds xs := by
  have e1 := e.step g w
  cases x with
  | c d =>
    have r : Rep K B1 d v := r
    cases d <;> try (simp [items] at h; done)
    case lst es =>
      simp [items] at h; obtain ⟨rfl, rfl⟩ := h
      rw [Rep] at r; obtain ⟨a, xs, rfl, r1, r2⟩ := r
      exact ⟨B1, a, xs, e1, rfl, .inl (SqL.of r1), r2⟩
    case tup es =>
      simp [items] at h; obtain ⟨rfl, rfl⟩ := h
      rw [Rep] at r; obtain ⟨a, xs, rfl, r1, r2⟩ := r
      exact ⟨B1, a, xs, e1, rfl, .inr r1, r2⟩
    case frl es =>
      simp [items] at h; obtain ⟨rfl, rfl⟩ := h
      rw [Rep] at r; obtain ⟨a, xs, rfl, r1, r2⟩ := r
      exact ⟨B1, a, xs, e1, rfl, .inl r1, r2⟩
  | f es =>
    simp [items] at h; obtain ⟨rfl, rfl⟩ := h
    obtain ⟨B2, g2, w2, s2, r2, _⟩ := r.keep e.nod g w (d := .lst es) rfl
    rw [Rep] at r2; obtain ⟨a, xs, rfl, r1, r3⟩ := r2
    exact ⟨B2, a, xs, e.step g2 w2, rfl, .inl (SqL.of r1), r3⟩
  | o i =>
    obtain ⟨⟨es, hd⟩, hv⟩ := r
    simp [items, hd] at h; obtain ⟨rfl, rfl⟩ := h
    obtain ⟨B2, e2, s2, a, hs, r2⟩ := e1.freeze hd
    rw [hv] at hs; cases hs
    rw [Rep] at r2; obtain ⟨a', xs, ea, r1, r3⟩ := r2
    cases ea
    exact ⟨B2, a, xs, e2, rfl, .inl (SqL.of r1), r3⟩
  | j => simp [items] at h
def wFor (wi : DE) (wg : DG) (wb : DS) : DS := fun R δ => wi δ fun x => ∃ δ' ds, items δ x = some (δ', ds) ∧ ∃ I : Nat → List S → Prop, I 0 δ' ∧
  (∀ (i : Nat) d δ, ds[i]? = some d → I i δ → wg d δ fun δ2 => wb { R with nx := I (i + 1), ct := I (i + 1), bk := R.nx } δ2) ∧ ∀ δ, I ds.length δ → R.nx δ
theorem ds_for {wi : DE} {wg : DG} {wb : DS} (hp : PassesOwn (model X.prog X.w) X.A X.env X.xe) (hc : X.calm = true) (hi : De X iter wi) (hg : Dg X tg wg) (hb : Dss X body wb) (hs : ∀ x, foldedSetIterable iter X.env x = pure x := by intro _; rfl) : Ds X (.For tg iter body [] pos) (wFor wi wg wb) := by
  obtain ⟨ti, pi, vi⟩ := hi.ex
  obtain ⟨tg', pg, vg⟩ := hg.ex
  obtain ⟨tb, pb, vb⟩ := hb.ex
  refine ⟨_, ps_for hp hc (pi_seq pi) pg pb hs, ?_⟩
  intro J B0 H0 B H σ δ e R h En F
  refine vi e _ h _ fun x v B1 H1 h1 g1 w1 r1 => ?_
  obtain ⟨δ', ds, hit, I, h0, hst, hend⟩ := h1
  obtain ⟨B2, a, xs, e2, rfl, hx, rr⟩ := items_ok e g1 w1 r1 hit
  have e3 := e2.rebase
  have turn : ∀ (i : Nat) (x : V) (σ : L2.St) (H : Hp), xs[i]? = some x → (∃ B δ, Env X.K J B2 H0 B H σ δ ∧ I i δ) → tg' x σ H fun σ2 H2 => tb { En with nx := fun σ H => ∃ B δ, Env X.K J B2 H0 B H σ δ ∧ I (i + 1) δ, ct := fun σ H => ∃ B δ, Env X.K J B2 H0 B H σ δ ∧ I (i + 1) δ, bk := En.nx } σ2 H2 := by
    rintro i x σ H hxi ⟨B, δ, e, hI⟩
    obtain ⟨d, hdi, rx⟩ := rr.get' hxi
    refine vg e d x (rx.mono e.gr.bb) _ (hst i d δ hdi hI) _ fun B' σ' δ' hk sm e' => ?_
    exact vb e' _ hk _ ⟨fun h' e'' => ⟨_, _, e'', h'⟩, fun h' e'' r => F.rt h' (e2.unbase e'') r, fun h' e'' => F.nx h' (e2.unbase e''), fun h' e'' => ⟨_, _, e'', h'⟩⟩
  have fin : ∀ σ H, (∃ B δ, Env X.K J B2 H0 B H σ δ ∧ I xs.length δ) → En.nx σ H := by
    rintro σ H ⟨B, δ, e, hI⟩
    exact F.nx (hend δ (by rw [← rr.len]; exact hI)) (e2.unbase e)
  rcases hx with hx | hx
  · refine ⟨a, rfl, .inl ⟨⟨xs, Same.seq e2.bh hx⟩, ?_⟩⟩
    exact for_list (K := X.K) (xs := xs) (fun i σ H => ∃ B δ, Env X.K J B2 H0 B H σ δ ∧ I i δ) ⟨B2, δ', e3, h0⟩ (fun i σ H _ ⟨B, δ, e, _⟩ => Same.seq e.bh (Same.seq e.gr.bb hx)) (fun i x σ H hxi p => turn i x σ H hxi p) fin
  · refine ⟨a, rfl, .inr ⟨⟨xs, same_sqT e2.bh hx⟩, ?_⟩⟩
    exact for_tup (K := X.K) (xs := xs) (fun i σ H => ∃ B δ, Env X.K J B2 H0 B H σ δ ∧ I i δ) ⟨B2, δ', e3, h0⟩ (fun i σ H _ ⟨B, δ, e, _⟩ => same_sqT e.bh (same_sqT e.gr.bb hx)) (fun i x σ H hxi p => turn i x σ H hxi p) fin

/-! ### loops over ranges -/
def small62 (i : Int) : Prop := -1000000 ≤ i ∧ i ≤ 1000000
/-- the turns: lo, lo + c, .., n of them -/
def LoopR (lo c : Int) (n : Nat) (wg : DG) (wb : DS) (R : DEnds) (δ : List S) : Prop := ∃ I : Nat → List S → Prop, I 0 δ ∧
  (∀ (i : Nat) δ, i < n → I i δ → wg (.int (lo + i * c)) δ fun δ2 => wb { R with nx := I (i + 1), ct := I (i + 1), bk := R.nx } δ2) ∧ ∀ δ, I n δ → R.nx δ
def wForR1 (wa : DA) (wg : DG) (wb : DS) : DS := fun R δ => wa δ fun xs => ∃ j, xs = [.c (.int j)] ∧ small62 j ∧ LoopR 0 1 j.toNat wg wb R δ
def wForR2 (wa : DA) (wg : DG) (wb : DS) : DS := fun R δ => wa δ fun xs => ∃ i j, xs = [.c (.int i), .c (.int j)] ∧ small62 i ∧ small62 j ∧ LoopR i 1 (j - i).toNat wg wb R δ
def wForRd (wa : DA) (wg : DG) (wb : DS) : DS := fun R δ => wa δ fun xs => ∃ i j, xs = [.c (.int i), .c (.int j), .c (.int (-1))] ∧ small62 i ∧ small62 j ∧ LoopR i (-1) (i - j).toNat wg wb R δ
section
variable {wa : DA} {wg : DG} {wb : DS}
theorem rng_turn {K : PySem.W.Frag} {g : TG} {tb : TS} {J : Option Addr} {B0 H0 : Hp} {R : DEnds} {En : Ends} {I : Nat → List S → Prop} {lo c : Int} {n : Nat} (vg : EvG K g wg) (vb : EvS K tb wb) (F : Fits K J B0 H0 R En)
    (hst : ∀ (i : Nat) δ, i < n → I i δ → wg (.int (lo + i * c)) δ fun δ2 => wb { R with nx := I (i + 1), ct := I (i + 1), bk := R.nx } δ2) (i : Nat) (σ : L2.St) (H : Hp) (hi : i < n) (h : ∃ B δ, Env K J B0 H0 B H σ δ ∧ I i δ) :
    g (.int (lo + i * c)) σ H fun σ2 H2 => tb { En with nx := fun σ H => ∃ B δ, Env K J B0 H0 B H σ δ ∧ I (i + 1) δ, ct := fun σ H => ∃ B δ, Env K J B0 H0 B H σ δ ∧ I (i + 1) δ, bk := En.nx } σ2 H2 := by
  obtain ⟨B, δ, e, hI⟩ := h
  refine vg e (.int (lo + i * c)) _ (by rw [Rep]) _ (hst i δ hi hI) _ fun B' σ' δ' hk sm e' => ?_
  exact vb e' _ hk _ ⟨fun h' e'' => ⟨_, _, e'', h'⟩, F.rt, F.nx, fun h' e'' => ⟨_, _, e'', h'⟩⟩
theorem ds_forR1 {p p2 : Pos} (hp : PassesOwn (model X.prog X.w) X.A X.env X.xe) (hc : X.calm = true) (hgl : Gl X "range") (hm : X.mg "range" = none) (ha : Da X [a] wa) (hg : Dg X tg wg) (hb : Dss X body wb)
    (hs' : starEach [a] X.env = [(false, eval a X.env)] := by rfl) (hs : ∀ x, foldedSetIterable (.Call (.Name "range" p) [a] [] p2) X.env x = pure x := by intro _; rfl) : Ds X (.For tg (.Call (.Name "range" p) [a] [] p2) body [] pos) (wForR1 wa wg wb) := by
  obtain ⟨ta, pa, va⟩ := ha.ex
  obtain ⟨tg', pg, vg⟩ := hg.ex
  obtain ⟨tb, pb, vb⟩ := hb.ex
  refine ⟨_, ps_for hp hc (pi_range1 hgl hm pa hs') pg pb hs, ?_⟩
  intro J B0 H0 B H σ δ e R h En F
  refine va e _ h _ fun xs vs B1 H1 h1 g1 w1 r1 => ?_
  obtain ⟨j, rfl, ⟨hj1, hj2⟩, I, h0, hst, hend⟩ := h1
  obtain ⟨v, r, rfl, q1, q2, _⟩ := r1
  cases (show r = [] from q2)
  cases rv_int q1
  refine ⟨j, rfl, by omega, by omega, ?_⟩
  refine for_range (lo := 0) (n := j.toNat) (fun i σ H => ∃ B δ, Env X.K J B0 H0 B H σ δ ∧ I i δ) ⟨B1, δ, e.step g1 w1, h0⟩ (fun i σ H hi p => ?_) ?_
  · have := rng_turn vg vb F hst i σ H hi p
    rw [Int.mul_one] at this
    exact this
  · rintro σ H ⟨B, δ, e, hI⟩
    exact F.nx (hend δ hI) e
theorem ds_forR2 {p p2 : Pos} (hp : PassesOwn (model X.prog X.w) X.A X.env X.xe) (hc : X.calm = true) (hgl : Gl X "range") (hm : X.mg "range" = none) (ha : Da X [a, b] wa) (hg : Dg X tg wg) (hb : Dss X body wb)
    (hs' : starEach [a, b] X.env = [(false, eval a X.env), (false, eval b X.env)] := by rfl) (hs2 : starEach [b] X.env = [(false, eval b X.env)] := by rfl) (hs : ∀ x, foldedSetIterable (.Call (.Name "range" p) [a, b] [] p2) X.env x = pure x := by intro _; rfl) : Ds X (.For tg (.Call (.Name "range" p) [a, b] [] p2) body [] pos) (wForR2 wa wg wb) := by
  obtain ⟨ta, pa, va⟩ := ha.ex
  obtain ⟨tg', pg, vg⟩ := hg.ex
  obtain ⟨tb, pb, vb⟩ := hb.ex
  refine ⟨_, ps_for hp hc (pi_range2 hgl hm pa hs' hs2) pg pb hs, ?_⟩
  intro J B0 H0 B H σ δ e R h En F
  refine va e _ h _ fun xs vs B1 H1 h1 g1 w1 r1 => ?_
  obtain ⟨i0, j, rfl, ⟨hi1, hi2⟩, ⟨hj1, hj2⟩, I, h0, hst, hend⟩ := h1
  obtain ⟨v, r, rfl, q1, ⟨v2, r2, rfl, q3, q4, _⟩, _⟩ := r1
  cases (show r2 = [] from q4)
  cases rv_int q1
  cases rv_int q3
  refine ⟨i0, j, rfl, ⟨by omega, by omega, by omega, by omega⟩, ?_⟩
  refine for_range (lo := i0) (n := (j - i0).toNat) (fun i σ H => ∃ B δ, Env X.K J B0 H0 B H σ δ ∧ I i δ) ⟨B1, δ, e.step g1 w1, h0⟩ (fun i σ H hi p => ?_) ?_
  · have := rng_turn vg vb F hst i σ H hi p
    rw [Int.mul_one] at this
    exact this
  · rintro σ H ⟨B, δ, e, hI⟩
    exact F.nx (hend δ hI) e
theorem ds_forRd {p p2 : Pos} (hp : PassesOwn (model X.prog X.w) X.A X.env X.xe) (hc : X.calm = true) (hgl : Gl X "range") (hm : X.mg "range" = none) (ha : Da X [a, b, c] wa) (hg : Dg X tg wg) (hb : Dss X body wb)
    (hs' : starEach [a, b, c] X.env = (false, eval a X.env) :: starEach [b, c] X.env := by rfl) (hpl : (backTo p2 (starEach [b, c] X.env)).any (·.1) = false := by rfl) (hs : ∀ x, foldedSetIterable (.Call (.Name "range" p) [a, b, c] [] p2) X.env x = pure x := by intro _; rfl) : Ds X (.For tg (.Call (.Name "range" p) [a, b, c] [] p2) body [] pos) (wForRd wa wg wb) := by
  obtain ⟨ta, pa, va⟩ := ha.ex
  obtain ⟨tg', pg, vg⟩ := hg.ex
  obtain ⟨tb, pb, vb⟩ := hb.ex
  refine ⟨_, ps_for hp hc (pi_range3 hgl hm pa hs' hpl) pg pb hs, ?_⟩
  intro J B0 H0 B H σ δ e R h En F
  refine va e _ h _ fun xs vs B1 H1 h1 g1 w1 r1 => ?_
  obtain ⟨i0, j, rfl, ⟨hi1, hi2⟩, ⟨hj1, hj2⟩, I, h0, hst, hend⟩ := h1
  obtain ⟨v, r, rfl, q1, ⟨v2, r2, rfl, q3, ⟨v3, r3, rfl, q5, q6, _⟩, _⟩, _⟩ := r1
  cases (show r3 = [] from q6)
  cases rv_int q1
  cases rv_int q3
  cases rv_int q5
  refine ⟨i0, j, -1, (i0 - j).toNat, rfl, RgC.neg (by omega) (by omega) (by omega) (by omega), ?_⟩
  refine for_rangeC (lo := i0) (c := -1) (n := (i0 - j).toNat) (fun i σ H => ∃ B δ, Env X.K J B0 H0 B H σ δ ∧ I i δ) ⟨B1, δ, e.step g1 w1, h0⟩ (fun i σ H hi p => ?_) ?_
  · exact rng_turn vg vb F hst i σ H hi p
  · rintro σ H ⟨B, δ, e, hI⟩
    exact F.nx (hend δ hI) e
end

/-! ### a def's body -/
theorem start_env {K : PySem.W.Frag} {J : Option Addr} {B H : Hp} {N : List Str} {vs : List V} {xs : List S} (hs : Same B H) (w : Own J B H) (ha : ArgsOk K J B xs vs) (hl : xs.length ≤ N.length) : Env K J B H B H (start N vs) (xs ++ List.replicate (N.length - xs.length) .no) := by
  have hv := ha.len
  have at_ : ∀ {xs : List S} {vs : List V}, ArgsOk K J B xs vs → ∀ (i : Nat) (s : S), xs[i]? = some s → ∃ v, vs[i]? = some v ∧ ArgOk K J B s v := by
    intro xs
    induction xs with
    | nil => intro vs _ i s h; simp at h
    | cons x xs ih =>
      intro vs h i s hi
      obtain ⟨v, r, rfl, h1, h2⟩ := h
      cases i with
      | zero => simp at hi; subst hi; exact ⟨v, rfl, h1⟩
      | succ i => obtain ⟨u, e1, e2⟩ := ih h2 i s (by simpa using hi); exact ⟨u, by simpa using e1, e2⟩
  have slot : ∀ (i : Nat) (s : S), (xs ++ List.replicate (N.length - xs.length) S.no)[i]? = some s → s = .no ∨ ∃ v, (start N vs)[i]? = some (some v) ∧ ArgOk K J B s v := by
    intro i s h
    by_cases hi : i < xs.length
    · rw [List.getElem?_append_left hi] at h
      obtain ⟨v, e1, e2⟩ := at_ ha i s h
      refine .inr ⟨v, ?_, e2⟩
      unfold L2.start
      rw [List.getElem?_append_left (by simpa [hv] using hi), List.getElem?_map, e1]
      rfl
    · rw [List.getElem?_append_right (by omega), List.getElem?_replicate] at h
      split at h
      · simp at h; exact .inl h.symm
      · simp at h
  refine ⟨.refl hs, w, fun a e => ?_, by simp [L2.start, hv], fun i s h => ?_, fun i j ds es a _ h _ _ _ => ?_⟩
  · obtain ⟨_, l, m, c, _, h2⟩ := w a e; rw [h2]; simp
  · rcases slot i s h with rfl | ⟨v, e1, e2⟩
    · trivial
    · rw [e1]
      cases s with
      | no => trivial
      | val d => exact ⟨v, rfl, e2⟩
      | own ds => exact e2.elim
      | dice => obtain ⟨a, e3, e4⟩ := e2; exact ⟨a, by simp [e4], e3⟩
  · rcases slot i _ h with z | ⟨v, _, e2⟩
    · cases z
    · exact e2.elim
/-- what a def's body is asked -/
def Goal (w : DS) (N : List Str) (n : Nat) (pre : List S → Prop) (post : List S → DV → Prop) : Prop := ∀ xs : List S, xs.length = n → pre xs → w { nx := fun _ => post xs (.c .non), rt := fun _ => post xs } (xs ++ List.replicate (N.length - n) .no)
theorem fn_d {P : Program} {w : World} {K : PySem.W.Frag} {mg : Str → Option Value} {base : Heap} {x qual : Str} {params : Arguments} {body : List Stmt} {scope : Scope} {dvs : List V} {kws : List (Str × V)} {f : Addr} {fd : FuncData} {N ps : List Str} {k n : Nat}
    {pre : List S → Prop} {post : List S → DV → Prop} {wb : DS} (F : FunD K x qual params body scope dvs kws f fd) (Sc : FnScope N ps scope) (hn : ps.length = n) (hN : n ≤ N.length)
    (hbody : ∀ (cdv : Value) (A : Around) (outer : List PySem.Env) (s : Shared) (H : Hp) (E : XK), Room k (A.deeper (envOfC qual scope s.heap.objs.size f cdv)) → Dss (cxOf CX0 P w K mg base N qual scope f cdv A outer s H E).nox body wb)
    (goal : Goal wb N n pre post) : FnOk P w K mg base CX0 (k + 1) f fd ps (SpD K n pre post) := by
  refine F.ok Sc (fun vs H Q E h => ?_) (fun cdv A outer s H vs Q E hr h => ?_)
  · obtain ⟨J, B, xs, hl, ha, _⟩ := h
    rw [ha.len, hl, hn]
  · obtain ⟨J, B, xs, hl, ha, hs, ow, hp, q⟩ := h
    obtain ⟨t, p, v⟩ := (hbody cdv A outer s H E hr).ex
    have st := start_env (N := N) hs ow ha (by omega)
    rw [hl] at st
    refine ⟨t, p.nox, v st _ (goal xs hl hp) _ ⟨fun h' e' => ?_, fun h' e' r => q _ _ _ _ h' e'.gr e'.ow r, fun h' _ => h'.elim, fun h' _ => h'.elim⟩⟩
    exact q (.c .non) .non _ _ h' e'.gr e'.ow (by show Rep _ _ _ _; rw [Rep])

theorem Grow.dice {a : Addr} {B H : Hp} {o : HO} (hs : Same B H) (hB : B a = none) : Grow (some a) B H B (upd H a o) :=
  ⟨.refl _, fun b x e => by rw [upd_ne (fun z => by rw [z, hB] at e; cases e)]; exact hs b x e, fun b x nb e => by rw [upd_ne (fun z => nb (by rw [z]))]; exact e, fun b e => by
    by_cases hb : b = a
    · rw [hb, upd_same]; simp
    · rw [upd_ne hb]; exact e, fun _ _ => rfl⟩
theorem Own.dice {a : Addr} {B H : Hp} {l m c : Int} (hB : B a = none) (h0 : 0 ≤ l) : Own (some a) B (upd H a (.lst [.int l, .int m, .int c])) := fun b e => by
  cases e; exact ⟨hB, l, m, c, h0, upd_same⟩
end
end Dl
namespace Dl
open PySem PySem.Spec PyProof.Rows L2
abbrev rMinus : R2D := rII fun i j => .int (i - j)
abbrev rAddI : R2D := rII fun i j => .int (i + j)
abbrev cMin : RcD := cII fun i j => .int (if j < i then j else i)
abbrev cMax : RcD := cII fun i j => .int (if j > i then j else i)
section
variable {X : Cx} {a b : Expr} {pos : Pos}
/-- a written int of the module -/
theorem de_globE {x : Str} {pos : Pos} {i : Int} (hg : Gl X x) (hm : ∃ t, X.mg x = some (.int i t)) (hd : (x == ("__debug__" : Str)) = false := by decide) : De X (.Name x pos) (wC (.int i)) := by
  obtain ⟨t, hm⟩ := hm
  exact de_glob hg hm ⟨t, rfl⟩ hd
/-- ** of small size -/
def CPowW (i j : Int) : Prop := 0 ≤ j ∧ (Builtin.Int.intBits i : Int) * j ≤ 2 ^ 27
def rPowW : R2D := rIIC CPowW fun i j => .int (i ^ j.toNat)
theorem op_powW : OpR X (binaryOp .Pow) (rI CPowW fun i j => .int (i ^ j.toNat)) := opI fun _ _ _ _ _ _ _ hc q => pow_int hc.1 hc.2 q
theorem de_powW {wa wb : DE} (ha : De X a wa) (hb : De X b wb) : De X (.BinOp a .Pow b pos) (wOp rPowW wa wb) :=
  de_op op_powW (dop_I (fun i j h => h) fun i j B _ => by rw [Rep]) ha hb
end

/-! ### reading off -/
theorem okD_int (i : Int) : okD (.int i) := ⟨by rw [plain], by rw [py]; rfl⟩
theorem okD_bl (i : Bool) : okD (.bl i) := ⟨by rw [plain], by rw [py]; rfl⟩
theorem okD_non : okD .non := ⟨by rw [plain], by rw [py]; rfl⟩
theorem eqD_int (i j : Int) : eqD (.int i) (.int j) = decide (i = j) := by
  unfold eqD
  rw [py, py, PyData.eqv]
  by_cases h : i = j
  · subst h; simp
  · rw [decide_eq_false h]; exact beq_eq_false_iff_ne.mpr h
theorem eqD_bl (i j : Bool) : eqD (.bl i) (.bl j) = decide (i = j) := by
  unfold eqD
  rw [py, py, PyData.eqv]
  cases i <;> cases j <;> rfl
theorem pys_map (ns : List Int) : pys (ns.map .int) = ns.map .int := by
  induction ns with
  | nil => rw [List.map_nil, pys]; rfl
  | cons n ns ih => rw [List.map_cons, pys, ih, py]; rfl
theorem plains_map (ns : List Int) : plains (ns.map .int) = true := by
  induction ns with
  | nil => rw [List.map_nil, plains]
  | cons n ns ih => rw [List.map_cons, plains, ih, plain]; rfl
theorem canLay_map (ns : List Int) : PyData.canLayAll0 (ns.map .int) = true := by
  induction ns with
  | nil => rw [List.map_nil, PyData.canLayAll0]
  | cons n ns ih => rw [List.map_cons, PyData.canLayAll0, ih, PyData.canLay0]; rfl
theorem depth_map (ns : List Int) : PyData.depthAll (ns.map .int) = 0 := by
  induction ns with
  | nil => rw [List.map_nil, PyData.depthAll]
  | cons n ns ih => rw [List.map_cons, PyData.depthAll, ih, PyData.depth]; rfl
theorem okD_ints (ns : List Int) : okD (.tup (ns.map .int)) := by
  refine ⟨by rw [plain, plains_map], ?_⟩
  rw [py, pys_map]
  unfold SeqAt.shaped
  rw [PyData.canLay0, canLay_map, PyData.depth, depth_map]
  rfl
theorem okD_intl (ns : List Int) : okD (.lst (ns.map .int)) := by
  refine ⟨by rw [plain, plains_map], ?_⟩
  rw [py, pys_map]
  unfold SeqAt.shaped
  rw [PyData.canLay0, canLay_map, PyData.depth, depth_map]
  rfl
theorem eqvAll_map : ∀ ns ms : List Int, PyData.eqvAll (ns.map .int) (ms.map .int) = decide (ns = ms)
  | [], [] => by rw [List.map_nil, PyData.eqvAll]; rfl
  | [], m :: ms => by rw [List.map_nil, List.map_cons, PyData.eqvAll]; rfl
  | n :: ns, [] => by rw [List.map_nil, List.map_cons, PyData.eqvAll]; rfl
  | n :: ns, m :: ms => by
    rw [List.map_cons, List.map_cons, PyData.eqvAll, eqvAll_map ns ms, PyData.eqv]
    by_cases h : n = m
    · subst h; simp
    · have : (n == m) = false := beq_eq_false_iff_ne.mpr h
      rw [this, Bool.false_and, decide_eq_false (by simp [h])]
theorem eqD_ints (ns ms : List Int) : eqD (.tup (ns.map .int)) (.tup (ms.map .int)) = decide (ns = ms) := by
  unfold eqD
  rw [py, py, pys_map, pys_map, PyData.eqv, eqvAll_map]
theorem eqD_intl (ns ms : List Int) : eqD (.lst (ns.map .int)) (.lst (ms.map .int)) = decide (ns = ms) := by
  unfold eqD
  rw [py, py, pys_map, pys_map, PyData.eqv, eqvAll_map]
/-- a tuple of ints -/
abbrev tI (ns : List Int) : D := .tup (ns.map .int)
theorem cutD_map (ns : List Int) (lo hi : Option Int) : cutD (ns.map .int) lo hi = ((ns.drop (HT.sIx ns.length 0 lo)).take (HT.sIx ns.length ns.length hi - HT.sIx ns.length 0 lo)).map .int := by
  unfold cutD
  rw [List.length_map, List.map_take, List.map_drop]
theorem atI_map {ns : List Int} {i : Int} {j : Nat} (h : i = (j : Int)) (hj : j < ns.length) : atI (ns.map D.int) i = some (.int ns[j]) := by
  subst h
  unfold atI ixN
  rw [if_pos (Int.natCast_nonneg _), List.length_map, if_pos (by omega)]
  show (ns.map D.int)[((j : Int)).toNat]? = _
  rw [Int.toNat_natCast, List.getElem?_map, List.getElem?_eq_getElem hj]
  rfl
theorem atI_of {α : Type} {xs : List α} {i : Int} {j : Nat} {x : α} (h : i = (j : Int)) (hj : xs[j]? = some x) : atI xs i = some x := by
  subst h
  have hlt := (List.getElem?_eq_some_iff.mp hj).1
  unfold atI ixN
  rw [if_pos (Int.natCast_nonneg _), if_pos (by omega)]
  show xs[((j : Int)).toNat]? = _
  rw [Int.toNat_natCast]
  exact hj
theorem ixN_of {n j : Nat} {i : Int} (h : i = (j : Int)) (hj : j < n) : ixN n i = some j := by
  subst h
  unfold ixN
  rw [if_pos (Int.natCast_nonneg _), if_pos (by omega), Int.toNat_natCast]
/-- isinstance(d, int), .. bool, .. tuple -/
def isInt : D → Bool
  | .int _ => true
  | .bl _ => true
  | _ => false
def isBl : D → Bool
  | .bl _ => true
  | _ => false
def isTup : D → Bool
  | .tup _ => true
  | _ => false
theorem kit_int (d : D) (h : noTy d = true) : kitB (tyD d) "int" = some (isInt d) := by
  cases d <;> first | (simp [noTy] at h; done) | (simp only [tyD, isInt]; decide +kernel)
theorem kit_bl (d : D) (h : noTy d = true) : kitB (tyD d) "bool" = some (isBl d) := by
  cases d <;> first | (simp [noTy] at h; done) | (simp only [tyD, isBl]; decide +kernel)
theorem kit_tup (d : D) (h : noTy d = true) : kitB (tyD d) "tuple" = some (isTup d) := by
  cases d <;> first | (simp [noTy] at h; done) | (simp only [tyD, isTup]; decide +kernel)
theorem isi_int {d : D} {k : DV → Prop} (h : noTy d = true) (q : k (.c (.bl (isInt d)))) : cIsi [d, .ty "int"] k := ⟨h, _, kit_int d h, q⟩
theorem isi_bl {d : D} {k : DV → Prop} (h : noTy d = true) (q : k (.c (.bl (isBl d)))) : cIsi [d, .ty "bool"] k := ⟨h, _, kit_bl d h, q⟩
theorem isi_tup {d : D} {k : DV → Prop} (h : noTy d = true) (q : k (.c (.bl (isTup d)))) : cIsi [d, .ty "tuple"] k := ⟨h, _, kit_tup d h, q⟩
end Dl
/-! enumerate and zip over lists and tuples, mixed -/
namespace Dl
open PySem PySem.Spec PyProof.Rows L2

def SqB (K : PySem.W.Frag) (t : Bool) (H : Hp) (a : Addr) (xs : List V) : Prop := match t with
  | true => SqT K H a xs
  | false => SqL K H a xs
def IsIt (t : Bool) (h : Heap) (it a : Addr) (i : Nat) : Prop := match t with
  | true => h.IsTupleIter it a i
  | false => h.IsListIter it a i
def IsSq (t : Bool) (h : Heap) (a : Addr) (its : Array Value) : Prop := match t with
  | true => h.IsTuple a its
  | false => h.IsList a its
def itObj (t : Bool) (a : Addr) : Obj := match t with
  | true => { cls := .type "tuple_iterator", data := .fields #[.ref a, .int 0 0] }
  | false => { cls := .type "list_iterator", data := .fields #[.ref a, .int 0 0] }
theorem begins_sq (t : Bool) (a : Addr) (its : Array Value) : Begins (.ref a) (itObj t a) fun h => IsSq t h a its := by
  cases t
  · exact begins_list a its
  · exact begins_tuple a its
theorem isIt_new {t : Bool} {h : Heap} {it a : Addr} (e : h.get? it = some (itObj t a)) : IsIt t h it a 0 := by
  cases t
  · exact ⟨_, e, rfl, rfl⟩
  · exact ⟨_, e, rfl, rfl⟩
theorem draws_sq {prog : Program} {w : World} {A : Around} (t : Bool) (hh : A.handled = none) (it a : Addr) (hne : a ≠ it) (its : Array Value) :
    Draws prog w A it [it, a] its.size (fun i v => its[i]? = some v) (fun i h => IsIt t h it a i ∧ IsSq t h a its) := by
  cases t
  · exact Draws.list hh it a hne its
  · exact Draws.tuple hh it a hne its
theorem IsIt.at {t : Bool} {h h' : Heap} {it a : Addr} {i : Nat} (s : IsIt t h it a i) (k : ∀ o, h.get? it = some o → h'.get? it = some o) : IsIt t h' it a i := by
  cases t
  · exact Heap.IsListIter.at s k
  · obtain ⟨o, e, c, d⟩ := s; exact ⟨o, k o e, c, d⟩
theorem IsIt.get {t : Bool} {h : Heap} {it a : Addr} {i : Nat} (s : IsIt t h it a i) : ∃ o, h.get? it = some o ∧ ∀ v, o.data ≠ .cell v := by
  cases t <;> obtain ⟨o, e, c, d⟩ := s <;> exact ⟨o, e, fun v z => by rw [d] at z; cases z⟩
section
variable {X : Cx} {pins : List (Addr × Obj)} {σ : L2.St} {H : Hp} {s : Shared} {t : Bool} {a : Addr} {xs ys : List V}
theorem inv_sq (I : Inv X pins σ H s) (hq : SqB X.K t H a xs) : ∃ its, Vals xs its ∧ IsSq t s.heap a its.toArray ∧ a < s.heap.objs.size := by
  cases t
  · obtain ⟨its, rv, p, _⟩ := I.list hq
    exact ⟨its, rv, p.isList, p.lt⟩
  · obtain ⟨its, rv, p, _⟩ := I.tuple hq
    obtain ⟨o, ho, _⟩ := id p
    exact ⟨its, rv, p, Heap.lt_size ho⟩
theorem sq_inj (I : Inv X pins σ H s) (h : SqB X.K t H a xs) (h' : SqB X.K t H a ys) : xs = ys := by
  cases t
  · exact I.list_inj h h'
  · exact I.tuple_inj h h'
end
/-- enumerate(a) -/
def IteB (K : PySem.W.Frag) (t : Bool) (a : Addr) : It :=
  ⟨fun i H => ∃ (xs : List V) (x : V), SqB K t H a xs ∧ xs[i]? = some x, fun i H v H' => ∃ T x, v = .ref T ∧ H T = none ∧ H' = upd H T (.tup [.int (i : Nat), x]) ∧ ∀ xs, SqB K t H a xs → xs[i]? = some x, fun i H => ∃ xs : List V, SqB K t H a xs ∧ xs.length = i⟩
theorem turn_enumB {P : Program} {w : World} {K : PySem.W.Frag} {elts : List Expr} {kk : Nat} {tpos : Pos} {t : Bool} {a e it : Addr} (hne : e ≠ it) (hai : a ≠ it) (hae : a ≠ e) :
    Turn P w K (.Tuple elts kk tpos) (IteB K t a) [e, it] e (fun i h => (∃ old, IsEnum h e it ((i : Nat) : Int) old) ∧ IsIt t h it a i) where
  mem := by simp
  obj := fun i h st b hb => by
    obtain ⟨⟨old, he⟩, hit⟩ := st
    have e' : b = e ∨ b = it := by simpa using hb
    rcases e' with z | z
    · rw [z]; exact ⟨_, he, fun v q => nomatch q⟩
    · rw [z]; exact hit.get
  keep := fun i h h' st k => let ⟨⟨old, he⟩, hi⟩ := st; ⟨⟨old, k e (by simp) _ he⟩, hi.at fun o q => k it (by simp) o q⟩
  item := by
    intro X hP hw hK hc i pins s σ H E I hf st hg
    subst hP hw hK
    obtain ⟨⟨old, he⟩, hit⟩ := st
    obtain ⟨xs, x, hq, hx⟩ := hg
    obtain ⟨its, rv, p, _⟩ := inv_sq I hq
    obtain ⟨u, hu, ru⟩ := rv.get hx
    have hel : e < s.heap.objs.size := Heap.lt_size he
    have hil : it < s.heap.objs.size := by obtain ⟨_, q, _⟩ := hit.get; exact Heap.lt_size q
    have hu' : its.toArray[i]? = some u := by simpa using hu
    have hlt : i < its.toArray.size := (Array.getElem?_eq_some_iff.mp hu').1
    refine wpAny_pyNext_enum_itemD (draws_sq (A := X.A.in1) t (show X.A.in1.handled = none from I.ok.hd hc) it a hai its.toArray) he ⟨hit, p⟩ hlt hne (by simp [hne, Ne.symm hae]) fun x' h' tk hx' ho hst hT hsz hk => ?_
    have exu : x' = u := by
      have hx2 : its.toArray[i]? = some x' := hx'
      rw [hu'] at hx2; cases hx2; rfl
    subst exu
    obtain ⟨hit', _⟩ := hst
    refine ⟨_, rfl, wpAny_letOwnedTupleGo_enum (s := { s with heap := h', toks := tk + 1 }) ho fun h'' he' sb => ?_⟩
    have hT2 : h''.get? s.heap.objs.size = some { cls := .type "tuple", data := .seq #[.int i tk, x'] } := (sb.2 _ (Nat.ne_of_gt hel)).trans hT
    have new : ObjOk X.prog X.w (upd H s.heap.objs.size (.tup [.int (i : Nat), x])) h'' s.heap.objs.size (.tup [.int (i : Nat), x]) :=
      ⟨by show 2 ≤ sizeLine; decide, [.int i tk, x'], .cons ⟨_, rfl⟩ (.cons ru .nil), ⟨_, hT2, rfl, _, rfl⟩⟩
    have I1 : Inv X pins σ (upd H s.heap.objs.size (.tup [.int (i : Nat), x])) { s with heap := h'', toks := tk + 1 } :=
      I.turnedNew (ch := [e, it]) (fun b ob hb q => (sb.2 b (fun z => hb (by simp [z]))).trans (hk b ob (fun z => hb (by simp [z])) (fun z => hb (by simp [z])) q)) hf (Nat.le_refl _) new
    refine ⟨.ref s.heap.objs.size, _, I1, rfl, ⟨_, x, rfl, I.hok.fresh (Nat.le_refl _), rfl, fun ys hy => by rw [sq_inj I hy hq]; exact hx⟩, ⟨⟨x', ?_⟩, hit'.at fun o q => (sb.2 it (Ne.symm hne)).trans q⟩, fun b hb => ?_⟩
    · have e1 : ((i + 1 : Nat) : Int) = (i : Int) + 1 := by omega
      rw [e1]; exact he'
    · have hb' : b < s.heap.objs.size := by
        have e' : b = e ∨ b = it := by simpa using hb
        rcases e' with z | z
        · rw [z]; exact hel
        · rw [z]; exact hil
      rw [upd_ne (Nat.ne_of_lt hb')]
      exact (hf b hb).1
  done := by
    intro X hP hw hK hc i pins s σ H E I hf st hg
    subst hP hw hK
    obtain ⟨⟨old, he⟩, hit⟩ := st
    obtain ⟨xs, hq, hx⟩ := hg
    obtain ⟨its, rv, p, _⟩ := inv_sq I hq
    obtain ⟨f0, f1, f2, f3, f4, f5⟩ := hf it (by simp)
    have hl := rv.length
    have hi : its.toArray.size = i := by simp; omega
    refine wpAny_pyNext_enum_endD (draws_sq (A := X.A.in1) t (show X.A.in1.handled = none from I.ok.hd hc) it a hai its.toArray) he ⟨by rw [hi]; exact hit, p⟩ fun h' eb => ⟨rfl, I.turned (t' := s.toks) (fun b o hb q => eb b o hb q) f0 f1 f3 f4 f5⟩
  self := fun A i s Q E st h => let ⟨⟨_, he⟩, _⟩ := st; wpAny_pyIter_enum he h

set_option maxHeartbeats 1000000 in
theorem meets_enumB1 {v : Value} {o : Obj} {H : Heap → Prop} (B : Begins v o H) :
    Meets (Builtin.«enumerate.__new__» ⟨[.type "enumerate", v], []⟩) (fun _ R s => H s.heap ∧
      R (.ok (.ret (.ref (s.heap.push o).objs.size))) { s with heap := (s.heap.push o).push { cls := .type "enumerate", data := .fields #[.none, .bool false, .ref s.heap.objs.size, rawInt 0, .none, .none] } }) :=
  .of_wp fun prog w A R s h => by
    obtain ⟨hp, g, d, tk, os⟩ := s; obtain ⟨h1, h⟩ := h
    have hsub := sub_enumerate
    have q1 : ∀ {A' : Around} {E : Value → Shared → Prop} {Q : Value → Shared → Prop}, Q (.ref hp.objs.size) ⟨hp.push o, g, d, tk, os⟩ → wpAny (model prog w) A' (pyIter v) Q E ⟨hp, g, d, tk, os⟩ :=
      fun q => B.iter prog w _ _ ⟨hp, g, d, tk, os⟩ _ h1 q
    wp_walk using q1
    refine wpAny_stack_any fun st => wpAny_pure ?_
    split
    · rename_i c _ _ _ _ _
      cases (c == Value.type "enumerate")
      · wp_walk using q1
        exact ⟨_, rfl, h⟩
      · wp_walk using q1
        exact ⟨_, rfl, h⟩
    · wp_walk using q1
      exact ⟨_, rfl, h⟩
theorem enum_begins1 {prog : Program} {w : World} {A : Around} {E : Value → Shared → Prop} {s : Shared} {v : Value} {o : Obj} {H : Heap → Prop} {Q : Value → Shared → Prop} (B : Begins v o H) (h1 : H s.heap)
    (h : ∀ h', IsEnum h' (s.heap.objs.size + 1) s.heap.objs.size 0 .none → h'.get? s.heap.objs.size = some o → h'.objs.size = s.heap.objs.size + 2 →
      (∀ b o, s.heap.get? b = some o → h'.get? b = some o) → Q (.ref (s.heap.objs.size + 1)) { s with heap := h' }) :
    wpAny (model prog w) A (call (.type "enumerate") [v]) Q E s := by
  refine callType_new F.called_enumerate (by decide) (F.typeCall_enumerate_1 _) (F.newCall_enumerate_1 _) (fun obj => F.args_object_init_2 obj _) F.entry_enumerate_new
    (meets_enumB1 B) ⟨h1, ?_⟩
  have hz : (s.heap.push o).objs.size = s.heap.objs.size + 1 := Heap.size_push ..
  show _ ∧ _
  rw [hz]
  have he : IsEnum ((s.heap.push o).push { cls := .type "enumerate", data := .fields #[.none, .bool false, .ref s.heap.objs.size, rawInt 0, .none, .none] }) (s.heap.objs.size + 1) s.heap.objs.size 0 .none := by
    have := Heap.get?_push_size (s.heap.push o) (o := { cls := .type "enumerate", data := .fields #[.none, .bool false, .ref s.heap.objs.size, rawInt 0, .none, .none] }) rfl
    rw [hz] at this; exact this
  refine ⟨⟨_, he, rfl⟩, h _ he (Heap.get?_push_of_some _ (Heap.get?_push_size _ B.free)) (by rw [Heap.size_push, hz]) fun b o x => Heap.get?_push_of_some _ (Heap.get?_push_of_some _ x)⟩
def iEnumB (K : PySem.W.Frag) (ta : TA) : TI := fun σ H R => ta σ H fun vs H1 => ∃ a t xs, vs = [.ref a] ∧ SqB K t H1 a xs ∧ R (IteB K t a) H1
theorem pi_enumB {X : Cx} {e : Expr} {ta : TA} {p pos tpos : Pos} {elts : List Expr} {kk : Nat} (hg : Gl X "enumerate") (hm : X.mg "enumerate" = none) (ha : PA X [e] ta) (hs : starEach [e] X.env = [(false, eval e X.env)] := by rfl) :
    PI X (.Tuple elts kk tpos) (.Call (.Name "enumerate" p) [e] [] pos) (iEnumB X.K ta) := by
  refine ⟨fun pins s σ H R I h => ?_⟩
  refine Call_ (ld_blt I hg hm boot_enumerate (PyProof.Rows.callWith_type1 (thn (ha.run pos pins s σ H _ I h) fun us s1 ⟨vs, H1, I1, r1, q1⟩ => ?_) hs rfl))
  obtain ⟨a, t, xs, ex, hq, q⟩ := q1
  subst ex
  cases r1 with
  | cons r rr =>
    cases rr
    cases r
    obtain ⟨its, rv, p', hlt⟩ := inv_sq I1 hq
    refine enum_begins1 (begins_sq t a its.toArray) p' fun h' he hit hsz hk => wpAny_pyIter_enum he ?_
    have I2 : Inv X pins σ H1 { s1 with heap := h' } := I1.kept (t' := s1.toks) hk
    refine ⟨s1.heap.objs.size + 1, [s1.heap.objs.size + 1, s1.heap.objs.size], _, _, H1, rfl, I2, turn_enumB (e := s1.heap.objs.size + 1) (it := s1.heap.objs.size) (Nat.succ_ne_self _) (Nat.ne_of_lt hlt) (Nat.ne_of_lt (Nat.lt_succ_of_lt hlt)), ⟨⟨.none, he⟩, isIt_new hit⟩, fun b hb => ?_, q⟩
    have e' : b = s1.heap.objs.size + 1 ∨ b = s1.heap.objs.size := by simpa using hb
    have hle : s1.heap.objs.size ≤ b := by
      rcases e' with z | z
      · rw [z]; exact Nat.le_add_right _ _
      · rw [z]; exact Nat.le_refl _
    exact I1.fpOk hle (I1.hok.fresh hle)

/-- zip(a, b) -/
def ItzB (K : PySem.W.Frag) (t t2 : Bool) (a b : Addr) : It :=
  ⟨fun i H => ∃ (xs ys : List V) (x y : V), SqB K t H a xs ∧ SqB K t2 H b ys ∧ xs[i]? = some x ∧ ys[i]? = some y,
    fun i H v H' => ∃ T x y, v = .ref T ∧ H T = none ∧ H' = upd H T (.tup [x, y]) ∧ (∀ xs, SqB K t H a xs → xs[i]? = some x) ∧ ∀ ys, SqB K t2 H b ys → ys[i]? = some y,
    fun i H => ∃ xs ys : List V, SqB K t H a xs ∧ SqB K t2 H b ys ∧ i ≤ xs.length ∧ i ≤ ys.length ∧ (i = xs.length ∨ i = ys.length)⟩
theorem turn_zipB {P : Program} {w : World} {K : PySem.W.Frag} {elts : List Expr} {kk : Nat} {tpos : Pos} {t t2 : Bool} {a b z TI TO i1 i2 : Addr} (D : ZipSep2 z TI TO i1 i2 [i1, a] [i2, b]) (ha1 : a ≠ i1) (hb2 : b ≠ i2) :
    Turn P w K (.Tuple elts kk tpos) (ItzB K t t2 a b) [z, TI, TO, i1, i2] z (fun i h => IsZip h z TI TO .none ∧ IsTupOf2 h TI (.ref i1) (.ref i2) ∧ (∃ x y, IsTupOf2 h TO x y) ∧ IsIt t h i1 a i ∧ IsIt t2 h i2 b i) where
  mem := by simp
  obj := fun i h st c hc => by
    obtain ⟨hz, hTI, ⟨x, y, hTO⟩, h1, h2⟩ := st
    have e' : c = z ∨ c = TI ∨ c = TO ∨ c = i1 ∨ c = i2 := by simpa using hc
    rcases e' with q | q | q | q | q
    · rw [q]; exact ⟨_, hz, fun v q => nomatch q⟩
    · rw [q]; exact ⟨_, hTI, fun v q => nomatch q⟩
    · rw [q]; exact ⟨_, hTO, fun v q => nomatch q⟩
    · rw [q]; exact h1.get
    · rw [q]; exact h2.get
  keep := fun i h h' st k => by
    obtain ⟨hz, hTI, ⟨x, y, hTO⟩, h1, h2⟩ := st
    exact ⟨k z (by simp) _ hz, k TI (by simp) _ hTI, ⟨x, y, k TO (by simp) _ hTO⟩, h1.at fun o q => k i1 (by simp) o q, h2.at fun o q => k i2 (by simp) o q⟩
  item := by
    intro X hP hw hK hc i pins s σ H E I hf st hg
    subst hP hw hK
    obtain ⟨hz, hTI, ⟨x0, y0, hTO⟩, h1, h2⟩ := st
    obtain ⟨xs, ys, x, y, hqx, hqy, hx, hy⟩ := hg
    obtain ⟨its, rv, p, _⟩ := inv_sq I hqx
    obtain ⟨its2, rv2, p2, _⟩ := inv_sq I hqy
    obtain ⟨u, hu, ru⟩ := rv.get hx
    obtain ⟨u2, hu2, ru2⟩ := rv2.get hy
    have hzl : z < s.heap.objs.size := Heap.lt_size hz
    have hu' : its.toArray[i]? = some u := by simpa using hu
    have hu2' : its2.toArray[i]? = some u2 := by simpa using hu2
    have hh : X.A.in1.handled = none := I.ok.hd hc
    refine wpAny_pyNext_zipD2_item D (draws_sq t hh i1 a ha1 its.toArray) (draws_sq t2 hh i2 b hb2 its2.toArray) hz hTI hTO ⟨h1, p⟩ ⟨h2, p2⟩ (Array.getElem?_eq_some_iff.mp hu').1 (Array.getElem?_eq_some_iff.mp hu2').1 fun x1 x2 h' tk hx1 hx2 z' TO' st1' st2' hT hsz hk => ?_
    obtain rfl : x1 = u := by
      have q : its.toArray[i]? = some x1 := hx1
      rw [hu'] at q; cases q; rfl
    obtain rfl : x2 = u2 := by
      have q : its2.toArray[i]? = some x2 := hx2
      rw [hu2'] at q; cases q; rfl
    obtain ⟨h1', _⟩ := st1'
    obtain ⟨h2', _⟩ := st2'
    refine ⟨_, rfl, wpAny_letOwnedTupleGo_zip (s := { s with heap := h', toks := tk }) z' fun h'' z'' sb => ?_⟩
    have hT2 : h''.get? s.heap.objs.size = some { cls := .type "tuple", data := .seq #[x1, x2] } := (sb.2 _ (Nat.ne_of_gt hzl)).trans hT
    have new : ObjOk X.prog X.w (upd H s.heap.objs.size (.tup [x, y])) h'' s.heap.objs.size (.tup [x, y]) :=
      ⟨by show 2 ≤ sizeLine; decide, [x1, x2], .cons ru (.cons ru2 .nil), ⟨_, hT2, rfl, _, rfl⟩⟩
    have I1 : Inv X pins σ (upd H s.heap.objs.size (.tup [x, y])) { s with heap := h'', toks := tk } :=
      I.turnedNew (t' := tk) (ch := [z, TI, TO, i1, i2]) (fun c o hb q => (sb.2 c (fun q' => hb (by simp [q']))).trans (hk c o (fun q' => hb (by simp [q'])) (fun q' => hb (by simp [q'])) (fun q' => hb (by simp [q'])) (fun q' => hb (by simp [q'])) q)) hf (Nat.le_refl _) new
    refine ⟨.ref s.heap.objs.size, _, I1, rfl, ⟨_, x, y, rfl, I.hok.fresh (Nat.le_refl _), rfl, fun l hl => by rw [sq_inj I hl hqx]; exact hx, fun l hl => by rw [sq_inj I hl hqy]; exact hy⟩, ⟨z'', ?_, ⟨x1, x2, ?_⟩, ?_, ?_⟩, fun c hcm => ?_⟩
    · exact (sb.2 _ D.TIz).trans (hk _ _ D.TIz D.TITO D.TIi1 D.TIi2 hTI)
    · exact (sb.2 _ D.TOz).trans TO'
    · exact h1'.at fun o q => (sb.2 _ (Ne.symm D.zi1)).trans q
    · exact h2'.at fun o q => (sb.2 _ (Ne.symm D.zi2)).trans q
    · have hlt : c < s.heap.objs.size := by
        have e' : c = z ∨ c = TI ∨ c = TO ∨ c = i1 ∨ c = i2 := by simpa using hcm
        rcases e' with q | q | q | q | q
        · rw [q]; exact hzl
        · rw [q]; exact Heap.lt_size hTI
        · rw [q]; exact Heap.lt_size hTO
        · rw [q]; obtain ⟨_, e1, _⟩ := h1.get; exact Heap.lt_size e1
        · rw [q]; obtain ⟨_, e2, _⟩ := h2.get; exact Heap.lt_size e2
      rw [upd_ne (Nat.ne_of_lt hlt)]
      exact (hf c hcm).1
  done := by
    intro X hP hw hK hc i pins s σ H E I hf st hg
    subst hP hw hK
    obtain ⟨hz, hTI, ⟨x0, y0, hTO⟩, h1, h2⟩ := st
    obtain ⟨xs, ys, hqx, hqy, l1, l2, hend⟩ := hg
    obtain ⟨its, rv, p, _⟩ := inv_sq I hqx
    obtain ⟨its2, rv2, p2, _⟩ := inv_sq I hqy
    have e1 : its.toArray.size = xs.length := by simp [rv.length]
    have e2 : its2.toArray.size = ys.length := by simp [rv2.length]
    have hh : X.A.in1.handled = none := I.ok.hd hc
    exact wpAny_pyNext_zipD2_end D (draws_sq t hh i1 a ha1 its.toArray) (draws_sq t2 hh i2 b hb2 its2.toArray) hz hTI hTO ⟨h1, p⟩ ⟨h2, p2⟩ (by omega) (by omega) (by omega) fun h' tk hk => ⟨rfl, I.turnedL (t' := tk) (ch := [z, TI, TO, i1, i2]) (fun c o hb q =>
      hk c o (fun q' => hb (by simp [q'])) (fun q' => hb (by simp [q'])) (fun q' => hb (by simp [q'])) (fun q' => hb (by simp [q'])) q) hf⟩
  self := fun A i s Q E st h => wpAny_pyIter_zip st.1 h
def iZipB (K : PySem.W.Frag) (ta : TA) : TI := fun σ H R => ta σ H fun vs H1 => ∃ a b t t2 xs ys, vs = [.ref a, .ref b] ∧ SqB K t H1 a xs ∧ SqB K t2 H1 b ys ∧ R (ItzB K t t2 a b) H1
theorem sepB {N : Nat} {a b : Addr} (ha : a < N) (hb : b < N) : ZipSep2 (N + 4) (N + 2) (N + 3) N (N + 1) [N, a] [N + 1, b] :=
  zip_sep2 (fp1 := [a]) (fp2 := [b]) (fun c hc => by rw [List.mem_singleton.mp hc]; exact ha) fun c hc => by rw [List.mem_singleton.mp hc]; exact hb
theorem pi_zipB {X : Cx} {e e2 : Expr} {ta : TA} {p pos tpos : Pos} {elts : List Expr} {kk : Nat} (hg : Gl X "zip") (hm : X.mg "zip" = none) (ha : PA X [e, e2] ta)
    (hs : starEach [e, e2] X.env = (false, eval e X.env) :: starEach [e2] X.env := by rfl) (hpl : (backTo pos (starEach [e2] X.env)).any (·.1) = false := by rfl) :
    PI X (.Tuple elts kk tpos) (.Call (.Name "zip" p) [e, e2] [] pos) (iZipB X.K ta) := by
  refine ⟨fun pins s σ H R I h => ?_⟩
  refine Call_ (ld_blt I hg hm PyProof.Rows.boot_zip (PyProof.Rows.callWith_type1 (thn (ha.run pos pins s σ H _ I h) fun us s1 ⟨vs, H1, I1, r1, q1⟩ => ?_) hs hpl))
  obtain ⟨a, b, t, t2, xs, ys, ex, hqx, hqy, q⟩ := q1
  subst ex
  cases r1 with
  | cons r rr =>
    cases rr with
    | cons r' rr =>
      cases rr
      cases r
      cases r'
      obtain ⟨its, rv, p1, la⟩ := inv_sq I1 hqx
      obtain ⟨its2, rv2, p2, lb⟩ := inv_sq I1 hqy
      refine zip_begins2 (begins_sq t a its.toArray) (begins_sq t2 b its2.toArray) p1 p2 fun h' hz hTI hTO h1 h2 hsz hk => wpAny_pyIter_zip hz ?_
      have I2 : Inv X pins σ H1 { s1 with heap := h' } := I1.kept (t' := s1.toks) hk
      refine ⟨s1.heap.objs.size + 4, [s1.heap.objs.size + 4, s1.heap.objs.size + 2, s1.heap.objs.size + 3, s1.heap.objs.size, s1.heap.objs.size + 1], _, _, H1, rfl, I2, turn_zipB (sepB la lb) (Nat.ne_of_lt la) (Nat.ne_of_lt (Nat.lt_succ_of_lt lb)), ⟨hz, hTI, ⟨_, _, hTO⟩, isIt_new h1, isIt_new h2⟩, fun c hcm => ?_, q⟩
      have e' : c = s1.heap.objs.size + 4 ∨ c = s1.heap.objs.size + 2 ∨ c = s1.heap.objs.size + 3 ∨ c = s1.heap.objs.size ∨ c = s1.heap.objs.size + 1 := by simpa using hcm
      have hle : s1.heap.objs.size ≤ c := by
        rcases e' with z | z | z | z | z
        · rw [z]; exact Nat.le_add_right _ _
        · rw [z]; exact Nat.le_add_right _ _
        · rw [z]; exact Nat.le_add_right _ _
        · rw [z]; exact Nat.le_refl _
        · rw [z]; exact Nat.le_add_right _ _
      exact I1.fpOk hle (I1.hok.fresh hle)
end Dl
/-! walks over data, list comprehensions -/
namespace Dl
open PySem PySem.Spec PyProof.Rows L2

/-- at turn i of ds -/
def ItAt (K : PySem.W.Frag) (Jd : Option Addr) (J : It) (B H : Hp) (ds : List D) (i : Nat) : Prop :=
  (i = ds.length → J.stop i H) ∧ ∀ d, ds[i]? = some d → J.go i H ∧ ∀ x H2, J.yld i H x H2 → ∃ B2, Grow Jd B H B2 H2 ∧ Own Jd B2 H2 ∧ Rep K B2 d x
def ItG (K : PySem.W.Frag) (Jd : Option Addr) (J : It) (B H : Hp) (ds : List D) : Prop := ∀ ⦃B' H' : Hp⦄, Grow Jd B H B' H' → Own Jd B' H' → ∀ i, ItAt K Jd J B' H' ds i
def ItF (K : PySem.W.Frag) (Jd : Option Addr) (J : It) (B : Hp) (ds : List D) : Prop := ∀ ⦃B' H' : Hp⦄, Same B B' → Same B' H' → Own Jd B' H' → ∀ i, ItAt K Jd J B' H' ds i
theorem ItF.g {K : PySem.W.Frag} {Jd : Option Addr} {J : It} {B H : Hp} {ds : List D} (h : ItF K Jd J B ds) : ItG K Jd J B H ds := fun _ _ g w i => h g.bb g.bh w i

/-- the sequence at a holds ds: known -/
def SqK (K : PySem.W.Frag) (B : Hp) (a : Addr) (t : Bool) (ds : List D) : Prop := ∃ xs, SqB K t B a xs ∧ Reps K B ds xs
/-- .. known, or a list as it stands -/
def SqO (K : PySem.W.Frag) (Jd : Option Addr) (B H : Hp) (a : Addr) (t : Bool) (ds : List D) : Prop := SqK K B a t ds ∨ (t = false ∧ Jd ≠ some a ∧ ∃ xs, H a = some (.lst xs) ∧ Reps K B ds xs)
def itemsD : D → Option (List D)
  | .lst ds => some ds
  | .tup ds => some ds
  | .frl ds => some ds
  | _ => none
section
variable {K : PySem.W.Frag} {Jd : Option Addr} {B H B' H' : Hp} {a : Addr} {t : Bool} {ds es : List D} {d : D} {v : V}
theorem SqB.mono {xs : List V} (s : Same H H') (h : SqB K t H a xs) : SqB K t H' a xs := by
  cases t
  · exact Same.seq s h
  · exact same_sqT s h
theorem SqK.mono (s : Same B B') (h : SqK K B a t ds) : SqK K B' a t ds := by
  obtain ⟨xs, h1, h2⟩ := h
  exact ⟨xs, h1.mono s, h2.mono s⟩
theorem SqO.step (g : Grow Jd B H B' H') (h : SqO K Jd B H a t ds) : SqO K Jd B' H' a t ds := by
  rcases h with h | ⟨e, n, xs, h1, h2⟩
  · exact .inl (h.mono g.bb)
  · exact .inr ⟨e, n, xs, g.hh a _ n h1, h2.mono g.bb⟩
theorem SqO.at (s : Same B H) (h : SqO K Jd B H a t ds) : ∃ xs, SqB K t H a xs ∧ Reps K B ds xs := by
  rcases h with ⟨xs, h1, h2⟩ | ⟨e, n, xs, h1, h2⟩
  · exact ⟨xs, h1.mono s, h2⟩
  · subst e; exact ⟨xs, SqL.of h1, h2⟩
theorem RepT.items (s : Same B H) (h : RepT K Jd B H d v) (hd : itemsD d = some ds) : ∃ a t, v = .ref a ∧ SqO K Jd B H a t ds := by
  rcases h with h | ⟨es, a, xs, rfl, rfl, n, h1, h2⟩
  · cases d <;> try (simp [itemsD] at hd; done)
    case lst es =>
      simp [itemsD] at hd; subst hd
      rw [Rep] at h; obtain ⟨a, xs, rfl, r1, r2⟩ := h
      exact ⟨a, false, rfl, .inl ⟨xs, SqL.of r1, r2⟩⟩
    case tup es =>
      simp [itemsD] at hd; subst hd
      rw [Rep] at h; obtain ⟨a, xs, rfl, r1, r2⟩ := h
      exact ⟨a, true, rfl, .inl ⟨xs, r1, r2⟩⟩
    case frl es =>
      simp [itemsD] at hd; subst hd
      rw [Rep] at h; obtain ⟨a, xs, rfl, r1, r2⟩ := h
      exact ⟨a, false, rfl, .inl ⟨xs, r1, r2⟩⟩
  · simp [itemsD] at hd; subst hd
    exact ⟨a, false, rfl, .inr ⟨rfl, n, xs, h1, h2⟩⟩

/-! #### the four walks, at a turn -/
def ItsB (K : PySem.W.Frag) (t : Bool) (a : Addr) : It := match t with
  | true => Itt K a
  | false => Itl K a
theorem itsB_at {xs : List V} (s : Same B H) (w : Own Jd B H) (hq : SqB K t H a xs) (r : Reps K B ds xs) (i : Nat) : ItAt K Jd (ItsB K t a) B H ds i := by
  have hl := r.len
  cases t
  · refine ⟨fun e => ⟨xs, hq, by omega⟩, fun d hd => ?_⟩
    obtain ⟨v, hv, rv⟩ := r.get hd
    refine ⟨⟨xs, v, hq, hv⟩, fun x H2 y => ?_⟩
    obtain ⟨rfl, y⟩ := y
    have := y xs hq
    rw [hv] at this; cases this
    exact ⟨B, .refl s, w, rv⟩
  · refine ⟨fun e => ⟨xs, hq, by omega⟩, fun d hd => ?_⟩
    obtain ⟨v, hv, rv⟩ := r.get hd
    refine ⟨⟨xs, v, hq, hv⟩, fun x H2 y => ?_⟩
    obtain ⟨rfl, y⟩ := y
    have := y xs hq
    rw [hv] at this; cases this
    exact ⟨B, .refl s, w, rv⟩
def enumD (ds : List D) : List D := ds.mapIdx fun i d => .tup [.int (i : Nat), d]
theorem enumD_get {i : Nat} : (enumD ds)[i]? = (ds[i]?).map fun d => .tup [.int (i : Nat), d] := by
  unfold enumD; rw [List.getElem?_mapIdx]
theorem enumD_len : (enumD ds).length = ds.length := by unfold enumD; simp
def zipD (ds es : List D) : List D := List.zipWith (fun d e => .tup [d, e]) ds es
theorem pair_new {p : Addr} {d e : D} {x y : V} (n : H p = none) (s : Same B H) (w : Own Jd B H) (rx : Rep K B d x) (ry : Rep K B e y) :
    ∃ B2, Grow Jd B H B2 (upd H p (.tup [x, y])) ∧ Own Jd B2 (upd H p (.tup [x, y])) ∧ Rep K B2 (.tup [d, e]) (.ref p) := by
  refine ⟨upd B p (.tup [x, y]), .new s n, w.new n, ?_⟩
  have m := upd_same_of (o := .tup [x, y]) (s.free n)
  rw [Rep]
  exact ⟨p, [x, y], rfl, .inl (.inl upd_same), .cons (rx.mono m) (.cons (ry.mono m) .nil)⟩
theorem iteB_at {xs : List V} (s : Same B H) (w : Own Jd B H) (hq : SqB K t H a xs) (r : Reps K B ds xs) (i : Nat) : ItAt K Jd (IteB K t a) B H (enumD ds) i := by
  have hl := r.len
  refine ⟨fun e => ⟨xs, hq, by rw [enumD_len] at e; omega⟩, fun d hd => ?_⟩
  rw [enumD_get] at hd
  cases hd0 : ds[i]? with
  | none => rw [hd0] at hd; cases hd
  | some d0 =>
    rw [hd0] at hd
    cases hd
    obtain ⟨v, hv, rv⟩ := r.get hd0
    refine ⟨⟨xs, v, hq, hv⟩, fun x H2 y => ?_⟩
    obtain ⟨p, x', rfl, n, rfl, y⟩ := y
    have := y xs hq
    rw [hv] at this; cases this
    exact pair_new n s w (by rw [Rep]) rv
theorem itzB_at {b : Addr} {t2 : Bool} {xs ys : List V} (s : Same B H) (w : Own Jd B H) (hq : SqB K t H a xs) (r : Reps K B ds xs) (hq2 : SqB K t2 H b ys) (r2 : Reps K B es ys) (i : Nat) : ItAt K Jd (ItzB K t t2 a b) B H (zipD ds es) i := by
  have hl := r.len
  have hl2 := r2.len
  unfold zipD
  refine ⟨fun e => ⟨xs, ys, hq, hq2, ?_, ?_, ?_⟩, fun d hd => ?_⟩
  · rw [List.length_zipWith] at e; omega
  · rw [List.length_zipWith] at e; omega
  · rw [List.length_zipWith] at e; omega
  · rw [List.getElem?_zipWith] at hd
    cases hd0 : ds[i]? with
    | none => rw [hd0] at hd; cases hd
    | some d0 =>
      cases he0 : es[i]? with
      | none => rw [hd0, he0] at hd; cases hd
      | some e0 =>
        rw [hd0, he0] at hd
        cases hd
        obtain ⟨v, hv, rv⟩ := r.get hd0
        obtain ⟨u, hu, ru⟩ := r2.get he0
        refine ⟨⟨xs, ys, v, u, hq, hq2, hv, hu⟩, fun x H2 y => ?_⟩
        obtain ⟨p, x', y', rfl, n, rfl, y1, y2⟩ := y
        have e1 := y1 xs hq
        rw [hv] at e1; cases e1
        have e2 := y2 ys hq2
        rw [hu] at e2; cases e2
        exact pair_new n s w rv ru
def rangeD (lo : Int) (n : Nat) : List D := (List.range n).map fun i => .int (lo + (i : Nat))
theorem itr_at {lo : Int} {n : Nat} (s : Same B H) (w : Own Jd B H) (i : Nat) : ItAt K Jd (Itr lo n) B H (rangeD lo n) i := by
  unfold rangeD
  refine ⟨fun e => ?_, fun d hd => ?_⟩
  · simp at e; show n ≤ i; omega
  · rw [List.getElem?_map] at hd
    by_cases hi : i < n
    · rw [List.getElem?_range hi] at hd
      cases hd
      refine ⟨hi, fun x H2 y => ?_⟩
      obtain ⟨rfl, rfl⟩ := y
      exact ⟨B, .refl s, w, by rw [Rep]⟩
    · rw [List.getElem?_eq_none (by simp; omega)] at hd; cases hd
end

/-! ### walks as they begin -/
abbrev DIF := List S → (List S → List D → Prop) → Prop
abbrev DIC := List S → (List D → Prop) → Prop
def EvIF (K : PySem.W.Frag) (ti : TI) (w : DIF) : Prop := ∀ ⦃J : Option Addr⦄ ⦃B0 H0 B H : Hp⦄ ⦃σ : L2.St⦄ ⦃δ : List S⦄, Env K J B0 H0 B H σ δ → ∀ k : List S → List D → Prop, w δ k → ∀ R : It → Hp → Prop,
  (∀ δ' ds It B' H', k δ' ds → Env K J B0 H0 B' H' σ δ' → ItF K J It B' ds → R It H') → ti σ H R
def EvIC (K : PySem.W.Frag) (ti : TI) (w : DIC) : Prop := ∀ ⦃J : Option Addr⦄ ⦃B0 H0 B H : Hp⦄ ⦃σ : L2.St⦄ ⦃δ : List S⦄, Env K J B0 H0 B H σ δ → ∀ k : List D → Prop, w δ k → ∀ R : It → Hp → Prop,
  (∀ ds It B' H', k ds → Grow J B H B' H' → Own J B' H' → ItG K J It B' H' ds → R It H') → ti σ H R
structure Dif (X : Cx) (tg iter : Expr) (w : DIF) : Prop where
  ex : ∃ t, PI X tg iter t ∧ EvIF X.K t w
structure Dic (X : Cx) (tg iter : Expr) (w : DIC) : Prop where
  ex : ∃ t, PI X tg iter t ∧ EvIC X.K t w
section
variable {X : Cx} {e a b c tg iter elt : Expr} {es ifs : List Expr} {pos p : Pos} {st : Stmt} {rest body : List Stmt}
/-- over a list or a tuple -/
def wcSeq (wa : DE) : DIC := fun δ k => wa δ fun x => ∃ d ds, rd δ x = some d ∧ itemsD d = some ds ∧ k ds
theorem dic_seq {wa : DE} (ha : De X e wa) : Dic X tg e (wcSeq wa) := by
  obtain ⟨ta, pa, va⟩ := ha.ex
  refine ⟨_, pi_seq pa, ?_⟩
  intro J B0 H0 B H σ δ e k h R q
  refine va e _ h _ fun x v B1 H1 h1 g1 w1 r1 => ?_
  obtain ⟨d, ds, hr, hi, h1⟩ := h1
  have e1 := e.step g1 w1
  obtain ⟨a, t, rfl, hs⟩ := (r1.toT e1 e.nod hr).items e1.bh hi
  have it : ItG X.K J (ItsB X.K t a) B1 H1 ds := fun B' H' g w i => by
    obtain ⟨xs, hq, r⟩ := (hs.step g).at g.bh
    exact itsB_at g.bh w hq r i
  obtain ⟨xs, hq, _⟩ := hs.at e1.bh
  refine ⟨a, rfl, ?_⟩
  cases t
  · exact .inl ⟨⟨xs, hq⟩, q ds _ B1 H1 h1 g1 w1 it⟩
  · exact .inr ⟨⟨xs, hq⟩, q ds _ B1 H1 h1 g1 w1 it⟩
/-- over range(n), range(m, n) -/
def wcR1 (wa : DA) : DIC := fun δ k => wa δ fun xs => ∃ j, xs = [.c (.int j)] ∧ small62 j ∧ k (rangeD 0 j.toNat)
theorem dic_r1 {wa : DA} {p2 : Pos} (hgl : Gl X "range") (hm : X.mg "range" = none) (ha : Da X [a] wa) (hs' : starEach [a] X.env = [(false, eval a X.env)] := by rfl) : Dic X tg (.Call (.Name "range" p) [a] [] p2) (wcR1 wa) := by
  obtain ⟨ta, pa, va⟩ := ha.ex
  refine ⟨_, pi_range1 hgl hm pa hs', ?_⟩
  intro J B0 H0 B H σ δ e k h R q
  refine va e _ h _ fun xs vs B1 H1 h1 g1 w1 r1 => ?_
  obtain ⟨j, rfl, ⟨hj1, hj2⟩, h1⟩ := h1
  obtain ⟨v, r, rfl, q1, q2, _⟩ := r1
  cases (show r = [] from q2)
  cases rv_int q1
  exact ⟨j, rfl, by omega, by omega, q _ _ B1 H1 h1 g1 w1 fun B' H' g w i => itr_at g.bh w i⟩
def wcR2 (wa : DA) : DIC := fun δ k => wa δ fun xs => ∃ i j, xs = [.c (.int i), .c (.int j)] ∧ small62 i ∧ small62 j ∧ k (rangeD i (j - i).toNat)
theorem dic_r2 {wa : DA} {p2 : Pos} (hgl : Gl X "range") (hm : X.mg "range" = none) (ha : Da X [a, b] wa) (hs' : starEach [a, b] X.env = [(false, eval a X.env), (false, eval b X.env)] := by rfl) (hs2 : starEach [b] X.env = [(false, eval b X.env)] := by rfl) : Dic X tg (.Call (.Name "range" p) [a, b] [] p2) (wcR2 wa) := by
  obtain ⟨ta, pa, va⟩ := ha.ex
  refine ⟨_, pi_range2 hgl hm pa hs' hs2, ?_⟩
  intro J B0 H0 B H σ δ e k h R q
  refine va e _ h _ fun xs vs B1 H1 h1 g1 w1 r1 => ?_
  obtain ⟨i0, j, rfl, ⟨hi1, hi2⟩, ⟨hj1, hj2⟩, h1⟩ := h1
  obtain ⟨v, r, rfl, q1, ⟨v2, r2, rfl, q3, q4, _⟩, _⟩ := r1
  cases (show r2 = [] from q4)
  cases rv_int q1
  cases rv_int q3
  exact ⟨i0, j, rfl, ⟨by omega, by omega, by omega, by omega⟩, q _ _ B1 H1 h1 g1 w1 fun B' H' g w i => itr_at g.bh w i⟩
/-- over enumerate(x) -/
def wcEnum (wa : DA) : DIC := fun δ k => wa δ fun xs => ∃ d ds, rds δ xs = some [d] ∧ itemsD d = some ds ∧ k (enumD ds)
theorem dic_enum {wa : DA} {elts : List Expr} {kk : Nat} {tpos p2 : Pos} (hgl : Gl X "enumerate") (hm : X.mg "enumerate" = none) (ha : Da X [a] wa) (hs' : starEach [a] X.env = [(false, eval a X.env)] := by rfl) : Dic X (.Tuple elts kk tpos) (.Call (.Name "enumerate" p) [a] [] p2) (wcEnum wa) := by
  obtain ⟨ta, pa, va⟩ := ha.ex
  refine ⟨_, pi_enumB hgl hm pa hs', ?_⟩
  intro J B0 H0 B H σ δ e k h R q
  refine va e _ h _ fun xs vs B1 H1 h1 g1 w1 r1 => ?_
  obtain ⟨d, ds, hr, hi, h1⟩ := h1
  have e1 := e.step g1 w1
  obtain ⟨v, rfl, t1⟩ := ts1 (r1.toT e1 e.nod hr)
  obtain ⟨a, t, rfl, hs⟩ := t1.items e1.bh hi
  obtain ⟨xs, hq, _⟩ := hs.at e1.bh
  refine ⟨a, t, xs, rfl, hq, q _ _ B1 H1 h1 g1 w1 fun B' H' g w i => ?_⟩
  obtain ⟨xs, hq, r⟩ := (hs.step g).at g.bh
  exact iteB_at g.bh w hq r i
/-- over zip(x, y) -/
def wcZip (wa : DA) : DIC := fun δ k => wa δ fun xs => ∃ d d2 ds es, rds δ xs = some [d, d2] ∧ itemsD d = some ds ∧ itemsD d2 = some es ∧ k (zipD ds es)
theorem dic_zip {wa : DA} {elts : List Expr} {kk : Nat} {tpos p2 : Pos} (hgl : Gl X "zip") (hm : X.mg "zip" = none) (ha : Da X [a, b] wa) (hs' : starEach [a, b] X.env = (false, eval a X.env) :: starEach [b] X.env := by rfl) (hpl : (backTo p2 (starEach [b] X.env)).any (·.1) = false := by rfl) :
    Dic X (.Tuple elts kk tpos) (.Call (.Name "zip" p) [a, b] [] p2) (wcZip wa) := by
  obtain ⟨ta, pa, va⟩ := ha.ex
  refine ⟨_, pi_zipB hgl hm pa hs' hpl, ?_⟩
  intro J B0 H0 B H σ δ e k h R q
  refine va e _ h _ fun xs vs B1 H1 h1 g1 w1 r1 => ?_
  obtain ⟨d, d2, ds, es, hr, hi, hi2, h1⟩ := h1
  have e1 := e.step g1 w1
  obtain ⟨v, v2, rfl, t1, t2⟩ := ts2 (r1.toT e1 e.nod hr)
  obtain ⟨a, t, rfl, hs⟩ := t1.items e1.bh hi
  obtain ⟨b, t', rfl, hs2⟩ := t2.items e1.bh hi2
  obtain ⟨xs, hq, _⟩ := hs.at e1.bh
  obtain ⟨ys, hq2, _⟩ := hs2.at e1.bh
  refine ⟨a, b, t, t', xs, ys, rfl, hq, hq2, q _ _ B1 H1 h1 g1 w1 fun B' H' g w i => ?_⟩
  obtain ⟨xs, hq, r⟩ := (hs.step g).at g.bh
  obtain ⟨ys, hq2, r2⟩ := (hs2.step g).at g.bh
  exact itzB_at g.bh w hq r hq2 r2 i
theorem rep_items {K : PySem.W.Frag} {B : Hp} {d : D} {ds : List D} {v : V} (h : Rep K B d v) (hd : itemsD d = some ds) : ∃ a t, v = .ref a ∧ SqK K B a t ds := by
  cases d <;> try (simp [itemsD] at hd; done)
  case lst es =>
    simp [itemsD] at hd; subst hd
    rw [Rep] at h; obtain ⟨a, xs, rfl, r1, r2⟩ := h
    exact ⟨a, false, rfl, xs, SqL.of r1, r2⟩
  case tup es =>
    simp [itemsD] at hd; subst hd
    rw [Rep] at h; obtain ⟨a, xs, rfl, r1, r2⟩ := h
    exact ⟨a, true, rfl, xs, r1, r2⟩
  case frl es =>
    simp [itemsD] at hd; subst hd
    rw [Rep] at h; obtain ⟨a, xs, rfl, r1, r2⟩ := h
    exact ⟨a, false, rfl, xs, r1, r2⟩
theorem items_okS {K : PySem.W.Frag} {J : Option Addr} {B0 H0 B H B1 H1 : Hp} {σ : L2.St} {δ δ' : List S} {x : DV} {v : V} {ds : List D} (e : Env K J B0 H0 B H σ δ) (g : Grow J B H B1 H1) (w : Own J B1 H1) (r : RepV K J H B1 H1 σ δ x v) (h : items δ x = some (δ', ds)) :
    ∃ B2 a xs, Env K J B0 H0 B2 H1 σ δ' ∧ v = .ref a ∧ (SqL K B2 a xs ∨ SqT K B2 a xs) ∧ Reps K B2 ds xs ∧ Same B1 B2 := by
  have e1 := e.step g w
  cases x with
  | c d =>
    have r : Rep K B1 d v := r
    cases d <;> try (simp [items] at h; done)
    case lst es =>
      simp [items] at h; obtain ⟨rfl, rfl⟩ := h
      rw [Rep] at r; obtain ⟨a, xs, rfl, r1, r2⟩ := r
      exact ⟨B1, a, xs, e1, rfl, .inl (SqL.of r1), r2, .refl _⟩
    case tup es =>
      simp [items] at h; obtain ⟨rfl, rfl⟩ := h
      rw [Rep] at r; obtain ⟨a, xs, rfl, r1, r2⟩ := r
      exact ⟨B1, a, xs, e1, rfl, .inr r1, r2, .refl _⟩
    case frl es =>
      simp [items] at h; obtain ⟨rfl, rfl⟩ := h
      rw [Rep] at r; obtain ⟨a, xs, rfl, r1, r2⟩ := r
      exact ⟨B1, a, xs, e1, rfl, .inl r1, r2, .refl _⟩
  | f es =>
    simp [items] at h; obtain ⟨rfl, rfl⟩ := h
    obtain ⟨B2, g2, w2, s2, r2, _⟩ := r.keep e.nod g w (d := .lst es) rfl
    rw [Rep] at r2; obtain ⟨a, xs, rfl, r1, r3⟩ := r2
    exact ⟨B2, a, xs, e.step g2 w2, rfl, .inl (SqL.of r1), r3, s2⟩
  | o i =>
    obtain ⟨⟨es, hd⟩, hv⟩ := r
    simp [items, hd] at h; obtain ⟨rfl, rfl⟩ := h
    obtain ⟨B2, e2, s2, a, hs, r2⟩ := e1.freeze hd
    rw [hv] at hs; cases hs
    rw [Rep] at r2; obtain ⟨a', xs, ea, r1, r3⟩ := r2
    cases ea
    exact ⟨B2, a, xs, e2, rfl, .inl (SqL.of r1), r3, s2⟩
  | j => simp [items] at h
/-! #### .. of a for -/
/-- over enumerate(x) -/
def wfEnum (wa : DA) : DIF := fun δ k => wa δ fun xs => ∃ x δ' ds, xs = [x] ∧ items δ x = some (δ', ds) ∧ k δ' (enumD ds)
theorem dif_enum {wa : DA} {elts : List Expr} {kk : Nat} {tpos p2 : Pos} (hgl : Gl X "enumerate") (hm : X.mg "enumerate" = none) (ha : Da X [a] wa) (hs' : starEach [a] X.env = [(false, eval a X.env)] := by rfl) : Dif X (.Tuple elts kk tpos) (.Call (.Name "enumerate" p) [a] [] p2) (wfEnum wa) := by
  obtain ⟨ta, pa, va⟩ := ha.ex
  refine ⟨_, pi_enumB hgl hm pa hs', ?_⟩
  intro J B0 H0 B H σ δ e k h R q
  refine va e _ h _ fun xs vs B1 H1 h1 g1 w1 r1 => ?_
  obtain ⟨x, δ', ds, rfl, hi, h1⟩ := h1
  obtain ⟨v, r, rfl, q1, q2, _⟩ := r1
  cases (show r = [] from q2)
  obtain ⟨B2, a, xs, e2, rfl, hx, rr⟩ := items_ok e g1 w1 q1 hi
  obtain ⟨t, hq⟩ : ∃ t, SqB X.K t B2 a xs := hx.elim (fun h => ⟨false, h⟩) fun h => ⟨true, h⟩
  exact ⟨a, t, xs, rfl, hq.mono e2.bh, q _ _ _ B2 H1 h1 e2 fun B' H' s s' w i => iteB_at s' w ((hq.mono s).mono s') (rr.mono s) i⟩
def wfZip (wa : DA) : DIF := fun δ k => wa δ fun xs => ∃ x d δ' ds es, ((xs = [x, .c d] ∧ itemsD d = some es) ∧ items δ x = some (δ', ds)) ∧ k δ' (zipD ds es)
theorem dif_zip {wa : DA} {elts : List Expr} {kk : Nat} {tpos p2 : Pos} (hgl : Gl X "zip") (hm : X.mg "zip" = none) (ha : Da X [a, b] wa) (hs' : starEach [a, b] X.env = (false, eval a X.env) :: starEach [b] X.env := by rfl) (hpl : (backTo p2 (starEach [b] X.env)).any (·.1) = false := by rfl) :
    Dif X (.Tuple elts kk tpos) (.Call (.Name "zip" p) [a, b] [] p2) (wfZip wa) := by
  obtain ⟨ta, pa, va⟩ := ha.ex
  refine ⟨_, pi_zipB hgl hm pa hs' hpl, ?_⟩
  intro J B0 H0 B H σ δ e k h R q
  refine va e _ h _ fun xs vs B1 H1 h1 g1 w1 r1 => ?_
  obtain ⟨x, d, δ', ds, es, ⟨⟨rfl, hi2⟩, hi⟩, h1⟩ := h1
  obtain ⟨v, r, rfl, q1, ⟨v2, r2, rfl, q3, q4, _⟩, _⟩ := r1
  cases (show r2 = [] from q4)
  have q3 : Rep X.K B1 d v2 := q3
  obtain ⟨b, t2, rfl, hb⟩ := rep_items q3 hi2
  obtain ⟨B2, a, xs, e2, rfl, hx, rr, sm⟩ := items_okS e g1 w1 q1 hi
  obtain ⟨t, hq⟩ : ∃ t, SqB X.K t B2 a xs := hx.elim (fun h => ⟨false, h⟩) fun h => ⟨true, h⟩
  obtain ⟨ys, hq2, rr2⟩ := hb.mono sm
  exact ⟨a, b, t, t2, xs, ys, rfl, hq.mono e2.bh, hq2.mono e2.bh, q _ _ _ B2 H1 h1 e2 fun B' H' s s' w i => itzB_at s' w ((hq.mono s).mono s') (rr.mono s) ((hq2.mono s).mono s') (rr2.mono s) i⟩
end
end Dl
/-! for over a walk; list comprehensions -/
namespace Dl
open PySem PySem.Spec PyProof.Rows L2
section
variable {X : Cx} {e a b c tg iter elt : Expr} {es ifs : List Expr} {pos p : Pos} {st : Stmt} {rest body : List Stmt}
def wForW (wi : DIF) (wg : DG) (wb : DS) : DS := fun R δ => wi δ fun δ' ds => ∃ I : Nat → List S → Prop, I 0 δ' ∧
  (∀ (i : Nat) d δ, ds[i]? = some d → I i δ → wg d δ fun δ2 => wb { R with nx := I (i + 1), ct := I (i + 1), bk := R.nx } δ2) ∧ ∀ δ, I ds.length δ → R.nx δ
theorem ds_forW {wi : DIF} {wg : DG} {wb : DS} (hp : PassesOwn (model X.prog X.w) X.A X.env X.xe) (hc : X.calm = true) (hi : Dif X tg iter wi) (hg : Dg X tg wg) (hb : Dss X body wb) (hs : ∀ x, foldedSetIterable iter X.env x = pure x := by intro _; rfl) : Ds X (.For tg iter body [] pos) (wForW wi wg wb) := by
  obtain ⟨ti, pi, vi⟩ := hi.ex
  obtain ⟨tg', pg, vg⟩ := hg.ex
  obtain ⟨tb, pb, vb⟩ := hb.ex
  refine ⟨_, ps_for hp hc pi pg pb hs, ?_⟩
  intro J B0 H0 B H σ δ e R h En F
  refine vi e _ h _ fun δ' ds It B2 H2 h1 e2 it => ?_
  obtain ⟨I, h0, hst, hend⟩ := h1
  have e3 := e2.rebase
  refine ⟨fun i m σ H => m = ds.length - i ∧ i ≤ ds.length ∧ ∃ B δ, Env X.K J B2 H0 B H σ δ ∧ I i δ, ⟨ds.length, rfl, Nat.zero_le _, B2, δ', e3, h0⟩, ?_⟩
  rintro i m σ H ⟨rfl, hi, B, δ, e, hI⟩
  obtain ⟨stop, go⟩ := it e.gr.bb e.gr.bh e.ow i
  by_cases hlt : i < ds.length
  · have hd : ds[i]? = some ds[i] := List.getElem?_eq_getElem hlt
    obtain ⟨go, yl⟩ := go _ hd
    refine .inr ⟨go, fun σ' H' => i + 1 ≤ ds.length ∧ ∃ B δ, Env X.K J B2 H0 B H' σ' δ ∧ I (i + 1) δ, fun σ' H' h => ⟨ds.length - (i + 1), by omega, rfl, h.1, h.2⟩, fun x H' y => ?_⟩
    obtain ⟨B3, g3, w3, rx⟩ := yl x H' y
    refine vg (e.step g3 w3) _ x rx _ (hst i _ δ hd hI) _ fun B' σ' δ' hk sm e' => ?_
    exact vb e' _ hk _ ⟨fun h' e'' => ⟨hlt, _, _, e'', h'⟩, fun h' e'' r => F.rt h' (e2.unbase e'') r, fun h' e'' => F.nx h' (e2.unbase e''), fun h' e'' => ⟨hlt, _, _, e'', h'⟩⟩
  · have ei : i = ds.length := by omega
    subst ei
    exact .inl ⟨stop rfl, F.nx (hend δ hI) (e2.unbase e)⟩

/-! ### targets of a comprehension: names of its own alone change -/
def EvGv (K : PySem.W.Frag) (vs : List Nat) (g : TG) (wg : DG) : Prop := ∀ ⦃J : Option Addr⦄ ⦃B0 H0 B H : Hp⦄ ⦃σ : L2.St⦄ ⦃δ : List S⦄, Env K J B0 H0 B H σ δ → ∀ (d : D) (v : V), Rep K B d v → ∀ k : List S → Prop, wg d δ k → ∀ Q : L2.St → Hp → Prop,
  (∀ σ' δ', k δ' → Env K J B0 H0 B H σ' δ' → wipe σ' vs = wipe σ vs → Q σ' H) → g v σ H Q
def EvGsv (K : PySem.W.Frag) (vs : List Nat) (g : TGs) (wg : DGs) : Prop := ∀ ⦃J : Option Addr⦄ ⦃B0 H0 B H : Hp⦄ ⦃σ : L2.St⦄ ⦃δ : List S⦄, Env K J B0 H0 B H σ δ → ∀ (ds : List D) (xs : List V), Reps K B ds xs → ∀ k : List S → Prop, wg ds δ k → ∀ Q : L2.St → Hp → Prop,
  (∀ σ' δ', k δ' → Env K J B0 H0 B H σ' δ' → wipe σ' vs = wipe σ vs → Q σ' H) → g xs σ H Q
structure Dgv (X : Cx) (vs : List Nat) (t : Expr) (w : DG) : Prop where
  ex : ∃ g, PG X t g ∧ EvGv X.K vs g w
structure Dgsv (X : Cx) (vs : List Nat) (ts : List Expr) (w : DGs) : Prop where
  ex : ∃ g, PGs X ts g ∧ EvGsv X.K vs g w
theorem wipe_set {σ : L2.St} {i : Nat} {o : Option V} : ∀ {vs : List Nat}, i ∈ vs → wipe (σ.set i o) vs = wipe σ vs
  | [], h => by simp at h
  | v :: vs, h => by
    unfold wipe
    by_cases hi : i ∈ vs
    · rw [wipe_set hi]
    · have e : i = v := by simpa [hi] using h
      subst e
      have out : ∀ {ws : List Nat} {σ : L2.St}, i ∉ ws → wipe (σ.set i o) ws = (wipe σ ws).set i o := by
        intro ws
        induction ws with
        | nil => intro σ _; rfl
        | cons w ws ih =>
          intro σ hw
          unfold wipe
          rw [ih (fun z => hw (List.mem_cons_of_mem _ z))]
          exact List.set_comm _ _ (fun z => hw (by rw [z]; exact List.mem_cons_self))
      rw [out hi, List.set_set]
theorem wipe_wipe {σ : L2.St} {vs : List Nat} : wipe (wipe σ vs) vs = wipe σ vs := by
  have gen : ∀ ws : List Nat, (∀ w ∈ ws, w ∈ vs) → wipe (wipe σ ws) vs = wipe σ vs := by
    intro ws
    induction ws with
    | nil => intro _; rfl
    | cons w ws ih =>
      intro h
      show wipe ((wipe σ ws).set w none) vs = _
      rw [wipe_set (h w List.mem_cons_self)]
      exact ih fun x hx => h x (List.mem_cons_of_mem _ hx)
  exact gen vs fun _ h => h
def wipeD (δ : List S) : List Nat → List S
  | [] => δ
  | v :: vs => (wipeD δ vs).set v .no
theorem dgv_name {i : Nat} {x : Str} {vs : List Nat} (hN : X.N.Nodup) (hi : X.N[i]? = some x) (hx : Loc X.env.scope x) (hv : i ∈ vs) (hf : X.fn x = true ∨ X.env.scope.names.lookup x = some .local := by first | exact .inl rfl | exact .inr rfl | assumption) : Dgv X vs (.Name x pos) (wgName i) := by
  refine ⟨_, pg_name hN hi hx hf, ?_⟩
  intro J B0 H0 B H σ δ e d v r k h Q q
  exact q _ _ h (e.putc r i) (wipe_set hv)
theorem dgsv_nil {vs : List Nat} : Dgsv X vs [] wgNil := by
  refine ⟨_, pgs_nil, ?_⟩
  intro J B0 H0 B H σ δ e ds xs r k h Q q
  obtain ⟨rfl, h⟩ := h
  rw [Reps] at r
  exact ⟨r, q _ _ h e rfl⟩
theorem dgsv_cons {vs : List Nat} {w : DG} {ws : DGs} (h1 : Dgv X vs e w) (h2 : Dgsv X vs es ws) (hs : (assignEach (e :: es) X.env).map (·.2) = assign e X.env :: (assignEach es X.env).map (·.2) := by rfl) : Dgsv X vs (e :: es) (wgCons w ws) := by
  obtain ⟨t1, p1, v1⟩ := h1.ex
  obtain ⟨t2, p2, v2⟩ := h2.ex
  refine ⟨_, pgs_cons p1 p2 hs, ?_⟩
  intro J B0 H0 B H σ δ e ds xs r k h Q q
  obtain ⟨d, dr, rfl, h⟩ := h
  rw [Reps] at r
  obtain ⟨x, xs, rfl, r1, r2⟩ := r
  exact ⟨x, xs, rfl, v1 e d x r1 _ h _ fun σ1 δ1 h1 e1 w1 => v2 e1 dr xs r2 _ h1 _ fun σ2 δ2 h2 e2 w2 => q σ2 δ2 h2 e2 (w2.trans w1)⟩
theorem dgv_tup {vs : List Nat} {k n : Nat} {ws : DGs} (hc : X.calm = true) (h : Dgsv X vs es ws) (hn : (assignEach es X.env).length = n := by rfl) (hst : (assignEach es X.env).findIdx? (·.1) = none := by rfl) : Dgv X vs (.Tuple es k pos) (wgTup n ws) := by
  obtain ⟨t, p, v⟩ := h.ex
  refine ⟨_, pg_tup hc p hn hst, ?_⟩
  intro J B0 H0 B H σ δ e d u r k h Q q
  obtain ⟨ds, rfl, hl, h⟩ := h
  rw [Rep] at r
  obtain ⟨a, xs, rfl, r1, r2⟩ := r
  exact ⟨a, xs, rfl, same_sqT e.bh r1, by rw [r2.len, hl], v e ds xs r2 _ h _ q⟩
/-! tests of a comprehension -/
structure Dts (X : Cx) (ifs : List Expr) (w : DT) : Prop where
  ex : ∃ t, PTs X ifs t ∧ EvT X.K t w
def wYes : DT := fun _ k => k true
theorem dts_nil : Dts X [] wYes := by
  refine ⟨_, pts_nil, ?_⟩
  intro J B0 H0 B H σ δ e k h Q q
  exact q true B H h (.refl e.bh) e.ow
theorem dts_one {w : DT} (h : Dt X c w) : Dts X [c] w := by
  obtain ⟨t, p, v⟩ := h.ex
  exact ⟨_, pts_one p, v⟩
end

section
variable {K : PySem.W.Frag} {J : Option Addr} {B0 H0 B H : Hp} {σ : L2.St} {δ : List S}
theorem Env.unset (e : Env K J B0 H0 B H σ δ) (v : Nat) : Env K J B0 H0 B H (σ.set v none) (δ.set v .no) := by
  refine ⟨e.gr, e.ow, e.jn, by simp [e.ln], fun i s h => ?_, fun i j ds es a nij h1 h2 h3 h4 => ?_⟩
  · rw [getD_set]
    rw [List.getElem?_set] at h
    by_cases hv : v = i
    · subst hv
      by_cases hl : v < δ.length
      · simp [hl] at h; subst h; trivial
      · simp [hl] at h
    · rw [if_neg hv] at h
      rw [if_neg fun z => hv z.1]
      exact e.sl i s h
  · have no : ∀ {i ds}, (δ.set v S.no)[i]? = some (S.own ds) → v ≠ i ∧ δ[i]? = some (S.own ds) := by
      intro i ds h
      rw [List.getElem?_set] at h
      by_cases hv : v = i
      · subst hv
        by_cases hl : v < δ.length
        · simp [hl] at h
        · simp [hl] at h
      · rw [if_neg hv] at h; exact ⟨hv, h⟩
    obtain ⟨n1, h1⟩ := no h1
    obtain ⟨n2, h2⟩ := no h2
    rw [List.getElem?_set_ne n1] at h3
    rw [List.getElem?_set_ne n2] at h4
    exact e.ap i j ds es a nij h1 h2 h3 h4
theorem Env.wiped (e : Env K J B0 H0 B H σ δ) : ∀ vs : List Nat, Env K J B0 H0 B H (wipe σ vs) (wipeD δ vs)
  | [] => e
  | v :: vs => (e.wiped vs).unset v
end
/-- [elt for target in iter if ..] -/
def wLc (wi : DIC) (vs : List Nat) (wg : DG) (wt : DT) (we : DE) : DE := fun δ k => wi δ fun ds => ∃ I : Nat → List D → Prop, I 0 [] ∧
  (∀ (i : Nat) d acc, ds[i]? = some d → I i acc → acc.length ≤ i → wg d (wipeD δ vs) fun δ2 => wt δ2 fun b => if b = true then we δ2 fun y => ∃ e, cl y = some e ∧ I (i + 1) (acc ++ [e]) else I (i + 1) acc) ∧
  ds.length ≤ 100000 ∧ ∀ acc, I ds.length acc → acc.length ≤ ds.length → k (.f acc)
theorem ev_lc {K : PySem.W.Frag} {ti : TI} {g : TG} {tt : TT} {te : TE} {wi : DIC} {wg : DG} {wt : DT} {we : DE} {vs : List Nat} (hi : EvIC K ti wi) (hg : EvGv K vs g wg) (ht : EvT K tt wt) (he : EvE K te we) : EvE K (tLc ti g tt te vs) (wLc wi vs wg wt we) := by
  intro J B0 H0 B H σ δ e k h Q q
  refine hi e _ h _ fun ds It B1 H1 h1 g1 w1 it => ?_
  obtain ⟨I, I0, hst, hsz, hend⟩ := h1
  intro L hL
  have e1 := e.step g1 w1
  have nj : J ≠ some L := w1.no hL
  have hB1 : B1 L = none := e1.bh.free hL
  let W : Nat → Hp → Prop := fun i H' => i ≤ ds.length ∧ ∃ B' acc xs, Grow J B1 H1 B' H' ∧ Own J B' H' ∧ B' L = none ∧ H' L = some (.lst xs) ∧ Reps K B' acc xs ∧ I i acc ∧ acc.length ≤ i
  refine ⟨fun i m H' => m = ds.length - i ∧ W i H', ⟨ds.length, rfl, Nat.zero_le _, B1, [], [], .fresh e1.bh hL, w1.fresh hL, hB1, upd_same, .nil, I0, Nat.le_refl _⟩, ?_⟩
  rintro i m H' ⟨rfl, hi, B', acc, xs, g', w', hB', hH', rr, hI, hl⟩
  obtain ⟨stop, go⟩ := it g' w' i
  by_cases hlt : i < ds.length
  · have hd : ds[i]? = some ds[i] := List.getElem?_eq_getElem hlt
    obtain ⟨go, yl⟩ := go _ hd
    refine .inr ⟨go, W (i + 1), fun H'' h => ⟨ds.length - (i + 1), by omega, rfl, h⟩, fun x H2 y => ?_⟩
    obtain ⟨B2, g2, w2, rx⟩ := yl x H2 y
    have G2 := g'.trans g2
    have e2 := (e1.step G2 w2).wiped vs
    have hB2 : B2 L = none := (g2.fr L (by rw [hH']; simp)).trans hB'
    have hH2 : H2 L = some (.lst xs) := g2.hh L _ nj hH'
    refine hg e2 _ x rx _ (hst i _ acc hd hI hl) _ fun σ3 δ3 h3 e3 ew => ?_
    refine ⟨ew.trans wipe_wipe, ?_⟩
    refine ht e3 _ h3 _ fun b B4 H4 h4 g4 w4 => ?_
    have G4 := G2.trans g4
    have hB4 : B4 L = none := (g4.fr L (by rw [hH2]; simp)).trans hB2
    have hH4 : H4 L = some (.lst xs) := g4.hh L _ nj hH2
    cases b with
    | false => exact ⟨hlt, B4, acc, xs, G4, w4, hB4, hH4, (rr.mono g2.bb).mono g4.bb, h4, by omega⟩
    | true =>
      have e4 := e3.step g4 w4
      refine he e4 _ h4 _ fun y v B5 H5 h5 g5 w5 r5 => ?_
      obtain ⟨d, hc, h5⟩ := h5
      obtain ⟨B6, g6, w6, s6, r6, _⟩ := r5.keep e4.nod g5 w5 hc
      have G6 := G4.trans g6
      have hB6 : B6 L = none := (g6.fr L (by rw [hH4]; simp)).trans hB4
      have hH5 : H5 L = some (.lst xs) := g6.hh L _ nj hH4
      have r0 := ((rr.mono g2.bb).mono g4.bb).mono g6.bb
      have lx := r0.len
      refine ⟨xs, hH5, Nat.lt_of_lt_of_le (show xs.length < 100001 by omega) (by decide), hlt, B6, acc ++ [d], xs ++ [v], ?_, ?_, hB6, upd_same, r0.append (.cons r6 .nil), h5, by simp; omega⟩
      · refine ⟨G6.bb, fun b o eb => ?_, fun b o nb eb => ?_, fun b eb => ?_, G6.fr⟩
        · rw [upd_ne (fun z => by rw [z, hB6] at eb; cases eb)]; exact G6.bh b o eb
        · rw [upd_ne (fun z => by rw [z, hL] at eb; cases eb)]; exact G6.hh b o nb eb
        · by_cases hb : b = L
          · rw [hb, upd_same]; simp
          · rw [upd_ne hb]; exact G6.ne b eb
      · intro b z
        obtain ⟨h1, l, m, c, h0, h2⟩ := w6 b z
        exact ⟨h1, l, m, c, h0, by rw [upd_ne (fun q => nj (by rw [z, q]))]; exact h2⟩
  · have ei : i = ds.length := by omega
    subst ei
    refine .inl ⟨stop rfl, q (.f acc) _ B' H' (hend acc hI hl) (g1.trans g') w' ⟨L, xs, rfl, ?_, hB', hH', rr⟩⟩
    cases hh : H L with
    | none => rfl
    | some o => exact absurd hL (g1.ne L (by rw [hh]; simp))
section
variable {X : Cx} {e a b c tg iter elt : Expr} {es ifs : List Expr} {pos p : Pos} {st : Stmt} {rest body : List Stmt}
abbrev Blk (X : Cx) (scope : Scope) (P : Cx → Prop) : Prop := ∀ (s : Shared) (H : Hp) (C : Addr) (cl : List (Str × Addr)) (fp : List Addr), P (X.blk s H scope (compEnvC scope cl C X.env) fp)
theorem blk_g {vs : List Nat} {scope : Scope} {wg : DG} (h : Blk X scope fun Y => Dgv Y vs tg wg) : ∃ g, (∀ (s : Shared) (H : Hp) (C : Addr) (cl : List (Str × Addr)) (fp : List Addr), PG (X.blk s H scope (compEnvC scope cl C X.env) fp) tg g) ∧ EvGv X.K vs g wg := by
  refine ⟨fun v σ H Q => ∀ s H' C cl fp, (h s H' C cl fp).ex.choose v σ H Q, fun s H C cl fp => ⟨fun pins s' σ H' v u Q I r q => (h s H C cl fp).ex.choose_spec.1.run pins s' σ H' v u Q I r (q s H C cl fp)⟩, ?_⟩
  intro J B0 H0 B H σ δ e d v r k hk Q q s H' C cl fp
  exact (h s H' C cl fp).ex.choose_spec.2 e d v r k hk Q q
theorem blk_t {scope : Scope} {wt : DT} (h : Blk X scope fun Y => Dts Y ifs wt) : ∃ t, (∀ (s : Shared) (H : Hp) (C : Addr) (cl : List (Str × Addr)) (fp : List Addr), PTs (X.blk s H scope (compEnvC scope cl C X.env) fp) ifs t) ∧ EvT X.K t wt := by
  refine ⟨fun σ H Q => ∀ s H' C cl fp, (h s H' C cl fp).ex.choose σ H Q, fun s H C cl fp => ⟨fun pins s' σ H' Q I q => (h s H C cl fp).ex.choose_spec.1.run pins s' σ H' Q I (q s H C cl fp)⟩, ?_⟩
  intro J B0 H0 B H σ δ e k hk Q q s H' C cl fp
  exact (h s H' C cl fp).ex.choose_spec.2 e k hk Q q
theorem blk_e {scope : Scope} {we : DE} (h : Blk X scope fun Y => De Y elt we) : ∃ t, (∀ (s : Shared) (H : Hp) (C : Addr) (cl : List (Str × Addr)) (fp : List Addr), PE (X.blk s H scope (compEnvC scope cl C X.env) fp) elt t) ∧ EvE X.K t we := by
  refine ⟨fun σ H Q => ∀ s H' C cl fp, (h s H' C cl fp).ex.choose σ H Q, fun s H C cl fp => ⟨fun pins s' σ H' Q I q => (h s H C cl fp).ex.choose_spec.1.run pins s' σ H' Q I (q s H C cl fp)⟩, ?_⟩
  intro J B0 H0 B H σ δ e k hk Q q s H' C cl fp
  exact (h s H' C cl fp).ex.choose_spec.2 e k hk Q q
theorem de_lc {scope : Scope} {own : List (Str × Nat)} {wi : DIC} {wg : DG} {wt : DT} {we : DE} (hc : X.calm = true) (hN : X.N.Nodup) (hi : Dic X tg iter wi) (ok : BlkOk X.N X.env.scope scope own)
    (hg : Blk X scope fun Y => Dgv Y (own.map (·.2)) tg wg) (ht : Blk X scope fun Y => Dts Y ifs wt) (he : Blk X scope fun Y => De Y elt we) (hs : ∀ x, foldedSetIterable iter X.env x = pure x := by intro _; rfl) :
    De X (.ListComp elt [⟨tg, iter, ifs, 0⟩] scope pos) (wLc wi (own.map (·.2)) wg wt we) := by
  obtain ⟨ti, pi, vi⟩ := hi.ex
  obtain ⟨g, pg, vg⟩ := blk_g hg
  obtain ⟨t, pt, vt⟩ := blk_t ht
  obtain ⟨te, pe, ve⟩ := blk_e he
  exact ⟨_, pe_lc hc hN pi ok pg pt pe hs, ev_lc vi vg vt ve⟩
/-- x = [..], on one line -/
theorem ds_setLc {i : Nat} {y : Str} {py spos : Pos} {scope : Scope} {own : List (Str × Nat)} {wi : DIC} {wg : DG} {wt : DT} {we : DE} (hc : X.calm = true) (hN : X.N.Nodup) (hy : X.N[i]? = some y) (hyl : X.env.scope.names.lookup y = some .local)
    (hsw : swapsWith (.ListComp elt [⟨tg, iter, ifs, 0⟩] scope pos) (some (.Name y py)) spos.line X.env = pure true) (hi : Dic X tg iter wi) (ok : BlkOk X.N X.env.scope scope own)
    (hg : Blk X scope fun Y => Dgv Y (own.map (·.2)) tg wg) (ht : Blk X scope fun Y => Dts Y ifs wt) (he : Blk X scope fun Y => De Y elt we) (hs : ∀ x, foldedSetIterable iter X.env x = pure x := by intro _; rfl) :
    Ds X (.Assign [.Name y py] (.ListComp elt [⟨tg, iter, ifs, 0⟩] scope pos) spos) (wSet i (wLc wi (own.map (·.2)) wg wt we)) := by
  obtain ⟨ti, pi, vi⟩ := hi.ex
  obtain ⟨g, pg, vg⟩ := blk_g hg
  obtain ⟨t, pt, vt⟩ := blk_t ht
  obtain ⟨te, pe, ve⟩ := blk_e he
  refine ⟨_, ps_setLc hc hN hy hyl hsw pi ok pg pt pe hs, ?_⟩
  intro J B0 H0 B H σ δ e R h En F
  refine ev_lc vi vg vt ve e _ h _ fun x v B1 H1 h1 g1 w1 r1 => ?_
  obtain ⟨s, hs, h1⟩ := h1
  exact F.nx h1 (e.put g1 w1 r1 hs i)
end
end Dl
/-! x in xs; list(range(..)); repr of bools; t[::-1]; xs.append(ys.pop()) -/
namespace Dl
open PySem PySem.Spec PyProof.Rows L2
section
variable {X : Cx} {e a b c tg iter elt : Expr} {es ifs : List Expr} {pos p : Pos} {st : Stmt} {rest body : List Stmt}

/-! ### in -/
def rInL : R2D := fun d e k => match e with
  | .lst es => okD d ∧ okD (.lst es) ∧ k (.c (.bl (es.any fun z => eqD z d)))
  | _ => False
def rNotInL : R2D := fun d e k => match e with
  | .lst es => okD d ∧ okD (.lst es) ∧ k (.c (.bl (!es.any fun z => eqD z d)))
  | _ => False
theorem pys_any {d : D} : ∀ es : List D, (pys es).any (fun z => PyData.eqv z (py d)) = es.any fun z => eqD z d
  | [] => rfl
  | e :: es => by rw [pys, List.any_cons, List.any_cons, pys_any es]; rfl
theorem dop_inL {K : PySem.W.Frag} : DOp K (rInD K) rInL := by
  intro J B H d e k x y Q h s w tx ty q
  unfold rInL at h
  cases e <;> try exact h.elim
  rename_i es
  obtain ⟨⟨p1, s1⟩, ⟨p2, s2⟩, h⟩ := h
  have t2 := dp_ofT s p2 ty
  rw [py] at t2 s2
  refine ⟨_, _, dp_ofT s p1 tx, t2, s1, s2, fin_c h s w ?_ q⟩
  rw [Rep, pys_any]
theorem dop_notInL {K : PySem.W.Frag} : DOp K (rNotInD K) rNotInL := by
  intro J B H d e k x y Q h s w tx ty q
  unfold rNotInL at h
  cases e <;> try exact h.elim
  rename_i es
  obtain ⟨⟨p1, s1⟩, ⟨p2, s2⟩, h⟩ := h
  have t2 := dp_ofT s p2 ty
  rw [py] at t2 s2
  refine ⟨_, _, dp_ofT s p1 tx, t2, s1, s2, fin_c h s w ?_ q⟩
  rw [Rep, pys_any]
/-- ints in a tuple of ints -/
def rInT : R2D := fun d e k => match d, e with
  | .int i, .tup es => ∃ ns : List Int, es = ns.map .int ∧ k (.c (.bl (decide (i ∈ ns))))
  | _, _ => False
def rNotInT : R2D := fun d e k => match d, e with
  | .int i, .tup es => ∃ ns : List Int, es = ns.map .int ∧ k (.c (.bl (!decide (i ∈ ns))))
  | _, _ => False
theorem inV_ints {i : Int} (ns : List Int) : inV (.int i) (ns.map V.int) = decide (i ∈ ns) := by
  unfold inV
  induction ns with
  | nil => rfl
  | cons n ns ih =>
    rw [List.map_cons, List.any_cons, ih]
    show (n == i || decide (i ∈ ns)) = _
    by_cases h : n = i
    · subst h; simp
    · have h1 : (n == i) = false := by simpa using h
      have h2 : ¬ i = n := fun z => h z.symm
      rw [h1, Bool.false_or]
      congr 1
      simp [h2]
theorem flat_ints (ns : List Int) : (ns.map V.int).all flatV = true := by
  rw [List.all_map, List.all_eq_true]
  intro n _
  rfl
theorem dop_inT {K : PySem.W.Frag} : DOp K (rIn K false) rInT := by
  intro J B H d e k x y Q h s w tx ty q
  unfold rInT at h
  cases d <;> try exact h.elim
  cases e <;> try exact h.elim
  obtain ⟨ns, rfl, h⟩ := h
  cases tx.int
  obtain ⟨a, xs, rfl, aB, aH, ra⟩ := ty.tup s
  have : xs = ns.map V.int := reps_ints_eq ra
  subst this
  exact ⟨a, _, rfl, .inr aH, rfl, flat_ints ns, by rw [inV_ints]; exact fin_c h s w (by rw [Rep]; rfl) q⟩
theorem dop_notInT {K : PySem.W.Frag} : DOp K (rIn K true) rNotInT := by
  intro J B H d e k x y Q h s w tx ty q
  unfold rNotInT at h
  cases d <;> try exact h.elim
  cases e <;> try exact h.elim
  obtain ⟨ns, rfl, h⟩ := h
  cases tx.int
  obtain ⟨a, xs, rfl, aB, aH, ra⟩ := ty.tup s
  have : xs = ns.map V.int := reps_ints_eq ra
  subst this
  exact ⟨a, _, rfl, .inr aH, rfl, flat_ints ns, by rw [inV_ints]; exact fin_c h s w (by rw [Rep]; rfl) q⟩
def rInA : R2D := fun d e k => match e with
  | .lst es => okD d ∧ okD (.lst es) ∧ k (.c (.bl (es.any fun z => eqD z d)))
  | .tup es => ∃ i, ∃ ns : List Int, d = .int i ∧ es = ns.map .int ∧ k (.c (.bl (decide (i ∈ ns))))
  | _ => False
def rNotInA : R2D := fun d e k => match e with
  | .lst es => okD d ∧ okD (.lst es) ∧ k (.c (.bl (!es.any fun z => eqD z d)))
  | .tup es => ∃ i, ∃ ns : List Int, d = .int i ∧ es = ns.map .int ∧ k (.c (.bl (!decide (i ∈ ns))))
  | _ => False
theorem dop_inA {K : PySem.W.Frag} : DOp K (fun x y H Q => rInD K x y H Q ∨ rIn K false x y H Q) rInA := by
  refine (dop_inL.or dop_inT).imp fun d e k h => ?_
  unfold rInA at h
  split at h
  · exact .inl h
  · obtain ⟨i, ns, rfl, h⟩ := h
    exact .inr ⟨ns, h⟩
  · exact h.elim
theorem dop_notInA {K : PySem.W.Frag} : DOp K (fun x y H Q => rNotInD K x y H Q ∨ rIn K true x y H Q) rNotInA := by
  refine (dop_notInL.or dop_notInT).imp fun d e k h => ?_
  unfold rNotInA at h
  split at h
  · exact .inl h
  · obtain ⟨i, ns, rfl, h⟩ := h
    exact .inr ⟨ns, h⟩
  · exact h.elim
theorem hu65 {k : Nat} {A : Around} (r : Room k A) : A.units + 65 < cLine := by have := r.un; omega
theorem de_in {wa wb : DE} (hu : X.A.units + 65 < cLine) (ha : De X a wa) (hb : De X b wb) (hm : behindInMarks .In b = false := by with_unfolding_all rfl) : De X (.Compare a [.In] [b] pos) (wOp rInA wa wb) := de_cmp (OpR.or (op_inD hu) op_in_seq) dop_inA ha hb hm
theorem de_notIn {wa wb : DE} (hu : X.A.units + 65 < cLine) (ha : De X a wa) (hb : De X b wb) (hm : behindInMarks .NotIn b = false := by with_unfolding_all rfl) : De X (.Compare a [.NotIn] [b] pos) (wOp rNotInA wa wb) := de_cmp (OpR.or (op_notInD hu) op_notIn_seq) dop_notInA ha hb hm
theorem dt_in {wa wb : DE} (hu : X.A.units + 65 < cLine) (ha : De X a wa) (hb : De X b wb) (hm : behindInMarks .In b = false := by with_unfolding_all rfl) : Dt X (.Compare a [.In] [b] pos) (wB (wOp rInA wa wb)) := dt_cmp (OpR.or (op_inD hu) op_in_seq) dop_inA ha hb hm
theorem dt_notIn {wa wb : DE} (hu : X.A.units + 65 < cLine) (ha : De X a wa) (hb : De X b wb) (hm : behindInMarks .NotIn b = false := by with_unfolding_all rfl) : Dt X (.Compare a [.NotIn] [b] pos) (wB (wOp rNotInA wa wb)) := dt_cmp (OpR.or (op_notInD hu) op_notIn_seq) dop_notInA ha hb hm

/-! ### list(range(..)) -/
theorem reps_rg {K : PySem.W.Frag} {B : Hp} {i j : Int} : Reps K B (rangeD i (j - i).toNat) (rgV i j) := by
  unfold rangeD rgV
  generalize List.range (j - i).toNat = l
  induction l with
  | nil => exact .nil
  | cons m l ih => exact .cons (by rw [Rep]) ih
def wLstR2 (wa wb : DE) : DE := fun δ k => wa δ fun x => wb δ fun y => ∃ i j, x = .c (.int i) ∧ y = .c (.int j) ∧ small62 i ∧ small62 j ∧ k (.f (rangeD i (j - i).toNat))
theorem rgOk_of {i j : Int} (hi : small62 i) (hj : small62 j) : RgOk i j := by
  obtain ⟨h1, h2⟩ := hi
  obtain ⟨h3, h4⟩ := hj
  exact ⟨by omega, by omega, by omega, by omega, by omega⟩
theorem de_lstR2 {wa wb : DE} {p q pos pos2 : Pos} (hc : X.calm = true) (hg : Gl X "list") (hm : X.mg "list" = none) (hg2 : Gl X "range") (hm2 : X.mg "range" = none) (ha : De X a wa) (hb : De X b wb)
    (na : starEach [a, b] X.env = (false, eval a X.env) :: starEach [b] X.env := by rfl) (nb : starEach [b] X.env = (false, eval b X.env) :: starEach [] X.env := by rfl) (hp : (backTo pos (starEach [b] X.env)).any (·.1) = false := by rfl)
    (nc : starEach [.Call (.Name "range" p) [a, b] [] pos] X.env = (false, eval (.Call (.Name "range" p) [a, b] [] pos) X.env) :: starEach [] X.env := by rfl) :
    De X (.Call (.Name "list" q) [.Call (.Name "range" p) [a, b] [] pos] [] pos2) (wLstR2 wa wb) := by
  obtain ⟨ta, pa, va⟩ := ha.ex
  obtain ⟨tb, pb, vb⟩ := hb.ex
  refine ⟨_, pe_listRg hc hg hm (prg_2 hg2 hm2 pa pb na nb hp) nc, ?_⟩
  intro J B0 H0 B H σ δ e k h Q q
  refine va e _ h _ fun x v B1 H1 h1 g1 w1 r1 => ?_
  have e1 := e.step g1 w1
  refine vb e1 _ h1 _ fun y u B2 H2 h2 g2 w2 r2 => ?_
  obtain ⟨i, j, rfl, rfl, hi, hj, h2⟩ := h2
  cases rv_int r1
  cases rv_int r2
  have G := g1.trans g2
  exact ⟨i, j, rfl, rfl, rgOk_of hi hj, fun p hp => fin_lst hp h2 (e1.step g2 w2).bh w2 reps_rg fun z v B' H' kz g w r => q z v B' H' kz (G.trans g) w ((r σ δ).back G.ne)⟩
def wLstR1 (wa : DE) : DE := fun δ k => wa δ fun x => ∃ j, x = .c (.int j) ∧ small62 j ∧ k (.f (rangeD 0 j.toNat))
theorem de_lstR1 {wa : DE} {p q pos pos' : Pos} (hc : X.calm = true) (hg : Gl X "list") (hm : X.mg "list" = none) (hg2 : Gl X "range") (hm2 : X.mg "range" = none) (ha : De X a wa)
    (na : starEach [a] X.env = (false, eval a X.env) :: starEach [] X.env := by rfl) (nc : starEach [.Call (.Name "range" p) [a] [] pos] X.env = (false, eval (.Call (.Name "range" p) [a] [] pos) X.env) :: starEach [] X.env := by rfl) :
    De X (.Call (.Name "list" q) [.Call (.Name "range" p) [a] [] pos] [] pos') (wLstR1 wa) := by
  obtain ⟨ta, pa, va⟩ := ha.ex
  refine ⟨_, pe_listRg hc hg hm (prg_1 hg2 hm2 pa na) nc, ?_⟩
  intro J B0 H0 B H σ δ e k h Q q
  refine va e _ h _ fun x v B1 H1 h1 g1 w1 r1 => ?_
  obtain ⟨j, rfl, hj, h1⟩ := h1
  cases rv_int r1
  have rr : Reps X.K B1 (rangeD 0 j.toNat) (rgV 0 j) := by
    have := reps_rg (K := X.K) (B := B1) (i := 0) (j := j)
    rw [Int.sub_zero] at this
    exact this
  exact ⟨j, rfl, rgOk_of ⟨by omega, by omega⟩ hj, fun p hp => fin_lst hp h1 (e.step g1 w1).bh w1 rr fun z v B' H' kz g w r => q z v B' H' kz (g1.trans g) w ((r σ δ).back g1.ne)⟩

/-! ### repr of bools -/
theorem call_repr_bl : CallR X (.builtin "repr") (fun xs H Q => ∃ b, xs = [.bl b] ∧ Q (.str (if b then "True" else "False")) H) := by
  intro pins s σ H xs us Q I r h
  obtain ⟨b, rfl, q⟩ := h
  obtain ⟨u, rfl, rx⟩ := vals1 r
  cases rx
  exact PySem.P.repr_of_bool ⟨.str _, H, I.tok _, ⟨_, rfl⟩, q⟩
def cRepr : RcD := fun ds k => match ds with
  | [.bl b] => k (.c (.str (if b then "True" else "False")))
  | _ => False
theorem dc_repr {K : PySem.W.Frag} : DCall K (fun xs H Q => ∃ b, xs = [.bl b] ∧ Q (.str (if b then "True" else "False")) H) cRepr := by
  intro J B H ds k vs Q h s w t q
  unfold cRepr at h
  split at h
  · obtain ⟨v, rfl, t1⟩ := ts1 t
    cases t1.bl
    exact ⟨_, rfl, fin_c h s w (by rw [Rep]) q⟩
  · exact h.elim
end

/-! ### t[::-1] -/
section
open HT
variable {prog : Program} {w : World} {A : Around} {E : Value → Shared → Prop} {s : Shared}
theorem sliceApplied_rev {sl : Addr} {vs : Value} {n : Nat} {Q : Int × Int × Nat → Shared → Prop} (hs : s.heap.IsSliceOf sl .none .none vs) (ps : IsPart vs (some (-1)))
    (h : Q ((n : Int) - 1, -1, n) s) : wpAny (model prog w) A (Builtin.Slice.sliceApplied (.ref sl) (pure (n : Int))) Q E s := by
  obtain ⟨os, hos, hcs, hds⟩ := id hs
  unfold Builtin.Slice.sliceApplied Builtin.Slice.sliceFields
  refine wpAny_bind (wpAny_bind (wpAny_field hos hds (x := .none) rfl (wpAny_bind (wpAny_field hos hds (x := .none) rfl (wpAny_bind (wpAny_field hos hds (x := vs) rfl (wpAny_pure ?_)))))))
  refine wpAny_bind (slicePart_ ps ?_)
  show wpAny _ _ (if ((-1 : Int) == 0) = true then _ else _) _ _ s
  rw [if_neg (by decide)]
  refine wpAny_bind (slicePart_none (wpAny_bind (slicePart_none (wpAny_bind (wpAny_pure ?_)))))
  have e1 : Builtin.Slice.sliceAdjust none none (-1) (n : Int) = ((n : Int) - 1, -1) := rfl
  have e2 : Builtin.Slice.slicePlaces ((n : Int) - 1) (-1) (-1) = n := by
    unfold Builtin.Slice.slicePlaces
    rw [if_neg (by decide)]
    by_cases hn : ((n : Int) - 1) > -1
    · rw [if_pos hn]
      have : ((n : Int) - 1 - -1 - 1) / (- -1) = (n : Int) - 1 := by
        have e : ((n : Int) - 1 - -1 - 1) = (n : Int) - 1 := by omega
        rw [e]
        show ((n : Int) - 1) / 1 = _
        rw [Int.ediv_one]
      rw [this]; omega
    · rw [if_neg hn]; omega
  show wpAny _ _ (match Builtin.Slice.sliceAdjust none none (-1) (n : Int) with | (lo, hi) => pure (lo, (-1 : Int), Builtin.Slice.slicePlaces lo hi (-1))) _ _ s
  rw [e1]
  show wpAny _ _ (pure ((n : Int) - 1, (-1 : Int), Builtin.Slice.slicePlaces ((n : Int) - 1) (-1) (-1))) _ _ s
  rw [e2]
  exact wpAny_pure h
theorem pick_rev (xs : Array Value) : ((List.range xs.size).filterMap fun (k : Nat) => xs[(((xs.size : Nat) : Int) - 1 + (k : Int) * -1).toNat]?).toArray = xs.toList.reverse.toArray := by
  have e : (fun (k : Nat) => xs[(((xs.size : Nat) : Int) - 1 + (k : Int) * -1).toNat]?) = (fun i => xs[i]?) ∘ fun k => xs.size - 1 - k := by
    funext k
    show _ = xs[xs.size - 1 - k]?
    have : (((xs.size : Nat) : Int) - 1 + (k : Int) * -1).toNat = xs.size - 1 - k := by omega
    rw [this]
  rw [e, ← List.filterMap_map, PySem.W.krv_range, List.filterMap_reverse, PySem.W.krv_all]
theorem getItem_tuple_rev {t sl : Addr} {items : Array Value} {vs : Value} {Q : Value → Shared → Prop} (ht : IsTup s.heap t items) (hs : s.heap.IsSliceOf sl .none .none vs) (ps : IsPart vs (some (-1)))
    (h : Q (.ref s.heap.objs.size) { s with heap := s.heap.push { cls := .type "tuple", data := .seq items.toList.reverse.toArray } })
    (hsz : items.size ≤ sizeLine) : wpAny (model prog w) A (getItem (.ref t) (.ref sl)) Q E s := by
  have hrev : sizeOk (.seq items.toList.reverse.toArray) := by
    show items.toList.reverse.toArray.size ≤ sizeLine
    rw [List.size_toArray, List.length_reverse, Array.length_toList]
    exact hsz
  obtain ⟨os, hos, hcs, hds⟩ := id hs
  have hTs : s.TypeIs (.ref sl) "slice" := ⟨os, hos, hcs⟩
  unfold getItem
  try with_reducible refine wpAny_holding ?_
  first | refine wpAny_bind (wpAny_pure ?_) | skip
  refine wpAny_bind (wpAny_sequenceKey ht.typeIs (by decide) ?_)
  refine wpAny_bind (wpAny_callSpecial?_slot (name := Str.ofString "__getitem__") ht.typeIs PyProof.Rows.slot_tuple_getitem
    (wpAny_call_entry PyProof.Rows.slot_tuple_getitem ht.typeIs entry_tuple_getitem ?_ (args_tuple_getitem _ _)))
  show wpAny _ _ (Builtin.Tuple.tupleItemsOf (.ref t) >>= _) _ _ s
  refine wpAny_bind (tupleItemsOf_ ht ?_)
  refine wpAny_bind (wpAny_typeOf hTs ?_)
  rw [if_pos (by decide)]
  refine wpAny_bind (sliceApplied_rev hs ps ?_)
  show wpAny _ _ (if ((((items.size : Nat) : Int) - 1 == 0) && ((-1 : Int) == 1) && (items.size == items.size)) = true then _ else _) _ _ s
  rw [if_neg (by
    intro q
    rw [Bool.and_eq_true, Bool.and_eq_true] at q
    exact absurd q.1.2 (by decide)), pick_rev]
  first
    | exact wpAny_bind (m := Builtin.Tuple.tupleExact _) (wpAny_newObj_type (wpAny_pure ⟨_, rfl, wpAny_pure h⟩) hrev)
    | exact wpAny_bind (m := Builtin.Tuple.tupleExact _) (wpAny_newObj_type (wpAny_bind (wpAny_pure (wpAny_pure ⟨_, rfl, wpAny_pure h⟩))) hrev)
    | exact wpAny_bind (wpAny_bind (m := Builtin.Tuple.tupleExact _) (wpAny_newObj_type (wpAny_pure (wpAny_pure ⟨_, rfl, wpAny_pure h⟩)) hrev))
    | exact wpAny_bind (wpAny_bind (m := Builtin.Tuple.tupleExact _) (wpAny_newObj_type (wpAny_pure ⟨_, rfl, wpAny_pure h⟩) hrev))
end
section
variable {X : Cx} {e a b c tg iter elt : Expr} {es ifs : List Expr} {pos p : Pos} {st : Stmt} {rest body : List Stmt}
def tRevT (K : PySem.W.Frag) (te : TE) : TE := fun σ H Q => te σ H fun x H1 => ∃ a xs, x = .ref a ∧ SqT K H1 a xs ∧ ∀ p, H1 p = none → Q (.ref p) (upd H1 p (.tup xs.reverse))
theorem pe_revT {te : TE} {k : Nat} {p1 p2 p3 : Pos} (he : PE X e te) : PE X (.Subscript e (.Slice none none (some (.UnaryOp .USub (.Constant (.int 1) k p1) p2)) p3) pos) (tRevT X.K te) := by
  refine ⟨fun pins s σ H Q I h => ?_⟩
  refine Subscript_ (thn (he.run pins s σ H _ I h) fun v s1 ⟨x, H1, I1, r1, q1⟩ => ?_)
  obtain ⟨a, xs, ex, hx, q⟩ := q1
  subst ex
  cases r1
  have hst : PO X (some (.UnaryOp .USub (.Constant (.int 1) k p1) p2)) (tPart (tUn (rU fun i => .int (-i)) (tC (.int 1)))) := po_some (pe_un un_neg pe_int)
  refine wpAny_Slice (thn (po_none.run pins s1 σ H1 (fun o H2 => o = none ∧ H2 = H1) I1 ⟨rfl, rfl⟩) fun vl s2 ⟨l, H2, I2, pl, el, e2⟩ => ?_)
  subst el e2
  refine thn (po_none.run pins s2 σ H2 (fun o H3 => o = none ∧ H3 = H2) I2 ⟨rfl, rfl⟩) fun vu s3 ⟨u, H3, I3, pu, eu, e3⟩ => ?_
  subst eu e3
  refine thn (hst.run pins s3 σ H3 (fun o H4 => o = some (-1) ∧ H4 = H3) I3 ⟨1, rfl, -1, rfl, rfl, rfl⟩) fun vs s4 ⟨o, H4, I4, ps, eo, e4⟩ => ?_
  subst eo e4
  cases pl
  cases pu
  have I5 : Inv X pins σ H4 { s4 with heap := s4.heap.push { cls := .type "slice", data := .fields #[.none, .none, vs] } } := I4.kept (t' := s4.toks) fun b ob q => Heap.get?_push_of_some _ q
  obtain ⟨its, r, ht, hz⟩ := I5.tuple hx
  have hlen := r.length
  show wpAny (model X.prog X.w) X.A (subscriptTail e (.Slice none none (some (.UnaryOp .USub (.Constant (.int 1) k p1) p2)) p3) (.ref a) (.ref s4.heap.objs.size)) (EP X pins σ Q) X.xe { s4 with heap := s4.heap.push { cls := .type "slice", data := .fields #[.none, .none, vs] } }
  refine tail_any (ops := [.ref a, .ref s4.heap.objs.size]) ht.typeIs (PyProof.Rows.slot_tuple_getitem.lookup) ?_ (by with_unfolding_all rfl)
  refine getItem_tuple_rev ht (Heap.IsSliceOf.new _ .none .none vs) ps ?_ (by rw [List.size_toArray]; omega)
  refine ⟨.ref _, _, I5.laid (t' := s4.toks) (o := .tup xs.reverse) (fun b ob q => Heap.get?_push_of_some _ q) (Nat.le_refl _) ?_, rfl, q _ (I5.hok.fresh (Nat.le_refl _))⟩
  exact ⟨by rw [List.length_reverse]; exact hz, _, r.reverse, _, Heap.get?_push_size _ rfl, rfl, _, rfl⟩
def wRevT (wa : DE) : DE := fun δ k => wa δ fun x => ∃ ds, x = .c (.tup ds) ∧ k (.c (.tup ds.reverse))
theorem de_revT {wa : DE} {k : Nat} {p1 p2 p3 : Pos} (ha : De X a wa) : De X (.Subscript a (.Slice none none (some (.UnaryOp .USub (.Constant (.int 1) k p1) p2)) p3) pos) (wRevT wa) := by
  obtain ⟨ta, pa, va⟩ := ha.ex
  refine ⟨_, pe_revT pa, ?_⟩
  intro J B0 H0 B H σ δ e k h Q q
  refine va e _ h _ fun x v B1 H1 h1 g1 w1 r1 => ?_
  obtain ⟨ds, rfl, h1⟩ := h1
  have r1 : Rep X.K B1 (.tup ds) v := r1
  have e1 := e.step g1 w1
  rw [Rep] at r1
  obtain ⟨a, xs, rfl, aB, ra⟩ := r1
  exact ⟨a, xs, rfl, same_sqT e1.bh aB, fun p hp => fin_tup hp h1 e1.bh w1 ra.reverse fun z v B' H' kz g w r => q z v B' H' kz (g1.trans g) w ((r σ δ).back g1.ne)⟩

/-! ### x.append(y.pop()) -/
def wAppPop (i j : Nat) : DS := fun R δ => i ≠ j ∧ ∃ ds es d, δ[i]? = some (.own ds) ∧ δ[j]? = some (.own es) ∧ ds.length < 100000 ∧ es[es.length - 1]? = some d ∧ R.nx ((δ.set j (.own es.dropLast)).set i (.own (ds ++ [d])))
theorem ds_appPop {i j : Nat} {x y : Str} {px py apos cpos apos2 cpos2 : Pos} (hN : X.N[i]? = some x) (hv : Vis X.env.scope x) (hN2 : X.N[j]? = some y) (hv2 : Vis X.env.scope y)
    (hd : (x == ("__debug__" : Str)) = false := by decide) (hcd : (x == ("__classdict__" : Str)) = false := by decide) (hd2 : (y == ("__debug__" : Str)) = false := by decide) (hcd2 : (y == ("__classdict__" : Str)) = false := by decide)
    (hbase : attributeBase (.Name x px) "append" X.env (eval (.Name x px) X.env) = eval (.Name x px) X.env := by rfl)
    (hbase2 : attributeBase (.Name y py) "pop" X.env (eval (.Name y py) X.env) = eval (.Name y py) X.env := by rfl)
    (hfew : ((backTo cpos (starEach [.Call (.Attribute (.Name y py) "pop" apos2) [] [] cpos2] X.env)).all (fun x => !x.1) && (backToKw cpos (keywordEach [] X.env)).all (fun x => x.1.isSome)
      && decide (([.Call (.Attribute (.Name y py) "pop" apos2) [] [] cpos2] : List Expr).length + ([] : List Keyword).length + (if ([] : List Keyword).isEmpty then 0 else 1) < 30)) = true := by rfl)
    (hline : (apos.endLine == cpos.line) = true := by rfl) (hline2 : (apos2.endLine == cpos2.line) = true := by rfl) (hs : starEach [.Call (.Attribute (.Name y py) "pop" apos2) [] [] cpos2] X.env = (false, eval (.Call (.Attribute (.Name y py) "pop" apos2) [] [] cpos2) X.env) :: starEach [] X.env := by rfl) (hplain : (backTo cpos (starEach [] X.env)).any (·.1) = false := by rfl)
    (hsw : swapsWith (.Call (.Attribute (.Name x px) "append" apos) [.Call (.Attribute (.Name y py) "pop" apos2) [] [] cpos2] [] cpos) none pos.line X.env = pure false := by rfl) :
    Ds X (.Expr (.Call (.Attribute (.Name x px) "append" apos) [.Call (.Attribute (.Name y py) "pop" apos2) [] [] cpos2] [] cpos) pos) (wAppPop i j) := by
  refine ⟨_, ps_expr (pe_bm PySem.F.plainAttrs_list PySem.F.slot_list_append PySem.F.type_list_append mt_append (pv i hN hv hd hcd) (pa_cons (pe_bm0 PySem.F.plainAttrs_list PySem.F.slot_list_pop PySem.F.type_list_pop mt_pop (pv j hN2 hv2 hd2 hcd2) hbase2 hline2) pa_nil hs) hbase hfew hline hs hplain) hsw, ?_⟩
  intro J B0 H0 B H σ δ e R h En F
  obtain ⟨nij, ds, es, d, hi, hj, hl, hlast, h⟩ := h
  obtain ⟨a, xs, h1, h2, h3, h4, h5, h6⟩ := e.ownJ hi
  obtain ⟨b, ys, k1, k2, k3, k4, k5, k6⟩ := e.ownJ hj
  have nab : a ≠ b := fun z => e.ap i j ds es a nij hi hj h1 (by rw [z]; exact k1)
  obtain ⟨v, hv, rv⟩ := k5.get hlast
  refine ⟨_, h1, .inl ⟨rfl, _, SqL.of h4⟩, _, k1, .inl ⟨rfl, _, SqL.of k4⟩, b, ys, v, rfl, rfl, k4, by rw [k5.len]; exact hv, ?_⟩
  have e2 := e.change hj k1 k4 k5.dropLast
  have hH1 : upd H b (.lst ys.dropLast) a = some (.lst xs) := by rw [upd_ne nab]; exact h4
  refine ⟨a, xs, v, rfl, rfl, hH1, Nat.lt_of_lt_of_le (by rw [h5.len]; exact hl) (by decide : 100000 ≤ sizeLine), F.nx (B := B) h ?_⟩
  exact e2.change (by rw [List.getElem?_set_ne (Ne.symm nij)]; exact hi) h1 hH1 (h5.append (.cons rv .nil))
end
end Dl
/-! calls without arguments; x, y, z = a, b, c -/
namespace Dl
open PySem PySem.Spec PyProof.Rows L2
section
variable {X : Cx} {e a b c tg iter elt : Expr} {es ifs : List Expr} {pos p : Pos} {st : Stmt} {rest body : List Stmt}
theorem da_none : EvA X.K tNil waNil := by
  intro J B0 H0 B H σ δ e k h Q q
  exact q [] [] B H h (.refl e.bh) e.ow rfl
theorem de_call0 {CX : CXT} {k : Nat} {f : Addr} {fd : FuncData} {ps : List Str} {pre : List S → Prop} {post : List S → DV → Prop} {x : Str} {p : Pos} {E : XK}
    (F : FnOk X.prog X.w X.K X.mg X.base CX k f fd ps (SpD X.K 0 pre post)) (hr : Room k X.A) (hg : Gl X x) (hm : X.mg x = some (.ref f)) (hk : PySem.W.keepIn X.K (.ref f) = true) (hb : Binds X.K fd ps []) (hx : Passes CX X E)
    (hdb : (x == ("__debug__" : Str)) = false := by decide) : De X (.Call (.Name x p) [] [] pos) (wCall 0 pre post waNil) := by
  refine ⟨_, pe_call0 F hr hg hm hk hb .nil hx hdb, ?_⟩
  intro J B0 H0 B H σ δ e k h Q q
  refine da_none e _ h _ fun xs vs B1 H1 h1 g1 w1 r1 => ?_
  obtain ⟨ss, hs, hn, hp, h1⟩ := h1
  obtain ⟨B2, g2, w2, _, r2, _⟩ := r1.args e.nod g1 w1 hs
  show SpD _ _ _ _ (vs ++ []) H1 Q _
  rw [List.append_nil]
  exact ⟨J, B2, ss, hn, r2, g2.bh, w2, hp, fun r v B' H' po g w rr => q r v B' H' (h1 r po).2 (g2.trans g) w ((rv_any rr (h1 r po).1 σ δ).back g2.ne)⟩
end
section
variable {K : PySem.W.Frag} {J : Option Addr} {B0 H0 B H B1 H1 : Hp} {σ σ' : L2.St} {δ δ' : List S}
/-- own lists are older than H, or told by N -/
def OldOr (H : Hp) (σ : L2.St) (δ : List S) (N : Addr → Prop) : Prop := ∀ (k : Nat) es a, δ[k]? = some (.own es) → σ[k]? = some (some (.ref a)) → H a ≠ none ∨ N a
theorem Env.oldOr (e : Env K J B0 H0 B H σ δ) : OldOr H σ δ fun _ => False := fun k es a hk hs => by
  obtain ⟨a', xs, h1, _, _, h4, _⟩ := e.ownJ hk
  rw [hs] at h1; cases h1
  exact .inl (by rw [h4]; simp)
theorem Env.putN {N : Addr → Prop} {y : DV} {u : V} {t : S} {Hs : Hp} (e1 : Env K J B0 H0 B1 H1 σ δ) (hN : OldOr Hs σ δ N) (q : RepV K J Hs B1 H1 σ' δ' y u) (hy : sv y = some t) (hf : ∀ ds a, y = .f ds → u = .ref a → ¬ N a) (h0 : ∀ b, H0 b ≠ none → Hs b ≠ none) (j : Nat) :
    Env K J B0 H0 B1 H1 (σ.set j (some u)) (δ.set j t) ∧ OldOr Hs (σ.set j (some u)) (δ.set j t) (fun a => N a ∨ ∃ ds, y = .f ds ∧ u = .ref a) := by
  refine ⟨Env.put2 e1 (x := y) q hy j (fun ds hds a hva k es hk hsk => ?_) h0, fun k es a hk hs => ?_⟩
  · subst hds
    obtain ⟨a', _, ea, nS, _⟩ := q
    rw [hva] at ea; cases ea
    rcases hN k es a hk hsk with h | h
    · exact h nS
    · exact hf ds a rfl hva h
  · rw [List.getElem?_set] at hk hs
    by_cases hjk : j = k
    · subst hjk
      have hlt : j < δ.length := by
        by_cases z : j < δ.length
        · exact z
        · simp [z] at hk
      have hlt2 : j < σ.length := by rw [← e1.ln]; exact hlt
      simp [hlt] at hk
      simp [hlt2] at hs
      subst hk
      cases y with
      | c d => cases hy
      | f ds => exact .inr (.inr ⟨ds, rfl, hs⟩)
      | o i => cases hy
      | j => cases hy
    · rw [if_neg hjk] at hk hs
      rcases hN k es a hk hs with h | h
      · exact .inl h
      · exact .inr (.inl h)
end
section
variable {X : Cx} {a b c : Expr} {pos : Pos}
def wPar3 (i j l : Nat) (wa : DA) : DS := fun R δ => wa δ fun xs => ∃ x y z s t r, xs = [x, y, z] ∧ sv x = some s ∧ sv y = some t ∧ sv z = some r ∧ R.nx (((δ.set i s).set j t).set l r)
theorem ds_par3 {i j l : Nat} {x y z : Str} {px py pz pt : Pos} {kt k2 pt2} {wa : DA} (hc : X.calm = true) (hN : X.N.Nodup) (hi : X.N[i]? = some x) (hj : X.N[j]? = some y) (hl : X.N[l]? = some z) (hij : i ≠ j) (hil : i ≠ l) (hjl : j ≠ l)
    (hx : X.env.scope.names.lookup x = some .local) (hy : X.env.scope.names.lookup y = some .local) (hz : X.env.scope.names.lookup z = some .local) (ha : Da X [a, b, c] wa)
    (hw : swappedStores [.Tuple [.Name x px, .Name y py, .Name z pz] kt pt] (.Tuple [a, b, c] k2 pt2) X.env = pure (some [x, y, z]) := by rfl)
    (hs : swapsWithSole [.Tuple [.Name x px, .Name y py, .Name z pz] kt pt] (.Tuple [a, b, c] k2 pt2) pos.line X.env = pure false := by rfl) :
    Ds X (.Assign [.Tuple [.Name x px, .Name y py, .Name z pz] kt pt] (.Tuple [a, b, c] k2 pt2) pos) (wPar3 i j l wa) := by
  obtain ⟨ta, pa, va⟩ := ha.ex
  refine ⟨_, ps_par3 hc hN hi hj hl hij hil hjl hx hy hz pa hw hs, ?_⟩
  intro J B0 H0 B H σ δ e R h En F
  refine va e _ h _ fun xs vs B1 H1 h1 g1 w1 r1 => ?_
  obtain ⟨x, y, z, s, t, r, rfl, hx, hy, hz, h1⟩ := h1
  obtain ⟨v, _, rfl, q1, ⟨u, _, rfl, q2, ⟨o, _, rfl, q3, q4, _⟩, ap2⟩, ap⟩ := r1
  cases (show _ = [] from q4)
  refine ⟨v, u, o, rfl, F.nx (B := B1) h1 ?_⟩
  have old : OldOr H σ δ fun _ => False := e.oldOr
  obtain ⟨e1, n1⟩ := (e.step g1 w1).putN old q1 hx (fun _ _ _ _ h => h) e.gr.ne i
  obtain ⟨e2, n2⟩ := e1.putN n1 q2 hy (fun ds a hd hv h => by
    rcases h with h | ⟨ds', hx', hv'⟩
    · exact h
    · exact ap ds' hx' 0 ds (by simp [hd]) (by rw [hv, hv']; rfl)) e.gr.ne j
  exact (e2.putN n2 q3 hz (fun ds a hd hv h => by
    rcases h with (h | ⟨ds', hx', hv'⟩) | ⟨ds', hy', hv'⟩
    · exact h
    · exact ap ds' hx' 1 ds (by simp [hd]) (by rw [hv, hv']; rfl)
    · exact ap2 ds' hy' 0 ds (by simp [hd]) (by rw [hv, hv']; rfl)) e.gr.ne l).1
end
end Dl
/-! enumerate(zip(a, b)) -/
namespace Dl
open PySem PySem.Spec PyProof.Rows L2

/-- the two first fields of a zip within an enumerate -/
def Ff (f0 f1 : Value) : Prop := (f0 = .none ∨ ∃ T : Nat, f0 = rawInt T) ∧ ∃ b, f1 = .bool b
abbrev IsZipF (h : Heap) (z TI TO : Addr) (f0 f1 : Value) : Prop := h.get? z = some { cls := .type "zip", dict := none, data := .fields #[f0, f1, .bool false, .ref TI, .ref TO], slots := #[] }
section
variable {prog : Program} {w : World} {A : Around} {E : Value → Shared → Prop} {s : Shared} {z TI TO i1 i2 : Addr} {fp1 fp2 : List Addr} {n1 n2 i : Nat} {P1 P2 : Nat → Value → Prop} {St1 St2 : Nat → Heap → Prop} {a1 a2 f0 f1 : Value}
theorem alive_any {a : Addr} {Q : Option Obj → Shared → Prop} (h : Q (s.heap.get? a) s) : wpAny (model prog w) A (loadIfAlive a) Q E s := by
  intro Γ p hΓ
  unfold loadIfAlive
  rw [Sem.wp_loadIfAlive]
  exact wpAny_pure h Γ p hΓ
theorem free_or {Q : Bool → Shared → Prop} (hz : IsZipF s.heap z TI TO f0 f1) (hf : Ff f0 f1) (hT : Q true s)
    (hF : ∀ h' f0' f1', IsZipF h' z TI TO f0' f1' → Ff f0' f1' → Heap.SameBut z s.heap h' → Q false { s with heap := h' }) : wpAny (model prog w) A (Builtin.SmallTypes.ownedTupleIsFree (.ref z)) Q E s := by
  obtain ⟨hf0, b, rfl⟩ := hf
  unfold Builtin.SmallTypes.ownedTupleIsFree
  refine wpAny_bind (wpAny_field hz rfl (x := f0) rfl ?_)
  rcases hf0 with rfl | ⟨T, rfl⟩
  · exact wpAny_pure hT
  · show wpAny _ _ (loadIfAlive ((T : Int).toNat) >>= _) _ _ _
    rw [Int.toNat_natCast]
    refine wpAny_bind (alive_any ?_)
    cases hT' : s.heap.get? T with
    | none => exact wpAny_pure hT
    | some oT =>
      simp only [Option.isNone_some, Bool.false_eq_true, if_false]
      refine wpAny_bind (wpAny_field hz rfl (x := .bool b) rfl ?_)
      cases b with
      | true =>
        rw [if_neg (show ¬ ((Value.bool true != Value.bool true) = true) from Bool.false_ne_true)]
        exact wpAny_pure (hF s.heap _ _ hz ⟨.inr ⟨T, rfl⟩, true, rfl⟩ (Heap.SameBut.refl _ _))
      | false =>
        rw [if_pos (show (Value.bool false != Value.bool true) = true from rfl)]
        exact wpAny_bind (wpAny_setField_rec hz (by simp) fun h₁ hz₁ hs₁ => wpAny_pure (hF h₁ _ _ hz₁ ⟨.inr ⟨T, rfl⟩, true, rfl⟩ hs₁))

theorem zipF_item {Q : Value → Shared → Prop} (S : ZipSep2 z TI TO i1 i2 fp1 fp2) (D1 : Draws prog w A i1 fp1 n1 P1 St1) (D2 : Draws prog w A i2 fp2 n2 P2 St2)
    (hz : IsZipF s.heap z TI TO f0 f1) (hf : Ff f0 f1) (hTI : IsTupOf2 s.heap TI (.ref i1) (.ref i2)) (hTO : IsTupOf2 s.heap TO a1 a2) (st1 : St1 i s.heap) (st2 : St2 i s.heap) (hlt1 : i < n1) (hlt2 : i < n2)
    (hQ : ∀ x1 x2 h' tk, P1 i x1 → P2 i x2 → (∃ f0 f1, IsZipF h' z TI TO f0 f1 ∧ Ff f0 f1) → (∃ b1 b2, IsTupOf2 h' TO b1 b2) → St1 (i + 1) h' → St2 (i + 1) h' → IsTupOf2 h' s.heap.objs.size x1 x2 → h'.objs.size = s.heap.objs.size + 1 →
      (∀ c o, c ≠ z → c ≠ TO → c ≠ i1 → c ≠ i2 → s.heap.get? c = some o → h'.get? c = some o) → Q (.ref s.heap.objs.size) { s with heap := h', toks := tk }) :
    wpAny (model prog w) A (Builtin.«zip.__next__» ⟨[.ref z], []⟩) (fun fin s' => ∃ v, fin = .done (.ret v) ∧ Q v s') E s := by
  obtain ⟨hp, g, d, tk0, os⟩ := s
  show wpAny _ _ (field (.ref z) 2 >>= _) _ _ _
  refine wpAny_bind (wpAny_field hz rfl (x := .bool false) rfl ?_)
  show wpAny _ _ (field (.ref z) 3 >>= _) _ _ _
  refine wpAny_bind (wpAny_field hz rfl (x := .ref TI) rfl ?_)
  refine wpAny_bind (wpAny_seqItems hTI rfl ?_)
  show wpAny _ _ (Builtin.SmallTypes.ownedTupleIsFree (.ref z) >>= _) _ _ _
  refine wpAny_bind (free_or hz hf ?_ ?_)
  · -- the kept tuple again
    simp only [if_true]
    refine wpAny_bind (wpAny_rule ?_)
    refine wpAny_bind (wpAny_field hz rfl (x := .ref TO) rfl ?_)
    refine wpAny_bind (wpAny_setField_rec hz (by simp) fun g0 hz0 hs0 => ?_)
    replace hz0 : IsZipF g0 z TI TO .ellipsis f1 := hz0
    replace hs0 : Heap.SameBut z hp g0 := hs0
    refine wpAny_bind ?_
    simp only [List.zipIdx_cons, List.zipIdx_nil, List.forIn_cons, List.forIn_nil]
    refine wpAny_bind (wpAny_bind (wpAny_onRaise ?_))
    show wpAny _ _ (Builtin.SmallTypes.nextOf (.ref i1) >>= _) _ _ ⟨g0, g, d, tk0, os⟩
    refine wpAny_bind (D1.item i _ _ _ hlt1 (D1.over st1 hs0 S.zf1) fun x1 p1 tk1 hx1 sn1 hp1 => wpAny_pure ?_)
    replace hp1 : Heap.SameBut i1 g0 p1 := hp1
    have hU1 : IsTupOf2 p1 TO a1 a2 := hp1.extBut _ _ S.Ti1 (hs0.extBut _ _ S.TOz hTO)
    refine wpAny_bind (wpAny_seqItems (s := ⟨p1, g, d, tk1, os⟩) hU1 rfl ?_)
    refine wpAny_bind (updateSeq_IsTupOf2 (s := ⟨p1, g, d, tk1, os⟩) hU1 fun g1 hT1 hs1 => ?_)
    replace hT1 : IsTupOf2 g1 TO x1 a2 := hT1
    replace hs1 : Heap.SameBut TO p1 g1 := hs1
    refine wpAny_bind (wpAny_letGo (wpAny_pure ?_))
    refine wpAny_bind (wpAny_bind (wpAny_onRaise ?_))
    show wpAny _ _ (Builtin.SmallTypes.nextOf (.ref i2) >>= _) _ _ ⟨g1, g, d, tk1, os⟩
    refine wpAny_bind (D2.item i _ _ _ hlt2 (D2.over (D2.over (D2.over st2 hs0 S.zf2) hp1 S.sep1_2) hs1 S.Tf2) fun x2 p2 tk2 hx2 sn2 hp2 => wpAny_pure ?_)
    replace hp2 : Heap.SameBut i2 g1 p2 := hp2
    have hU2 : IsTupOf2 p2 TO x1 a2 := hp2.extBut _ _ S.Ti2 hT1
    refine wpAny_bind (wpAny_seqItems (s := ⟨p2, g, d, tk2, os⟩) hU2 rfl ?_)
    refine wpAny_bind (updateSeq_IsTupOf2 (s := ⟨p2, g, d, tk2, os⟩) hU2 fun g2 hT2 hs2 => ?_)
    replace hT2 : IsTupOf2 g2 TO x1 x2 := hT2
    replace hs2 : Heap.SameBut TO p2 g2 := hs2
    refine wpAny_bind (wpAny_letGo (wpAny_pure (wpAny_pure ?_)))
    refine wpAny_bind (wpAny_seqItems (s := ⟨g2, g, d, tk2, os⟩) hT2 rfl ?_)
    refine wpAny_bind (wpAny_newTuple ?_)
    have hsz : g2.objs.size = hp.objs.size := by rw [hs2.1, hp2.1, hs1.1, hp1.1, hs0.1]
    have hzz : IsZipF g2 z TI TO .ellipsis f1 := (hs2.extBut _ _ S.TOz.symm (hp2.extBut _ _ S.zi2 (hs1.extBut _ _ S.TOz.symm (hp1.extBut _ _ S.zi1 hz0))))
    have hkk : ∀ c o, c ≠ z → c ≠ TO → c ≠ i1 → c ≠ i2 → hp.get? c = some o → g2.get? c = some o := fun c o cz cT c1 c2 e =>
      (hs2.extBut _ _ cT (hp2.extBut _ _ c2 (hs1.extBut _ _ cT (hp1.extBut _ _ c1 (hs0.extBut _ _ cz e)))))
    have hj1 : St1 (i + 1) g2 := (D1.over (D1.over (D1.over sn1 hs1 S.Tf1) hp2 S.sep2_1) hs2 S.Tf1)
    have hj2 : St2 (i + 1) g2 := (D2.over sn2 hs2 S.Tf2)
    have hzlt : z < g2.objs.size := Heap.lt_size hzz
    show wpAny _ _ (Builtin.SmallTypes.ownedTupleHandOut (.ref z) (.ref g2.objs.size) >>= _) _ _ ⟨g2.push { cls := .type "tuple", data := .seq #[x1, x2] }, g, d, tk2, os⟩
    refine wpAny_bind ?_
    unfold Builtin.SmallTypes.ownedTupleHandOut
    have hz₆ : IsZipF (g2.push { cls := .type "tuple", data := .seq #[x1, x2] }) z TI TO .ellipsis f1 := Heap.get?_push_of_some _ hzz
    refine wpAny_bind (wpAny_setField_rec hz₆ (by simp) fun h₇ hz₇ hs₇ => ?_)
    replace hz₇ : IsZipF h₇ z TI TO (rawInt g2.objs.size) f1 := hz₇
    refine wpAny_setField_rec hz₇ (by simp) fun h₈ hz₈ hs₈ => ?_
    replace hz₈ : IsZipF h₈ z TI TO (rawInt g2.objs.size) (.bool false) := hz₈
    replace hs₇ : Heap.SameBut z (g2.push { cls := .type "tuple", data := .seq #[x1, x2] }) h₇ := hs₇
    replace hs₈ : Heap.SameBut z h₇ h₈ := hs₈
    have up : ∀ c o, c ≠ z → g2.get? c = some o → h₈.get? c = some o := fun c o c1 e => hs₈.extBut _ _ c1 (hs₇.extBut _ _ c1 (Heap.get?_push_of_some _ e))
    have hT₈ : IsTupOf2 h₈ g2.objs.size x1 x2 := hs₈.extBut _ _ (Nat.ne_of_gt hzlt) (hs₇.extBut _ _ (Nat.ne_of_gt hzlt) (Heap.get?_push_size _ rfl))
    have hz8 : h₈.objs.size = g2.objs.size + 1 := by rw [hs₈.1, hs₇.1, Heap.size_push]
    rw [hsz] at hz₈ hT₈ hz8
    refine wpAny_pure ⟨_, rfl, ?_⟩
    show Q (.ref g2.objs.size) ⟨h₈, g, d, tk2, os⟩
    rw [hsz]
    exact hQ x1 x2 h₈ tk2 hx1 hx2 ⟨_, _, hz₈, .inr ⟨_, rfl⟩, false, rfl⟩ ⟨x1, x2, up _ _ S.TOz hT2⟩ (D1.frame _ _ _ hj1 fun b hb o e => up b o (fun q => S.zf1 (q ▸ hb)) e) (D2.frame _ _ _ hj2 fun b hb o e => up b o (fun q => S.zf2 (q ▸ hb)) e) hT₈ hz8 fun c o cz cT c1 c2 e => up c o cz (hkk c o cz cT c1 c2 e)
  · -- it is still out
    intro h₁ f0' f1' hz₁ hf₁ hs₁
    replace hs₁ : Heap.SameBut z hp h₁ := hs₁
    simp only [Bool.false_eq_true, if_false]
    refine wpAny_bind ?_
    rw [← Array.forIn_toList]
    simp only [List.forIn_cons, List.forIn_nil]
    refine wpAny_bind (wpAny_bind (wpAny_holding ?_))
    show wpAny _ _ (Builtin.SmallTypes.nextOf (.ref i1) >>= _) _ _ _
    refine wpAny_bind (D1.item i _ _ _ hlt1 (D1.over st1 hs₁ S.zf1) fun x1 h₂ tk1 hx1 sn1 hs₂ => wpAny_pure ?_)
    replace hs₂ : Heap.SameBut i1 h₁ h₂ := hs₂
    refine wpAny_pure ?_
    refine wpAny_bind (wpAny_bind (wpAny_holding ?_))
    show wpAny _ _ (Builtin.SmallTypes.nextOf (.ref i2) >>= _) _ _ _
    refine wpAny_bind (D2.item i ⟨h₂, g, d, tk1, os⟩ _ _ hlt2 (D2.over (D2.over st2 hs₁ S.zf2) hs₂ S.sep1_2) fun x2 h₃ tk2 hx2 sn2 hs₃ => wpAny_pure ?_)
    replace hs₃ : Heap.SameBut i2 h₂ h₃ := hs₃
    refine wpAny_pure (wpAny_pure ?_)
    show wpAny _ _ (newTuple [x1, x2] >>= _) _ _ _
    refine wpAny_bind (wpAny_newTuple ?_)
    have hsz : h₃.objs.size = hp.objs.size := by rw [hs₃.1, hs₂.1, hs₁.1]
    have hz₃ : IsZipF h₃ z TI TO f0' f1' := hs₃.extBut _ _ S.zi2 (hs₂.extBut _ _ S.zi1 hz₁)
    have hk : ∀ c o, c ≠ z → c ≠ i1 → c ≠ i2 → hp.get? c = some o → h₃.get? c = some o := fun c o c1 c2 c3 e => hs₃.extBut _ _ c3 (hs₂.extBut _ _ c2 (hs₁.extBut _ _ c1 e))
    have hj1 : St1 (i + 1) h₃ := D1.over sn1 hs₃ S.sep2_1
    refine wpAny_pure ⟨_, rfl, ?_⟩
    show Q (.ref h₃.objs.size) _
    have hpr : IsTupOf2 (h₃.push { cls := .type "tuple", data := .seq #[x1, x2] }) h₃.objs.size x1 x2 := Heap.get?_push_size _ rfl
    have hz4 : (h₃.push { cls := .type "tuple", data := .seq #[x1, x2] }).objs.size = h₃.objs.size + 1 := Heap.size_push ..
    rw [hsz] at hpr hz4 ⊢
    exact hQ x1 x2 _ tk2 hx1 hx2 ⟨_, _, Heap.get?_push_of_some _ hz₃, hf₁⟩ ⟨a1, a2, Heap.get?_push_of_some _ (hk _ _ S.TOz S.Ti1 S.Ti2 hTO)⟩ (D1.frame _ _ _ hj1 fun b hb o e => Heap.get?_push_of_some _ e) (D2.frame _ _ _ sn2 fun b hb o e => Heap.get?_push_of_some _ e) hpr hz4
      fun c o cz cT c1 c2 e => Heap.get?_push_of_some _ (hk c o cz c1 c2 e)
end
end Dl
/-! enumerate(zip(a, b)), the walk -/
namespace Dl
open PySem PySem.Spec PyProof.Rows L2
section
variable {prog : Program} {w : World} {A : Around} {E : Value → Shared → Prop} {s : Shared} {z TI TO i1 i2 : Addr} {fp1 fp2 : List Addr} {n1 n2 i : Nat} {P1 P2 : Nat → Value → Prop} {St1 St2 : Nat → Heap → Prop} {a1 a2 f0 f1 : Value}
theorem zipF_end {Q : Fin → Shared → Prop} (S : ZipSep2 z TI TO i1 i2 fp1 fp2) (D1 : Draws prog w A i1 fp1 n1 P1 St1) (D2 : Draws prog w A i2 fp2 n2 P2 St2)
    (hz : IsZipF s.heap z TI TO f0 f1) (hf : Ff f0 f1) (hTI : IsTupOf2 s.heap TI (.ref i1) (.ref i2)) (hTO : IsTupOf2 s.heap TO a1 a2) (st1 : St1 i s.heap) (st2 : St2 i s.heap) (hle1 : i ≤ n1) (hle2 : i ≤ n2) (hend : i = n1 ∨ i = n2)
    (hE : ∀ h' tk e, (∀ c o, c ≠ z → c ≠ TO → c ≠ i1 → c ≠ i2 → s.heap.get? c = some o → h'.get? c = some o) → (∃ o, h'.get? e = some o ∧ o.cls = .type "StopIteration") → E (.ref e) { s with heap := h', toks := tk }) :
    wpAny (model prog w) A (Builtin.«zip.__next__» ⟨[.ref z], []⟩) Q E s := by
  obtain ⟨hp, g, d, tk0, os⟩ := s
  show wpAny _ _ (field (.ref z) 2 >>= _) _ _ _
  refine wpAny_bind (wpAny_field hz rfl (x := .bool false) rfl ?_)
  show wpAny _ _ (field (.ref z) 3 >>= _) _ _ _
  refine wpAny_bind (wpAny_field hz rfl (x := .ref TI) rfl ?_)
  refine wpAny_bind (wpAny_seqItems hTI rfl ?_)
  show wpAny _ _ (Builtin.SmallTypes.ownedTupleIsFree (.ref z) >>= _) _ _ _
  refine wpAny_bind (free_or hz hf ?_ ?_)
  · simp only [if_true]
    refine wpAny_bind (wpAny_rule ?_)
    refine wpAny_bind (wpAny_field hz rfl (x := .ref TO) rfl ?_)
    refine wpAny_bind (wpAny_setField_rec hz (by simp) fun g0 hz0 hs0 => ?_)
    replace hz0 : IsZipF g0 z TI TO .ellipsis f1 := hz0
    replace hs0 : Heap.SameBut z hp g0 := hs0
    refine wpAny_bind ?_
    simp only [List.zipIdx_cons, List.zipIdx_nil, List.forIn_cons, List.forIn_nil]
    refine wpAny_bind (wpAny_bind (wpAny_onRaise ?_))
    show wpAny _ _ (Builtin.SmallTypes.nextOf (.ref i1) >>= _) _ _ ⟨g0, g, d, tk0, os⟩
    by_cases hlt1 : i < n1
    · refine wpAny_bind (D1.item i _ _ _ hlt1 (D1.over st1 hs0 S.zf1) fun x1 p1 tk1 hx1 sn1 hp1 => wpAny_pure ?_)
      replace hp1 : Heap.SameBut i1 g0 p1 := hp1
      have hU1 : IsTupOf2 p1 TO a1 a2 := hp1.extBut _ _ S.Ti1 (hs0.extBut _ _ S.TOz hTO)
      refine wpAny_bind (wpAny_seqItems (s := ⟨p1, g, d, tk1, os⟩) hU1 rfl ?_)
      refine wpAny_bind (updateSeq_IsTupOf2 (s := ⟨p1, g, d, tk1, os⟩) hU1 fun g1 hT1 hs1 => ?_)
      replace hT1 : IsTupOf2 g1 TO x1 a2 := hT1
      replace hs1 : Heap.SameBut TO p1 g1 := hs1
      refine wpAny_bind (wpAny_letGo (wpAny_pure ?_))
      have hi2 : i = n2 := by omega
      refine wpAny_bind (wpAny_bind (wpAny_onRaise ?_))
      show wpAny _ _ (Builtin.SmallTypes.nextOf (.ref i2) >>= _) _ _ ⟨g1, g, d, tk1, os⟩
      refine wpAny_bind (D2.done ⟨g1, g, d, tk1, os⟩ _ _ (by rw [← hi2]; exact (D2.over (D2.over (D2.over st2 hs0 S.zf2) hp1 S.sep1_2) hs1 S.Tf2)) fun q e hq he => ?_)
      replace hq : Heap.ExtBut i2 g1 q := hq
      obtain ⟨oe, hoe, hce⟩ := he
      replace hoe : q.get? e = some oe := hoe
      have hzq : IsZipF q z TI TO .ellipsis f1 := hq _ _ S.zi2 (hs1.extBut _ _ S.TOz.symm (hp1.extBut _ _ S.zi1 hz0))
      have hez : e ≠ z := fun x => by subst x; rw [hzq] at hoe; cases hoe; simp at hce
      refine wpAny_setField_rec (s := ⟨q, g, d, tk1, os⟩) hzq (by simp) fun q' _ hq' => ?_
      replace hq' : Heap.SameBut z q q' := hq'
      exact hE q' tk1 e (fun c o cz cT c1 c2 x => hq'.extBut _ _ cz (hq _ _ c2 (hs1.extBut _ _ cT (hp1.extBut _ _ c1 (hs0.extBut _ _ cz x))))) ⟨oe, hq'.extBut _ _ hez hoe, hce⟩
    · have hi1 : i = n1 := by omega
      refine wpAny_bind (D1.done ⟨g0, g, d, tk0, os⟩ _ _ (by rw [← hi1]; exact (D1.over st1 hs0 S.zf1)) fun q e hq he => ?_)
      replace hq : Heap.ExtBut i1 g0 q := hq
      obtain ⟨oe, hoe, hce⟩ := he
      replace hoe : q.get? e = some oe := hoe
      have hzq : IsZipF q z TI TO .ellipsis f1 := hq _ _ S.zi1 hz0
      have hez : e ≠ z := fun x => by subst x; rw [hzq] at hoe; cases hoe; simp at hce
      refine wpAny_setField_rec (s := ⟨q, g, d, tk0, os⟩) hzq (by simp) fun q' _ hq' => ?_
      replace hq' : Heap.SameBut z q q' := hq'
      exact hE q' tk0 e (fun c o cz cT c1 c2 x => hq'.extBut _ _ cz (hq _ _ c1 (hs0.extBut _ _ cz x))) ⟨oe, hq'.extBut _ _ hez hoe, hce⟩
  · intro h₁ f0' f1' hz₁ hf₁ hs₁
    replace hs₁ : Heap.SameBut z hp h₁ := hs₁
    simp only [Bool.false_eq_true, if_false]
    refine wpAny_bind ?_
    rw [← Array.forIn_toList]
    simp only [List.forIn_cons, List.forIn_nil]
    refine wpAny_bind (wpAny_bind (wpAny_holding ?_))
    show wpAny _ _ (Builtin.SmallTypes.nextOf (.ref i1) >>= _) _ _ ⟨h₁, g, d, tk0, os⟩
    by_cases hlt1 : i < n1
    · refine wpAny_bind (D1.item i _ _ _ hlt1 (D1.over st1 hs₁ S.zf1) fun x1 h₂ tk1 hx1 sn1 hs₂ => wpAny_pure ?_)
      replace hs₂ : Heap.SameBut i1 h₁ h₂ := hs₂
      have hi2 : i = n2 := by omega
      refine wpAny_pure ?_
      refine wpAny_bind (wpAny_bind (wpAny_holding ?_))
      show wpAny _ _ (Builtin.SmallTypes.nextOf (.ref i2) >>= _) _ _ ⟨h₂, g, d, tk1, os⟩
      refine wpAny_bind (D2.done ⟨h₂, g, d, tk1, os⟩ _ _ (by rw [← hi2]; exact (D2.over (D2.over st2 hs₁ S.zf2) hs₂ S.sep1_2)) fun q e hq he => ?_)
      replace hq : Heap.ExtBut i2 h₂ q := hq
      exact hE q tk1 e (fun c o cz _ c1 c2 x => hq _ _ c2 (hs₂.extBut _ _ c1 (hs₁.extBut _ _ cz x))) he
    · have hi1 : i = n1 := by omega
      refine wpAny_bind (D1.done ⟨h₁, g, d, tk0, os⟩ _ _ (by rw [← hi1]; exact (D1.over st1 hs₁ S.zf1)) fun q e hq he => ?_)
      replace hq : Heap.ExtBut i1 h₁ q := hq
      exact hE q tk0 e (fun c o cz _ c1 _ x => hq _ _ c1 (hs₁.extBut _ _ cz x)) he

/-! #### enumerate over an iterator of any kind -/
theorem enumA_item {e it : Addr} {i : Int} {old : Value} {R : Value → Heap → Prop} {Q : Value → Shared → Prop} (he : IsEnum s.heap e it i old)
    (hnext : ∀ (Q : Value → Shared → Prop) (E : Value → Shared → Prop), (∀ x h₁ tk, R x h₁ → Q x { s with heap := h₁, toks := tk }) → wpAny (model prog w) A (Builtin.SmallTypes.nextOf (.ref it)) Q E s)
    (hR : ∀ x h₁, R x h₁ → IsEnum h₁ e it i old)
    (hQ : ∀ x h₁ h' tk, R x h₁ → IsEnumOut h' e it (i + 1) x h₁.objs.size → h'.get? h₁.objs.size = some { cls := .type "tuple", data := .seq #[.int i tk, x] } →
      (∀ b o, b ≠ e → h₁.get? b = some o → h'.get? b = some o) → Q (.ref h₁.objs.size) { s with heap := h', toks := tk + 1 }) :
    wpAny (model prog w) A (Builtin.«enumerate.__next__» ⟨[.ref e], []⟩) (fun fin s' => ∃ v, fin = .done (.ret v) ∧ Q v s') E s := by
  obtain ⟨hp, g, d, tk₀, os⟩ := s
  show wpAny _ _ (field (.ref e) 2 >>= _) _ _ _
  refine wpAny_bind (wpAny_field he rfl (x := .ref it) rfl ?_)
  refine wpAny_bind (hnext _ _ fun x h₁ tk hr => ?_)
  have he₁ : IsEnum h₁ e it i old := hR x h₁ hr
  have hel : e < h₁.objs.size := Heap.lt_size he₁
  show wpAny _ _ (field (.ref e) 3 >>= _) _ _ ⟨h₁, g, d, tk, os⟩
  refine wpAny_bind (wpAny_field he₁ rfl (x := rawInt i) rfl ?_)
  show wpAny _ _ (field (.ref e) 4 >>= _) _ _ ⟨h₁, g, d, tk, os⟩
  refine wpAny_bind (wpAny_field he₁ rfl (x := .none) rfl ?_)
  show wpAny _ _ (mkInt i >>= _) _ _ ⟨h₁, g, d, tk, os⟩
  refine wpAny_bind (wpAny_mkInt ?_)
  show wpAny _ _ (setField (.ref e) 3 (rawInt (i + 1)) >>= _) _ _ ⟨h₁, g, d, tk + 1, os⟩
  refine wpAny_bind (wpAny_setField_rec he₁ (by simp) fun h₂ he₂ hs₂ => ?_)
  replace hs₂ : Heap.SameBut e h₁ h₂ := hs₂
  replace he₂ : IsEnum h₂ e it (i + 1) old := he₂
  show wpAny _ _ (setField (.ref e) 4 .none >>= _) _ _ ⟨h₂, g, d, tk + 1, os⟩
  refine wpAny_bind (wpAny_setField_rec he₂ (by simp) fun h₃ he₃ hs₃ => ?_)
  replace hs₃ : Heap.SameBut e h₂ h₃ := hs₃
  replace he₃ : IsEnum h₃ e it (i + 1) old := he₃
  show wpAny _ _ (newTuple [.int i tk, x] >>= _) _ _ ⟨h₃, g, d, tk + 1, os⟩
  refine wpAny_bind (wpAny_newTuple ?_)
  have he₄ : IsEnum (h₃.push { cls := .type "tuple", data := .seq #[.int i tk, x] }) e it (i + 1) old := Heap.get?_push_of_some _ he₃
  generalize hh₄ : h₃.push { cls := .type "tuple", data := .seq #[.int i tk, x] } = h₄ at he₄
  have hsz : h₃.objs.size = h₁.objs.size := by rw [hs₃.1, hs₂.1]
  have ht₄ : h₄.get? h₁.objs.size = some { cls := .type "tuple", data := .seq #[.int i tk, x] } := by rw [← hh₄, ← hsz]; exact Heap.get?_push_size _ rfl
  have hk₄ : ∀ b o, b ≠ e → h₁.get? b = some o → h₄.get? b = some o := fun b o hbe hb => by
    rw [← hh₄]; exact Heap.get?_push_of_some _ (hs₃.extBut b o hbe (hs₂.extBut b o hbe hb))
  show wpAny _ _ (Builtin.SmallTypes.ownedTupleIsFree (.ref e) >>= _) _ _ ⟨h₄, g, d, tk + 1, os⟩
  rw [hsz]
  clear hh₄ he₃ hs₃ he₂ hs₂ hsz h₃ h₂
  refine wpAny_bind ?_
  · unfold Builtin.SmallTypes.ownedTupleIsFree
    refine wpAny_bind (wpAny_field he₄ rfl (x := .none) rfl (wpAny_pure ?_))
    simp only [if_true]
    refine wpAny_bind (wpAny_rule ?_)
    refine wpAny_bind (wpAny_field he₄ rfl (x := old) rfl ?_)
    refine wpAny_bind (wpAny_setField_rec he₄ (by simp) fun h₅ he₅ hs₅ => ?_)
    replace hs₅ : Heap.SameBut e h₄ h₅ := hs₅
    replace he₅ : IsEnum h₅ e it (i + 1) x := he₅
    show wpAny _ _ (Builtin.SmallTypes.ownedTupleHandOut (.ref e) (.ref h₁.objs.size) >>= _) _ _ ⟨h₅, g, d, tk + 1, os⟩
    refine wpAny_bind ?_
    · unfold Builtin.SmallTypes.ownedTupleHandOut
      refine wpAny_bind (wpAny_setField_rec he₅ (by simp) fun h₆ he₆ hs₆ => ?_)
      replace hs₆ : Heap.SameBut e h₅ h₆ := hs₆
      replace he₆ : IsEnumOut h₆ e it (i + 1) x h₁.objs.size := he₆
      refine wpAny_setField_rec he₆ (by simp) fun h₇ he₇ hs₇ => ?_
      replace hs₇ : Heap.SameBut e h₆ h₇ := hs₇
      replace he₇ : IsEnumOut h₇ e it (i + 1) x h₁.objs.size := he₇
      refine wpAny_bind (wpAny_letGo (wpAny_pure ⟨_, rfl, hQ x h₁ h₇ tk hr he₇ ?_ ?_⟩))
      · exact hs₇.extBut _ _ (Nat.ne_of_gt hel) (hs₆.extBut _ _ (Nat.ne_of_gt hel) (hs₅.extBut _ _ (Nat.ne_of_gt hel) ht₄))
      · exact fun b o hbe hb => hs₇.extBut b o hbe (hs₆.extBut b o hbe (hs₅.extBut b o hbe (hk₄ b o hbe hb)))
theorem pyNext_enumA {e it : Addr} {i : Int} {old : Value} {R : Value → Heap → Prop} {Q : Option Value → Shared → Prop} (he : IsEnum s.heap e it i old)
    (hnext : ∀ (Q : Value → Shared → Prop) (E : Value → Shared → Prop), (∀ x h₁ tk, R x h₁ → Q x { s with heap := h₁, toks := tk }) → wpAny (model prog w) A.in1 (Builtin.SmallTypes.nextOf (.ref it)) Q E s)
    (hR : ∀ x h₁, R x h₁ → IsEnum h₁ e it i old)
    (hQ : ∀ x h₁ h' tk, R x h₁ → IsEnumOut h' e it (i + 1) x h₁.objs.size → h'.get? h₁.objs.size = some { cls := .type "tuple", data := .seq #[.int i tk, x] } →
      (∀ b o, b ≠ e → h₁.get? b = some o → h'.get? b = some o) → Q (some (.ref h₁.objs.size)) { s with heap := h', toks := tk + 1 }) : wpAny (model prog w) A (pyNext (.ref e)) Q E s := by
  have hT : s.TypeIs (.ref e) "enumerate" := ⟨_, he, rfl⟩
  unfold pyNext
  exact wpAny_bind (wpAny_attempt (wpAny_callSpecial?_slot (name := Str.ofString "__next__") hT F.slot_enumerate_next
    (wpAny_call_entry F.slot_enumerate_next hT F.entry_enumerate_next
      (enumA_item he hnext hR fun x h₁ h' tk a b c d => wpAny_pure (hQ x h₁ h' tk a b c d)) (F.args_enumerate_next_1 _))))
theorem pyNext_enumA_end {e it : Addr} {i : Int} {old : Value} {Ex : Heap → Prop} {Q : Option Value → Shared → Prop} (he : IsEnum s.heap e it i old)
    (hdone : ∀ (Q : Value → Shared → Prop) (E : Value → Shared → Prop), (∀ h' tk x, Ex h' → (∃ o, h'.get? x = some o ∧ o.cls = .type "StopIteration") → E (.ref x) { s with heap := h', toks := tk }) → wpAny (model prog w) A.in1 (Builtin.SmallTypes.nextOf (.ref it)) Q E s)
    (hQ : ∀ h' tk, Ex h' → Q none { s with heap := h', toks := tk }) : wpAny (model prog w) A (pyNext (.ref e)) Q E s := by
  have hT : s.TypeIs (.ref e) "enumerate" := ⟨_, he, rfl⟩
  unfold pyNext
  refine wpAny_bind (wpAny_attempt (wpAny_callSpecial?_slot (name := Str.ofString "__next__") hT F.slot_enumerate_next
    (wpAny_call_entry F.slot_enumerate_next hT F.entry_enumerate_next ?_ (F.args_enumerate_next_1 _))))
  show wpAny _ _ (field (.ref e) 2 >>= _) _ _ _
  refine wpAny_bind (wpAny_field he rfl (x := .ref it) rfl ?_)
  refine wpAny_bind (hdone _ _ fun h' tk x he' hx' => ?_)
  obtain ⟨o, ho, hc⟩ := hx'
  refine wpAny_bind (wpAny_isInstance (T := "StopIteration") (b := true) ⟨o, ho, hc⟩ isSubtype_stop ?_)
  exact wpAny_pure (hQ _ _ he')
theorem nextOf_zipF {Q : Value → Shared → Prop} (S : ZipSep2 z TI TO i1 i2 fp1 fp2) (D1 : Draws prog w A.in1 i1 fp1 n1 P1 St1) (D2 : Draws prog w A.in1 i2 fp2 n2 P2 St2)
    (hz : IsZipF s.heap z TI TO f0 f1) (hf : Ff f0 f1) (hTI : IsTupOf2 s.heap TI (.ref i1) (.ref i2)) (hTO : IsTupOf2 s.heap TO a1 a2) (st1 : St1 i s.heap) (st2 : St2 i s.heap) (hlt1 : i < n1) (hlt2 : i < n2)
    (hQ : ∀ x1 x2 h' tk, P1 i x1 → P2 i x2 → (∃ f0 f1, IsZipF h' z TI TO f0 f1 ∧ Ff f0 f1) → (∃ b1 b2, IsTupOf2 h' TO b1 b2) → St1 (i + 1) h' → St2 (i + 1) h' → IsTupOf2 h' s.heap.objs.size x1 x2 → h'.objs.size = s.heap.objs.size + 1 →
      (∀ c o, c ≠ z → c ≠ TO → c ≠ i1 → c ≠ i2 → s.heap.get? c = some o → h'.get? c = some o) → Q (.ref s.heap.objs.size) { s with heap := h', toks := tk }) :
    wpAny (model prog w) A (Builtin.SmallTypes.nextOf (.ref z)) Q E s := by
  have hT : s.TypeIs (.ref z) "zip" := ⟨_, hz, rfl⟩
  unfold Builtin.SmallTypes.nextOf
  exact wpAny_bind (wpAny_callSpecial?_slot (name := Str.ofString "__next__") hT F.slot_zip_next
    (wpAny_call_entry F.slot_zip_next hT F.entry_zip_next
      (zipF_item S D1 D2 hz hf hTI hTO st1 st2 hlt1 hlt2 fun x1 x2 h' tk a b c d e f g h i => wpAny_pure (hQ x1 x2 h' tk a b c d e f g h i)) (F.args_zip_next_1 _)))
theorem nextOf_zipF_end {Q : Value → Shared → Prop} (S : ZipSep2 z TI TO i1 i2 fp1 fp2) (D1 : Draws prog w A.in1 i1 fp1 n1 P1 St1) (D2 : Draws prog w A.in1 i2 fp2 n2 P2 St2)
    (hz : IsZipF s.heap z TI TO f0 f1) (hf : Ff f0 f1) (hTI : IsTupOf2 s.heap TI (.ref i1) (.ref i2)) (hTO : IsTupOf2 s.heap TO a1 a2) (st1 : St1 i s.heap) (st2 : St2 i s.heap) (hle1 : i ≤ n1) (hle2 : i ≤ n2) (hend : i = n1 ∨ i = n2)
    (hE : ∀ h' tk e, (∀ c o, c ≠ z → c ≠ TO → c ≠ i1 → c ≠ i2 → s.heap.get? c = some o → h'.get? c = some o) → (∃ o, h'.get? e = some o ∧ o.cls = .type "StopIteration") → E (.ref e) { s with heap := h', toks := tk }) :
    wpAny (model prog w) A (Builtin.SmallTypes.nextOf (.ref z)) Q E s := by
  have hT : s.TypeIs (.ref z) "zip" := ⟨_, hz, rfl⟩
  unfold Builtin.SmallTypes.nextOf
  exact wpAny_bind (wpAny_callSpecial?_slot (name := Str.ofString "__next__") hT F.slot_zip_next
    (wpAny_call_entry F.slot_zip_next hT F.entry_zip_next
      (zipF_end S D1 D2 hz hf hTI hTO st1 st2 hle1 hle2 hend hE) (F.args_zip_next_1 _)))
end
end Dl
/-! enumerate(zip(a, b)) as a walk over data -/
namespace Dl
open PySem PySem.Spec PyProof.Rows L2
def ItezB (K : PySem.W.Frag) (t t2 : Bool) (a b : Addr) : It :=
  ⟨fun i H => ∃ (xs ys : List V) (x y : V), SqB K t H a xs ∧ SqB K t2 H b ys ∧ xs[i]? = some x ∧ ys[i]? = some y,
    fun i H v H' => ∃ T T2 x y, v = .ref T2 ∧ H T = none ∧ H T2 = none ∧ T2 ≠ T ∧ H' = upd (upd H T (.tup [x, y])) T2 (.tup [.int (i : Nat), .ref T]) ∧ (∀ xs, SqB K t H a xs → xs[i]? = some x) ∧ ∀ ys, SqB K t2 H b ys → ys[i]? = some y,
    fun i H => ∃ xs ys : List V, SqB K t H a xs ∧ SqB K t2 H b ys ∧ i ≤ xs.length ∧ i ≤ ys.length ∧ (i = xs.length ∨ i = ys.length)⟩
theorem turn_ezipB {P : Program} {w : World} {K : PySem.W.Frag} {elts : List Expr} {kk : Nat} {tpos : Pos} {t t2 : Bool} {a b e z TI TO i1 i2 : Addr} (D : ZipSep2 z TI TO i1 i2 [i1, a] [i2, b]) (ha1 : a ≠ i1) (hb2 : b ≠ i2) (ez : e ≠ z) (eTI : e ≠ TI) (eTO : e ≠ TO) (e1 : e ≠ i1) (e2 : e ≠ i2) :
    Turn P w K (.Tuple elts kk tpos) (ItezB K t t2 a b) [e, z, TI, TO, i1, i2] e (fun i h => (∃ old, IsEnum h e z ((i : Nat) : Int) old) ∧ (∃ f0 f1, IsZipF h z TI TO f0 f1 ∧ Ff f0 f1) ∧ IsTupOf2 h TI (.ref i1) (.ref i2) ∧ (∃ x y, IsTupOf2 h TO x y) ∧ IsIt t h i1 a i ∧ IsIt t2 h i2 b i) where
  mem := by simp
  obj := fun i h st c hc => by
    obtain ⟨⟨old, he⟩, ⟨f0, f1, hz, _⟩, hTI, ⟨x, y, hTO⟩, h1, h2⟩ := st
    have e' : c = e ∨ c = z ∨ c = TI ∨ c = TO ∨ c = i1 ∨ c = i2 := by simpa using hc
    rcases e' with q | q | q | q | q | q
    · rw [q]; exact ⟨_, he, fun v q => nomatch q⟩
    · rw [q]; exact ⟨_, hz, fun v q => nomatch q⟩
    · rw [q]; exact ⟨_, hTI, fun v q => nomatch q⟩
    · rw [q]; exact ⟨_, hTO, fun v q => nomatch q⟩
    · rw [q]; exact h1.get
    · rw [q]; exact h2.get
  keep := fun i h h' st k => by
    obtain ⟨⟨old, he⟩, ⟨f0, f1, hz, hf⟩, hTI, ⟨x, y, hTO⟩, h1, h2⟩ := st
    exact ⟨⟨old, k e (by simp) _ he⟩, ⟨f0, f1, k z (by simp) _ hz, hf⟩, k TI (by simp) _ hTI, ⟨x, y, k TO (by simp) _ hTO⟩, h1.at fun o q => k i1 (by simp) o q, h2.at fun o q => k i2 (by simp) o q⟩
  item := by
    intro X hP hw hK hc i pins s σ H E I hf st hg
    subst hP hw hK
    obtain ⟨⟨old, he⟩, ⟨f0, f1, hz, hff⟩, hTI, ⟨x0, y0, hTO⟩, h1, h2⟩ := st
    obtain ⟨xs, ys, x, y, hqx, hqy, hx, hy⟩ := hg
    obtain ⟨its, rv, p, _⟩ := inv_sq I hqx
    obtain ⟨its2, rv2, p2, _⟩ := inv_sq I hqy
    obtain ⟨u, hu, ru⟩ := rv.get hx
    obtain ⟨u2, hu2, ru2⟩ := rv2.get hy
    have hu' : its.toArray[i]? = some u := by simpa using hu
    have hu2' : its2.toArray[i]? = some u2 := by simpa using hu2
    have hh : X.A.in1.in1.handled = none := I.ok.hd hc
    have hel : e < s.heap.objs.size := Heap.lt_size he
    let R : Value → Heap → Prop := fun v h₁ => v = .ref s.heap.objs.size ∧ (∃ f0 f1, IsZipF h₁ z TI TO f0 f1 ∧ Ff f0 f1) ∧ (∃ b1 b2, IsTupOf2 h₁ TO b1 b2) ∧ IsIt t h₁ i1 a (i + 1) ∧ IsIt t2 h₁ i2 b (i + 1) ∧ IsTupOf2 h₁ s.heap.objs.size u u2 ∧ h₁.objs.size = s.heap.objs.size + 1 ∧
      ∀ c o, c ≠ z → c ≠ TO → c ≠ i1 → c ≠ i2 → s.heap.get? c = some o → h₁.get? c = some o
    refine pyNext_enumA (R := R) he (fun Q E hQ => ?_) (fun v h₁ hr => hr.2.2.2.2.2.2.2 e _ ez eTO e1 e2 he) fun v h₁ h' tk hr ho hT' hk => ?_
    · refine nextOf_zipF D (draws_sq t hh i1 a ha1 its.toArray) (draws_sq t2 hh i2 b hb2 its2.toArray) hz hff hTI hTO ⟨h1, p⟩ ⟨h2, p2⟩ (Array.getElem?_eq_some_iff.mp hu').1 (Array.getElem?_eq_some_iff.mp hu2').1 fun x1 x2 h₁ tk hx1 hx2 c1 c2 c3 c4 c5 c6 c7 => hQ _ h₁ tk ⟨rfl, c1, c2, c3.1, c4.1, ?_, c6, c7⟩
      have q1 : its.toArray[i]? = some x1 := hx1
      have q2 : its2.toArray[i]? = some x2 := hx2
      rw [hu'] at q1; cases q1
      rw [hu2'] at q2; cases q2
      exact c5
    · obtain ⟨rfl, c1, c2, c3, c4, c5, c6, c7⟩ := hr
      refine ⟨_, rfl, wpAny_letOwnedTupleGo_enum (s := { s with heap := h', toks := tk + 1 }) ho fun h'' he' sb => ?_⟩
      replace sb : Heap.SameBut e h' h'' := sb
      have hlt2 : e < h₁.objs.size := by rw [c6]; exact Nat.lt_succ_of_lt hel
      have hT2 : h''.get? h₁.objs.size = some { cls := .type "tuple", data := .seq #[.int i tk, .ref s.heap.objs.size] } := (sb.2 _ (Nat.ne_of_gt hlt2)).trans hT'
      have new1 : ObjOk X.prog X.w (upd H s.heap.objs.size (.tup [x, y])) h₁ s.heap.objs.size (.tup [x, y]) :=
        ⟨by show 2 ≤ sizeLine; decide, [u, u2], .cons ru (.cons ru2 .nil), ⟨_, c5, rfl, _, rfl⟩⟩
      have I1 : Inv X pins σ (upd H s.heap.objs.size (.tup [x, y])) { s with heap := h₁, toks := s.toks } :=
        I.turnedNew (t' := s.toks) (ch := [z, TO, i1, i2]) (fun c o hb q => c7 c o (fun q' => hb (by simp [q'])) (fun q' => hb (by simp [q'])) (fun q' => hb (by simp [q'])) (fun q' => hb (by simp [q'])) q) (fun c hcm => hf c (by
          have e' : c = z ∨ c = TO ∨ c = i1 ∨ c = i2 := by simpa using hcm
          rcases e' with q | q | q | q <;> simp [q])) (Nat.le_refl _) new1
      have new2 : ObjOk X.prog X.w (upd (upd H s.heap.objs.size (.tup [x, y])) h₁.objs.size (.tup [.int (i : Nat), .ref s.heap.objs.size])) h'' h₁.objs.size (.tup [.int (i : Nat), .ref s.heap.objs.size]) :=
        ⟨by show 2 ≤ sizeLine; decide, [.int i tk, .ref s.heap.objs.size], .cons ⟨_, rfl⟩ (.cons rfl .nil), ⟨_, hT2, rfl, _, rfl⟩⟩
      have I2 : Inv X pins σ (upd (upd H s.heap.objs.size (.tup [x, y])) h₁.objs.size (.tup [.int (i : Nat), .ref s.heap.objs.size])) { s with heap := h'', toks := tk + 1 } :=
        I1.turnedNew (t' := tk + 1) (ch := [e]) (fun c o hb q => (sb.2 c (fun q' => hb (by simp [q']))).trans (hk c o (fun q' => hb (by simp [q'])) q)) (fun c hcm => by
          have e' : c = e := by simpa using hcm
          subst e'
          have := hf c (by simp)
          exact ⟨by rw [upd_ne (Nat.ne_of_lt hel)]; exact this.1, this.2⟩) (Nat.le_refl _) new2
      have fr1 : H h₁.objs.size = none := I.hok.fresh (by rw [c6]; exact Nat.le_succ _)
      have up : ∀ c o, c ≠ e → h₁.get? c = some o → h''.get? c = some o := fun c o ce q => (sb.2 c ce).trans (hk c o ce q)
      obtain ⟨g0, g1, hz1, hff1⟩ := c1
      obtain ⟨b1, b2, hTO1⟩ := c2
      refine ⟨.ref h₁.objs.size, _, I2, rfl, ⟨s.heap.objs.size, h₁.objs.size, x, y, rfl, I.hok.fresh (Nat.le_refl _), fr1, by rw [c6]; exact Nat.succ_ne_self _, rfl, fun l hl => by rw [sq_inj I hl hqx]; exact hx, fun l hl => by rw [sq_inj I hl hqy]; exact hy⟩,
        ⟨⟨.ref s.heap.objs.size, ?_⟩, ⟨g0, g1, up _ _ (Ne.symm ez) hz1, hff1⟩, up _ _ (Ne.symm eTI) (c7 _ _ D.TIz D.TITO D.TIi1 D.TIi2 hTI), ⟨b1, b2, up _ _ (Ne.symm eTO) hTO1⟩, c3.at fun o q => up _ _ (Ne.symm e1) q, c4.at fun o q => up _ _ (Ne.symm e2) q⟩, fun c hcm => ?_⟩
      · have e1 : ((i + 1 : Nat) : Int) = (i : Int) + 1 := by omega
        rw [e1]; exact he'
      · have hlt : c < s.heap.objs.size := by
          have e' : c = e ∨ c = z ∨ c = TI ∨ c = TO ∨ c = i1 ∨ c = i2 := by simpa using hcm
          rcases e' with q | q | q | q | q | q
          · rw [q]; exact hel
          · rw [q]; exact Heap.lt_size hz
          · rw [q]; exact Heap.lt_size hTI
          · rw [q]; exact Heap.lt_size hTO
          · rw [q]; obtain ⟨_, e1, _⟩ := h1.get; exact Heap.lt_size e1
          · rw [q]; obtain ⟨_, e2, _⟩ := h2.get; exact Heap.lt_size e2
        rw [upd_ne (Nat.ne_of_lt (by rw [c6]; exact Nat.lt_succ_of_lt hlt)), upd_ne (Nat.ne_of_lt hlt)]
        exact (hf c hcm).1
  done := by
    intro X hP hw hK hc i pins s σ H E I hf st hg
    subst hP hw hK
    obtain ⟨⟨old, he⟩, ⟨f0, f1, hz, hff⟩, hTI, ⟨x0, y0, hTO⟩, h1, h2⟩ := st
    obtain ⟨xs, ys, hqx, hqy, l1, l2, hend⟩ := hg
    obtain ⟨its, rv, p, _⟩ := inv_sq I hqx
    obtain ⟨its2, rv2, p2, _⟩ := inv_sq I hqy
    have e1 : its.toArray.size = xs.length := by simp [rv.length]
    have e2 : its2.toArray.size = ys.length := by simp [rv2.length]
    have hh : X.A.in1.in1.handled = none := I.ok.hd hc
    exact pyNext_enumA_end (Ex := fun h' => ∀ c o, c ≠ z → c ≠ TO → c ≠ i1 → c ≠ i2 → s.heap.get? c = some o → h'.get? c = some o) he
      (fun Q E hE => nextOf_zipF_end D (draws_sq t hh i1 a ha1 its.toArray) (draws_sq t2 hh i2 b hb2 its2.toArray) hz hff hTI hTO ⟨h1, p⟩ ⟨h2, p2⟩ (by omega) (by omega) (by omega) fun h' tk x hk hx => hE h' tk x hk hx)
      fun h' tk hk => ⟨rfl, I.turnedL (t' := tk) (ch := [z, TO, i1, i2]) (fun c o hb q => hk c o (fun q' => hb (by simp [q'])) (fun q' => hb (by simp [q'])) (fun q' => hb (by simp [q'])) (fun q' => hb (by simp [q'])) q) fun c hcm => hf c (by
          have e' : c = z ∨ c = TO ∨ c = i1 ∨ c = i2 := by simpa using hcm
          rcases e' with q | q | q | q <;> simp [q])⟩
  self := fun A i s Q E st h => let ⟨⟨_, he⟩, _⟩ := st; wpAny_pyIter_enum he h

set_option maxHeartbeats 1000000 in
theorem meets_enumZ {z TI TO : Addr} :
    Meets (Builtin.«enumerate.__new__» ⟨[.type "enumerate", .ref z], []⟩) (fun _ R s => IsZip s.heap z TI TO .none ∧
      R (.ok (.ret (.ref s.heap.objs.size))) { s with heap := s.heap.push { cls := .type "enumerate", data := .fields #[.none, .bool false, .ref z, rawInt 0, .none, .none] } }) :=
  .of_wp fun prog w A R s h => by
    obtain ⟨hp, g, d, tk, os⟩ := s; obtain ⟨h1, h⟩ := h
    have hsub := sub_enumerate
    have q1 : ∀ {A' : Around} {E : Value → Shared → Prop} {Q : Value → Shared → Prop}, Q (.ref z) ⟨hp, g, d, tk, os⟩ → wpAny (model prog w) A' (pyIter (.ref z)) Q E ⟨hp, g, d, tk, os⟩ :=
      fun q => wpAny_pyIter_zip h1 q
    wp_walk using q1
    refine wpAny_stack_any fun st => wpAny_pure ?_
    split
    · rename_i c _ _ _ _ _
      cases (c == Value.type "enumerate")
      · wp_walk using q1
        exact ⟨_, rfl, h⟩
      · wp_walk using q1
        exact ⟨_, rfl, h⟩
    · wp_walk using q1
      exact ⟨_, rfl, h⟩
theorem call_enumZ {prog : Program} {w : World} {A : Around} {E : Value → Shared → Prop} {s : Shared} {z TI TO : Addr} {Q : Value → Shared → Prop} (hz : IsZip s.heap z TI TO .none)
    (h : ∀ h', IsEnum h' s.heap.objs.size z 0 .none → h'.objs.size = s.heap.objs.size + 1 → (∀ b o, s.heap.get? b = some o → h'.get? b = some o) → Q (.ref s.heap.objs.size) { s with heap := h' }) :
    wpAny (model prog w) A (call (.type "enumerate") [.ref z]) Q E s := by
  refine callType_new F.called_enumerate (by decide) (F.typeCall_enumerate_1 _) (F.newCall_enumerate_1 _) (fun obj => F.args_object_init_2 obj _) F.entry_enumerate_new
    (meets_enumZ (z := z)) ⟨hz, ?_⟩
  have he : IsEnum (s.heap.push { cls := .type "enumerate", data := .fields #[.none, .bool false, .ref z, rawInt 0, .none, .none] }) s.heap.objs.size z 0 .none := Heap.get?_push_size _ rfl
  exact ⟨⟨_, he, rfl⟩, h _ he (by rw [Heap.size_push]) fun b o x => Heap.get?_push_of_some _ x⟩
def iEzipB (K : PySem.W.Frag) (ta : TA) : TI := fun σ H R => ta σ H fun vs H1 => ∃ a b t t2 xs ys, vs = [.ref a, .ref b] ∧ SqB K t H1 a xs ∧ SqB K t2 H1 b ys ∧ R (ItezB K t t2 a b) H1
theorem pi_ezipB {X : Cx} {e e2 : Expr} {ta : TA} {p p2 pos pos2 tpos : Pos} {elts : List Expr} {kk : Nat} (hg : Gl X "enumerate") (hm : X.mg "enumerate" = none) (hg2 : Gl X "zip") (hm2 : X.mg "zip" = none) (ha : PA X [e, e2] ta)
    (hs : starEach [e, e2] X.env = (false, eval e X.env) :: starEach [e2] X.env := by rfl) (hpl : (backTo pos2 (starEach [e2] X.env)).any (·.1) = false := by rfl)
    (nc : starEach [.Call (.Name "zip" p2) [e, e2] [] pos2] X.env = (false, eval (.Call (.Name "zip" p2) [e, e2] [] pos2) X.env) :: starEach [] X.env := by rfl) :
    PI X (.Tuple elts kk tpos) (.Call (.Name "enumerate" p) [.Call (.Name "zip" p2) [e, e2] [] pos2] [] pos) (iEzipB X.K ta) := by
  refine ⟨fun pins s σ H R I h => ?_⟩
  refine Call_ (ld_blt I hg hm boot_enumerate (PyProof.Rows.callWith_type1 (args_cons (Call_ (ld_blt I hg2 hm2 PyProof.Rows.boot_zip (PyProof.Rows.callWith_type1 (thn (ha.run pos2 pins s σ H _ I h) fun us s1 ⟨vs, H1, I1, r1, q1⟩ => ?_) hs hpl))) nc) nc))
  obtain ⟨a, b, t, t2, xs, ys, ex, hqx, hqy, q⟩ := q1
  subst ex
  cases r1 with
  | cons r rr =>
    cases rr with
    | cons r' rr =>
      cases rr
      cases r
      cases r'
      obtain ⟨its, rv, p1, la⟩ := inv_sq I1 hqx
      obtain ⟨its2, rv2, p2, lb⟩ := inv_sq I1 hqy
      refine zip_begins2 (begins_sq t a its.toArray) (begins_sq t2 b its2.toArray) p1 p2 fun h' hz hTI hTO h1 h2 hsz hk => args_nil ?_
      refine call_enumZ (s := { s1 with heap := h' }) hz fun h'' he hsz2 hk2 => wpAny_pyIter_enum he ?_
      have I2 : Inv X pins σ H1 { s1 with heap := h'' } := I1.kept (t' := s1.toks) fun b o z => hk2 b o (hk b o z)
      have hN : h'.objs.size = s1.heap.objs.size + 5 := hsz
      refine ⟨h'.objs.size, [h'.objs.size, s1.heap.objs.size + 4, s1.heap.objs.size + 2, s1.heap.objs.size + 3, s1.heap.objs.size, s1.heap.objs.size + 1], _, _, H1, rfl, I2,
        turn_ezipB (sepB la lb) (Nat.ne_of_lt la) (Nat.ne_of_lt (Nat.lt_succ_of_lt lb)) ?_ ?_ ?_ ?_ ?_, ⟨⟨.none, he⟩, ⟨.none, .bool false, hk2 _ _ hz, .inl rfl, false, rfl⟩, hk2 _ _ hTI, ⟨_, _, hk2 _ _ hTO⟩, isIt_new (hk2 _ _ h1), isIt_new (hk2 _ _ h2)⟩, fun c hcm => ?_, q⟩
      · rw [hN]; exact Nat.succ_ne_self _
      · intro z; have z : (h'.objs.size : Nat) = s1.heap.objs.size + 2 := z; omega
      · intro z; have z : (h'.objs.size : Nat) = s1.heap.objs.size + 3 := z; omega
      · intro z; have z : (h'.objs.size : Nat) = s1.heap.objs.size := z; omega
      · intro z; have z : (h'.objs.size : Nat) = s1.heap.objs.size + 1 := z; omega
      have e' : c = h'.objs.size ∨ c = s1.heap.objs.size + 4 ∨ c = s1.heap.objs.size + 2 ∨ c = s1.heap.objs.size + 3 ∨ c = s1.heap.objs.size ∨ c = s1.heap.objs.size + 1 := by simpa using hcm
      have hle : s1.heap.objs.size ≤ c := by
        rcases e' with z | z | z | z | z | z
        · rw [z, hN]; exact Nat.le_add_right _ _
        · rw [z]; exact Nat.le_add_right _ _
        · rw [z]; exact Nat.le_add_right _ _
        · rw [z]; exact Nat.le_add_right _ _
        · rw [z]; exact Nat.le_refl _
        · rw [z]; exact Nat.le_add_right _ _
      exact I1.fpOk hle (I1.hok.fresh hle)

/-! ### over data -/
section
variable {K : PySem.W.Frag} {Jd : Option Addr} {B H : Hp} {a b : Addr} {t t2 : Bool} {ds es : List D}
theorem itezB_at {xs ys : List V} (s : Same B H) (w : Own Jd B H) (hq : SqB K t H a xs) (r : Reps K B ds xs) (hq2 : SqB K t2 H b ys) (r2 : Reps K B es ys) (i : Nat) : ItAt K Jd (ItezB K t t2 a b) B H (enumD (zipD ds es)) i := by
  have hl := r.len
  have hl2 := r2.len
  refine ⟨fun e => ⟨xs, ys, hq, hq2, ?_, ?_, ?_⟩, fun d hd => ?_⟩
  · rw [enumD_len] at e; unfold zipD at e; rw [List.length_zipWith] at e; omega
  · rw [enumD_len] at e; unfold zipD at e; rw [List.length_zipWith] at e; omega
  · rw [enumD_len] at e; unfold zipD at e; rw [List.length_zipWith] at e; omega
  · rw [enumD_get] at hd
    unfold zipD at hd
    rw [List.getElem?_zipWith] at hd
    cases hd0 : ds[i]? with
    | none => rw [hd0] at hd; cases hd
    | some d0 =>
      cases he0 : es[i]? with
      | none => rw [hd0, he0] at hd; cases hd
      | some e0 =>
        rw [hd0, he0] at hd
        cases hd
        obtain ⟨v, hv, rv⟩ := r.get hd0
        obtain ⟨u, hu, ru⟩ := r2.get he0
        refine ⟨⟨xs, ys, v, u, hq, hq2, hv, hu⟩, fun x H2 y => ?_⟩
        obtain ⟨p, p2, x', y', rfl, n, n2, np, rfl, y1, y2⟩ := y
        have e1 := y1 xs hq
        rw [hv] at e1; cases e1
        have e2 := y2 ys hq2
        rw [hu] at e2; cases e2
        obtain ⟨B2, g2, w2, rp⟩ := pair_new (K := K) (d := d0) (e := e0) n s w rv ru
        have n3 : upd H p (.tup [v, u]) p2 = none := by rw [upd_ne np]; exact n2
        obtain ⟨B3, g3, w3, rp3⟩ := pair_new (K := K) (d := .int (i : Nat)) (e := .tup [d0, e0]) (x := .int (i : Nat)) n3 g2.bh w2 (by rw [Rep]) rp
        exact ⟨B3, g2.trans g3, w3, rp3⟩
end
section
variable {X : Cx} {e a b c tg iter elt : Expr} {es ifs : List Expr} {pos p : Pos} {st : Stmt} {rest body : List Stmt}
/-- for over enumerate(zip(x, y)): x known -/
def wfEzip (wa : DA) : DIF := fun δ k => wa δ fun xs => ∃ x d δ' ds es, ((xs = [.c d, x] ∧ itemsD d = some ds) ∧ items δ x = some (δ', es)) ∧ k δ' (enumD (zipD ds es))
theorem dif_ezip {wa : DA} {elts : List Expr} {kk : Nat} {tpos p2 pos2 : Pos} (hg : Gl X "enumerate") (hm : X.mg "enumerate" = none) (hg2 : Gl X "zip") (hm2 : X.mg "zip" = none) (ha : Da X [a, b] wa)
    (hs : starEach [a, b] X.env = (false, eval a X.env) :: starEach [b] X.env := by rfl) (hpl : (backTo pos2 (starEach [b] X.env)).any (·.1) = false := by rfl)
    (nc : starEach [.Call (.Name "zip" p2) [a, b] [] pos2] X.env = (false, eval (.Call (.Name "zip" p2) [a, b] [] pos2) X.env) :: starEach [] X.env := by rfl) :
    Dif X (.Tuple elts kk tpos) (.Call (.Name "enumerate" p) [.Call (.Name "zip" p2) [a, b] [] pos2] [] pos) (wfEzip wa) := by
  obtain ⟨ta, pa, va⟩ := ha.ex
  refine ⟨_, pi_ezipB hg hm hg2 hm2 pa hs hpl nc, ?_⟩
  intro J B0 H0 B H σ δ e k h R q
  refine va e _ h _ fun xs vs B1 H1 h1 g1 w1 r1 => ?_
  obtain ⟨x, d, δ', ds, es, ⟨⟨rfl, hi2⟩, hi⟩, h1⟩ := h1
  obtain ⟨v, r, rfl, q1, ⟨v2, r2, rfl, q3, q4, _⟩, _⟩ := r1
  cases (show r2 = [] from q4)
  have q1 : Rep X.K B1 d v := q1
  obtain ⟨b, t2, rfl, hb⟩ := rep_items q1 hi2
  obtain ⟨B2, a, xs, e2, rfl, hx, rr, sm⟩ := items_okS e g1 w1 q3 hi
  obtain ⟨t, hq⟩ : ∃ t, SqB X.K t B2 a xs := hx.elim (fun h => ⟨false, h⟩) fun h => ⟨true, h⟩
  obtain ⟨ys, hq2, rr2⟩ := hb.mono sm
  exact ⟨b, a, t2, t, ys, xs, rfl, hq2.mono e2.bh, hq.mono e2.bh, q _ _ _ B2 H1 h1 e2 fun B' H' s s' w i => itezB_at s' w ((hq2.mono s).mono s') (rr2.mono s) ((hq.mono s).mono s') (rr.mono s) i⟩
end
end Dl
/-! max of a tuple or a list of ints -/
namespace Dl
open PySem PySem.Spec PyProof.Rows L2
section
variable {prog : Program} {w : World} {A : Around} {E : Value → Shared → Prop} {s : Shared} {l : Addr} {xs : Array (Int × Tok)}
theorem max_intTuple {Q : Value → Shared → Prop} (hh : A.handled = none) (hl : s.heap.IsTuple l (intItems xs)) (hne : 0 < xs.size)
    (h : ∀ v h' tk, (intItems xs)[argBest (fun i j => decide (numAt xs i > numAt xs j)) (xs.size - 1)]? = some v → (∀ b o, s.heap.get? b = some o → h'.get? b = some o) → Q v { s with heap := h', toks := tk }) :
    wpAny (model prog w) A (call (.builtin "max") [.ref l]) Q E s := by
  have hlt : l < s.heap.objs.size := by obtain ⟨_, e, _⟩ := hl; exact Heap.lt_size e
  refine call_max_walk (wpAny_pyIter_tuple hl ?_)
  refine ⟨_, _, _, _, _, _, _, rfl, Walks.tuple (A := A.in1) hh _ l (Nat.ne_of_lt hlt) (intItems xs), ⟨⟨_, Heap.get?_push_size _ rfl, rfl, rfl⟩, hl.push _⟩, fun b hb => ?_, by simpa [intItems] using hne, CmpOf.ints_gt (numAt xs) (fun _ _ => intItems_at), fun v h' tk hP hk => ?_⟩
  · show b < (s.heap.push _).objs.size
    rw [Heap.size_push]
    rcases List.mem_cons.mp hb with rfl | hb
    · exact Nat.lt_succ_self _
    · rcases List.mem_cons.mp hb with rfl | hb
      · exact Nat.lt_succ_of_lt hlt
      · cases hb
  · refine h v h' tk (by simpa [intItems] using hP) fun b o e => hk b o (fun hm => ?_) (Heap.get?_push_of_some _ e)
    rcases List.mem_cons.mp hm with e1 | hm
    · exact absurd (e1 ▸ Heap.lt_size e) (Nat.lt_irrefl _)
    · cases hm
theorem max_rawT {its : List Value} {ns : List Int} {Q : Value → Shared → Prop} (hh : A.handled = none) (hl : s.heap.IsTuple l its.toArray) (hi : IntsAre its ns) (hne : 0 < ns.length)
    (h : ∀ h' tk M t', (∀ b o, s.heap.get? b = some o → h'.get? b = some o) → M ∈ ns → (∀ a, a ∈ ns → a ≤ M) → Q (.int M t') { s with heap := h', toks := tk }) : wpAny (model prog w) A (call (.builtin "max") [.ref l]) Q E s := by
  obtain ⟨xs, e⟩ := hi.allInts.items
  have hn : numsOf (intItems xs).toList = ns := by rw [← e]; exact hi.numsOf
  rw [nums_intItems] at hn
  subst hn
  rw [e] at hl
  have hsz : 0 < xs.size := by simpa using hne
  refine max_intTuple hh hl hsz fun v h' tk hv hk => ?_
  obtain ⟨t, rfl⟩ := intItems_at hv
  obtain ⟨h1, h2⟩ := argBest_gt (numAt xs) (xs.size - 1)
  refine h h' tk _ t hk ?_ fun a ha => ?_
  · rw [numAt_eq]; exact PySem.getD_mem (by rw [List.length_map, Array.length_toList]; omega)
  · obtain ⟨j, hj, rfl⟩ := mem_getD ha
    rw [List.length_map, Array.length_toList] at hj
    rw [← numAt_eq]; exact h2 j (by omega)
end
section
variable {X : Cx}
def rMaxT (K : PySem.W.Frag) : List V → Hp → VK → Prop := fun vs H Q => ∃ (a : Addr) (ns : List Int), vs = [V.ref a] ∧ SqT K H a (ns.map V.int) ∧ 0 < ns.length ∧ ∀ m, m ∈ ns → (∀ y, y ∈ ns → y ≤ m) → Q (.int m) H
theorem cr_maxT (hc : X.calm = true) : CallR X (.builtin "max") (rMaxT X.K) := by
  intro pins s σ H vs us Q I r h
  obtain ⟨a, ns, rfl, hs, hne, q⟩ := h
  obtain ⟨its, rv, hl, _⟩ := I.tuple hs
  rw [Vals.ref1 r]
  exact max_rawT (I.ok.hd hc) (show s.heap.IsTuple a its.toArray from hl) (intsAre_of rv) hne fun h' tk m t' hk h1 h2 => ⟨.int _, H, I.kept hk, ⟨_, rfl⟩, q m h1 h2⟩
/-- the greatest of some ints, told by what it is -/
def cMax1 : RcD := fun ds k => match ds with
  | [.tup xs] => ∃ ns : List Int, xs = ns.map .int ∧ ns ≠ [] ∧ ∀ m, m ∈ ns → (∀ y ∈ ns, y ≤ m) → k (.c (.int m))
  | _ => False
theorem dc_max1 {K : PySem.W.Frag} : DCall K (rMaxT K) cMax1 := by
  intro J B H ds k vs Q h s w t q
  unfold cMax1 at h
  split at h
  · obtain ⟨ns, rfl, hne, h⟩ := h
    obtain ⟨v, rfl, t1⟩ := ts1 t
    obtain ⟨a, xs, rfl, aB, aH, ra⟩ := t1.tup s
    have : xs = ns.map V.int := reps_ints_eq ra
    subst this
    exact ⟨a, ns, rfl, aH, List.length_pos_iff.mpr hne, fun m h1 h2 => fin_c (h m h1 h2) s w (by rw [Rep]) q⟩
  · exact h.elim
end
end Dl
/-! x.append(y.pop(e)); xs.count(k); len(set(xs)); sorted(xs) -/
namespace Dl
open PySem PySem.Spec PyProof.Rows L2
theorem Reps.eraseIdx {K : PySem.W.Frag} {B : Hp} : ∀ {ds : List D} {vs : List V} (k : Nat), Reps K B ds vs → Reps K B (ds.eraseIdx k) (vs.eraseIdx k)
  | [], _, _, h => by rw [Reps] at h; subst h; exact .nil
  | d :: ds, _, 0, h => by rw [Reps] at h; obtain ⟨x, r, rfl, h1, h2⟩ := h; exact h2
  | d :: ds, _, k + 1, h => by rw [Reps] at h; obtain ⟨x, r, rfl, h1, h2⟩ := h; exact .cons h1 (h2.eraseIdx k)
theorem seqIx {k n : Nat} (h : k < n) : seqIndex? (k : Int) n = some k := by
  unfold seqIndex?
  have h1 : ¬ (k : Int) < 0 := by omega
  have h2 : (k : Int) < (n : Int) := by omega
  simp only [h1, if_false]
  rw [if_pos (by simp [h2])]
  rfl
section
variable {X : Cx} {e a b c tg iter elt : Expr} {es ifs : List Expr} {pos p : Pos} {st : Stmt} {rest body : List Stmt}
/-- x.append(y.pop(e)), e from 0 on -/
def wAppPopAt (i j : Nat) (wa : DE) : DS := fun R δ => i ≠ j ∧ ∃ ds es, δ[i]? = some (.own ds) ∧ δ[j]? = some (.own es) ∧ ds.length < 100000 ∧ es.length ≤ 100000 ∧ wa δ fun y => ∃ k : Nat, ∃ d, y = .c (.int k) ∧ es[k]? = some d ∧ R.nx ((δ.set j (.own (es.eraseIdx k))).set i (.own (ds ++ [d])))
theorem ds_appPopAt {i j : Nat} {x y : Str} {px py apos cpos apos2 cpos2 : Pos} {wa : DE} (hN : X.N[i]? = some x) (hv : Vis X.env.scope x) (hN2 : X.N[j]? = some y) (hv2 : Vis X.env.scope y) (ha : De X e wa)
    (hd : (x == ("__debug__" : Str)) = false := by decide) (hcd : (x == ("__classdict__" : Str)) = false := by decide) (hd2 : (y == ("__debug__" : Str)) = false := by decide) (hcd2 : (y == ("__classdict__" : Str)) = false := by decide)
    (hbase : attributeBase (.Name x px) "append" X.env (eval (.Name x px) X.env) = eval (.Name x px) X.env := by rfl)
    (hbase2 : attributeBase (.Name y py) "pop" X.env (eval (.Name y py) X.env) = eval (.Name y py) X.env := by rfl)
    (hfew : ((backTo cpos (starEach [.Call (.Attribute (.Name y py) "pop" apos2) [e] [] cpos2] X.env)).all (fun x => !x.1) && (backToKw cpos (keywordEach [] X.env)).all (fun x => x.1.isSome)
      && decide (([.Call (.Attribute (.Name y py) "pop" apos2) [e] [] cpos2] : List Expr).length + ([] : List Keyword).length + (if ([] : List Keyword).isEmpty then 0 else 1) < 30)) = true := by rfl)
    (hfew2 : ((backTo cpos2 (starEach [e] X.env)).all (fun x => !x.1) && (backToKw cpos2 (keywordEach [] X.env)).all (fun x => x.1.isSome)
      && decide ([e].length + ([] : List Keyword).length + (if ([] : List Keyword).isEmpty then 0 else 1) < 30)) = true := by rfl)
    (hline : (apos.endLine == cpos.line) = true := by rfl) (hline2 : (apos2.endLine == cpos2.line) = true := by rfl) (hs : starEach [.Call (.Attribute (.Name y py) "pop" apos2) [e] [] cpos2] X.env = (false, eval (.Call (.Attribute (.Name y py) "pop" apos2) [e] [] cpos2) X.env) :: starEach [] X.env := by rfl)
    (hs2 : starEach [e] X.env = (false, eval e X.env) :: starEach [] X.env := by rfl) (hplain : (backTo cpos (starEach [] X.env)).any (·.1) = false := by rfl) (hplain2 : (backTo cpos2 (starEach [] X.env)).any (·.1) = false := by rfl)
    (hsw : swapsWith (.Call (.Attribute (.Name x px) "append" apos) [.Call (.Attribute (.Name y py) "pop" apos2) [e] [] cpos2] [] cpos) none pos.line X.env = pure false := by rfl) :
    Ds X (.Expr (.Call (.Attribute (.Name x px) "append" apos) [.Call (.Attribute (.Name y py) "pop" apos2) [e] [] cpos2] [] cpos) pos) (wAppPopAt i j wa) := by
  obtain ⟨ta, pa, va⟩ := ha.ex
  refine ⟨_, ps_expr (pe_bm PySem.F.plainAttrs_list PySem.F.slot_list_append PySem.F.type_list_append mt_append (pv i hN hv hd hcd) (pa_cons (pe_bm PySem.F.plainAttrs_list PySem.F.slot_list_pop PySem.F.type_list_pop mt_popAt (pv j hN2 hv2 hd2 hcd2) (pa_cons pa pa_nil hs2) hbase2 hfew2 hline2 hs2 hplain2) pa_nil hs) hbase hfew hline hs hplain) hsw, ?_⟩
  intro J B0 H0 B H σ δ e R h En F
  obtain ⟨nij, ds, es, hi, hj, hl, hl2, h⟩ := h
  obtain ⟨a, xs, h1, h2, h3, h4, h5, h6⟩ := e.ownJ hi
  obtain ⟨b, ys, k1, k2, k3, k4, k5, k6⟩ := e.ownJ hj
  have nab : a ≠ b := fun z => e.ap i j ds es a nij hi hj h1 (by rw [z]; exact k1)
  refine ⟨_, h1, .inl ⟨rfl, _, SqL.of h4⟩, _, k1, .inl ⟨rfl, _, SqL.of k4⟩, va e _ h _ fun z u B1 H1 q1 g1 w1 r1 => ?_⟩
  obtain ⟨k, d, rfl, hk, q1⟩ := q1
  cases rv_int r1
  have e1 := e.step g1 w1
  have hH4 : H1 a = some (.lst xs) := g1.hh a _ h6 h4
  have hK4 : H1 b = some (.lst ys) := g1.hh b _ k6 k4
  have k5' := k5.mono g1.bb
  have h5' := h5.mono g1.bb
  obtain ⟨v, hv, rv⟩ := k5'.get hk
  have hlt : k < ys.length := (List.getElem?_eq_some_iff.mp hv).1
  have hly : ys.length ≤ 100000 := by rw [k5.len]; exact hl2
  refine ⟨b, ys, (k : Int), k, v, rfl, rfl, hK4, by omega, by omega, ?_, hv, ?_⟩
  · exact seqIx hlt
  have e2 := e1.change hj k1 hK4 (k5'.eraseIdx k)
  have hH1 : upd H1 b (.lst (ys.eraseIdx k)) a = some (.lst xs) := by rw [upd_ne nab]; exact hH4
  refine ⟨a, xs, v, rfl, rfl, hH1, Nat.lt_of_lt_of_le (by rw [h5.len]; exact hl) (by decide : 100000 ≤ sizeLine), F.nx (B := B1) q1 ?_⟩
  exact e2.change (by rw [List.getElem?_set_ne (Ne.symm nij)]; exact hi) h1 hH1 (h5'.append (.cons rv .nil))
/-- xs.count(k), of ints -/
def wCount (wa wb : DE) : DE := fun δ k => wa δ fun x => ∃ ns : List Int, rd δ x = some (.lst (ns.map .int)) ∧ wb δ fun y => ∃ i : Int, y = .c (.int i) ∧ k (.c (.int (ns.count i : Nat)))
theorem de_count {wa wb : DE} {apos cpos : Pos} (ha : De X a wa) (hb : De X b wb)
    (hbase : attributeBase a "count" X.env (eval a X.env) = eval a X.env := by rfl)
    (hfew : ((backTo cpos (starEach [b] X.env)).all (fun x => !x.1) && (backToKw cpos (keywordEach [] X.env)).all (fun x => x.1.isSome)
      && decide ([b].length + ([] : List Keyword).length + (if ([] : List Keyword).isEmpty then 0 else 1) < 30)) = true := by rfl)
    (hline : (apos.endLine == cpos.line) = true := by rfl) (hs : starEach [b] X.env = (false, eval b X.env) :: starEach [] X.env := by rfl) (hplain : (backTo cpos (starEach [] X.env)).any (·.1) = false := by rfl) :
    De X (.Call (.Attribute a "count" apos) [b] [] cpos) (wCount wa wb) := by
  obtain ⟨ta, pa, va⟩ := ha.ex
  obtain ⟨tb, pb, vb⟩ := hb.ex
  refine ⟨_, pe_bm PySem.F.plainAttrs_list PySem.F.slot_list_count PySem.F.type_list_count mt_lcount pa (pa_cons pb pa_nil hs) hbase hfew hline hs hplain, ?_⟩
  intro J B0 H0 B H σ δ e k h Q q
  refine va e _ h _ fun x v B1 H1 h1 g1 w1 r1 => ?_
  have e1 := e.step g1 w1
  obtain ⟨ns, hr, h1⟩ := h1
  have tx := r1.toT e1 e.nod hr
  obtain ⟨l, xs, rfl, hH, rr⟩ := tx.lst e1.bh
  refine ⟨.inl ⟨rfl, _, SqL.of hH⟩, vb e1 _ h1 _ fun y u B2 H2 h2 g2 w2 r2 => ?_⟩
  obtain ⟨i, rfl, h2⟩ := h2
  cases rv_int r2
  have e2 := e1.step g2 w2
  obtain ⟨l', xs', el, hH2, rr2⟩ := (tx.step g2).lst e2.bh
  cases el
  have : xs' = ns.map V.int := reps_ints_eq rr2
  subst this
  exact ⟨l, ns, i, rfl, rfl, SqL.of hH2, q _ _ B2 H2 h2 (g1.trans g2) w2 (by show Rep _ _ _ _; rw [Rep])⟩
/-- len(set(xs)), xs ints, none twice -/
def wLenSet (wa : DE) : DE := fun δ k => wa δ fun x => ∃ ns : List Int, rd δ x = some (.lst (ns.map .int)) ∧ ns.Nodup ∧ ns.length ≤ 4000 ∧ k (.c (.int (ns.length : Nat)))
theorem de_lenSet {wa : DE} {p p2 q pos : Pos} (hg : Gl X "len") (hm : X.mg "len" = none) (hg2 : Gl X "set") (hm2 : X.mg "set" = none) (ha : De X a wa) (hc : X.calm = true := by rfl)
    (na : starEach [a] X.env = (false, eval a X.env) :: starEach [] X.env := by rfl) : De X (.Call (.Name "len" p) [.Call (.Name "set" p2) [a] [] q] [] pos) (wLenSet wa) := by
  obtain ⟨ta, pa, va⟩ := ha.ex
  refine ⟨_, RZ.pe_lenSetI hg hm hg2 hm2 pa hc na, ?_⟩
  intro J B0 H0 B H σ δ e k h Q q
  refine va e _ h _ fun x v B1 H1 h1 g1 w1 r1 => ?_
  obtain ⟨ns, hr, hnd, hl, h1⟩ := h1
  have e1 := e.step g1 w1
  obtain ⟨l, xs, rfl, hH, rr⟩ := (r1.toT e1 e.nod hr).lst e1.bh
  have : xs = ns.map V.int := reps_ints_eq rr
  subst this
  exact ⟨l, ns, rfl, SqL.of hH, hnd, hl, q _ _ B1 H1 h1 g1 w1 (by show Rep _ _ _ _; rw [Rep])⟩
/-- sorted(xs) of fewer than 64 ints -/
def cSorted : RcD := fun ds k => match ds with
  | [.lst xs] => ∃ ns : List Int, xs = ns.map .int ∧ ns.length < 64 ∧ ∀ ns' : List Int, ns'.Perm ns → ns'.Pairwise (· ≤ ·) → k (.f (ns'.map .int))
  | _ => False
theorem dc_sorted {K : PySem.W.Frag} : DCall K (rSorted K) cSorted := by
  intro J B H ds k vs Q h s w t q
  unfold cSorted at h
  split at h
  · obtain ⟨ns, rfl, hl, h⟩ := h
    obtain ⟨v, rfl, t1⟩ := ts1 t
    obtain ⟨a, xs, rfl, aH, ra⟩ := t1.lst s
    have : xs = ns.map V.int := reps_ints_eq ra
    subst this
    exact ⟨a, ns, rfl, SqL.of aH, hl, fun ns' p h1 h2 hp => fin_lst hp (h ns' h1 h2) s w (reps_ints ns') q⟩
  · exact h.elim
end
end Dl
/-! x is True, x is False -/
namespace Dl
open PySem PySem.Spec PyProof.Rows L2
def isV (b : Bool) : D → Bool
  | .bl c => c == b
  | _ => false
def rIsB : R2D := fun d e k => match e with
  | .bl b => k (.c (.bl (isV b d)))
  | .non => k (.c (.bl (isNone d)))
  | _ => False
theorem op_isB {X : Cx} : OpR X (compareOp .Is) (fun x y H Q => ∃ b, y = .bl b ∧ Q (.bl (decide (x = .bl b))) H) := by
  intro pins s σ H x y v u Q I rx ry h
  obtain ⟨b, rfl, q⟩ := h
  cases (show u = Value.bool b from ry)
  have go : ∀ {c : Bool}, plainIs v (.bool b) = true → (v == Value.bool b) = c → c = decide (x = .bl b) → wpAny (model X.prog X.w) X.A (compareOp .Is v (.bool b)) (EP X pins σ Q) X.xe s := by
    intro c hp e1 e2
    refine wpAny_is_plain hp ⟨.bl c, H, I, by rw [e1]; rfl, by rw [e2]; exact q⟩
  cases x with
  | ref a => cases rx; exact go rfl rfl (by simp)
  | non => cases rx; exact go rfl rfl (by simp)
  | bl c =>
    cases (show v = Value.bool c from rx)
    exact go (c := c == b) rfl (by cases c <;> cases b <;> rfl) (by cases c <;> cases b <;> rfl)
  | int i => obtain ⟨t, rfl⟩ := rx; exact go rfl rfl (by simp)
  | str x => obtain ⟨t, rfl⟩ := rx; exact go rfl rfl (by simp)
  | byt x => obtain ⟨t, rfl⟩ := rx; exact go rfl rfl (by simp)
  | flt x => obtain ⟨t, rfl⟩ := rx; exact go rfl rfl (by simp)
  | ty n => cases rx; exact go rfl rfl (by simp)
theorem isV_V {K : PySem.W.Frag} {J : Option Addr} {B H : Hp} {d : D} {v : V} {b : Bool} (h : RepT K J B H d v) : decide (v = .bl b) = isV b d := by
  rcases h with h | ⟨ds, a, xs, rfl, rfl, _⟩
  · cases d <;> rw [Rep] at h
    case non => subst h; rfl
    case bl c => subst h; cases c <;> cases b <;> rfl
    case int => subst h; rfl
    case str => subst h; rfl
    case ty => subst h; rfl
    case lst => obtain ⟨a, xs, rfl, _⟩ := h; rfl
    case tup => obtain ⟨a, xs, rfl, _⟩ := h; rfl
    case frl => obtain ⟨a, xs, rfl, _⟩ := h; rfl
    case emp => obtain ⟨a, rfl, _⟩ := h; rfl
    case rng => obtain ⟨a, rfl, _⟩ := h; rfl
    case dct => obtain ⟨a, xs, rfl, _⟩ := h; rfl
  · rfl
theorem dop_isB {K : PySem.W.Frag} : DOp K (fun x y H Q => (y = .non ∧ Q (.bl (decide (x = .non))) H) ∨ ∃ b, y = .bl b ∧ Q (.bl (decide (x = .bl b))) H) rIsB := by
  intro J B H d e k x y Q h s w tx ty q
  unfold rIsB at h
  split at h
  · cases ty.bl
    exact .inr ⟨_, rfl, fin_c h s w (by rw [Rep, isV_V tx]) q⟩
  · cases ty.non
    exact .inl ⟨rfl, fin_c h s w (by rw [Rep, isNone_V tx]) q⟩
  · exact h.elim
theorem op_isA {X : Cx} : OpR X (compareOp .Is) (fun x y H Q => (y = .non ∧ Q (.bl (decide (x = .non))) H) ∨ ∃ b, y = .bl b ∧ Q (.bl (decide (x = .bl b))) H) := op_isN.or op_isB
end Dl
namespace Km
/-! terms as lists of ints: how many parts are due -/
def up (c : Int) (w : Nat) : Nat := if c = 0 then w + 1 else if 0 < c then w - 1 else w
/-- how many ints are read until w parts are told -/
def scn : Nat → List Int → Option Nat
  | 0, _ => some 0
  | _ + 1, [] => none
  | w + 1, c :: r => (scn (up c (w + 1)) r).map (· + 1)
def jI : Nat → List Int → Bool
  | w, [] => w == 0
  | w, c :: r => if w = 0 then false else jI (up c w) r
theorem scn_cons {w : Nat} {c : Int} {r : List Int} (h : 0 < w) : scn w (c :: r) = (scn (up c w) r).map (· + 1) := by
  cases w with
  | zero => omega
  | succ w => rfl
theorem jI_cons {w : Nat} {c : Int} {r : List Int} (h : jI w (c :: r) = true) : 0 < w ∧ jI (up c w) r = true := by
  unfold jI at h
  by_cases hw : w = 0
  · rw [if_pos hw] at h; cases h
  · rw [if_neg hw] at h; exact ⟨by omega, h⟩
theorem up_mono {c : Int} {v w : Nat} (h1 : 0 < v) (h2 : v ≤ w) : up c v ≤ up c w ∧ up c w - up c v = w - v := by
  unfold up
  split
  · omega
  · split <;> omega
/-- v parts of w -/
theorem part : ∀ {l : List Int} {v w : Nat}, jI w l = true → 0 < v → v ≤ w → ∃ n, scn v l = some n ∧ 0 < n ∧ n ≤ l.length ∧ jI v (l.take n) = true ∧ jI (w - v) (l.drop n) = true
  | [], v, w, h, h1, h2 => by
    unfold jI at h
    have : w = 0 := by simpa using h
    omega
  | c :: r, v, w, h, h1, h2 => by
    obtain ⟨hw, hj⟩ := jI_cons h
    obtain ⟨m1, m2⟩ := up_mono (c := c) h1 h2
    rw [scn_cons h1]
    by_cases h0 : up c v = 0
    · refine ⟨1, by rw [h0]; cases r <;> rfl, by omega, by simp, ?_, ?_⟩
      · show jI v [c] = true
        unfold jI
        rw [if_neg (by omega), h0]
        rfl
      · show jI (w - v) r = true
        rw [← m2, h0]
        exact hj
    · obtain ⟨n, e1, e2, e3, e4, e5⟩ := part (l := r) (v := up c v) (w := up c w) hj (by omega) m1
      refine ⟨n + 1, by rw [e1]; rfl, by omega, by simp; omega, ?_, ?_⟩
      · show jI v (c :: r.take n) = true
        unfold jI
        rw [if_neg (by omega)]
        exact e4
      · show jI (w - v) (r.drop n) = true
        rw [← m2]
        exact e5
theorem jI_drop : ∀ {l : List Int} {w k : Nat}, jI w l = true → k < l.length → ∃ w', 0 < w' ∧ jI w' (l.drop k) = true
  | [], _, _, _, h => by simp at h
  | c :: r, w, 0, h, _ => ⟨w, (jI_cons h).1, h⟩
  | c :: r, w, k + 1, h, hk => by
    have hk' : k < r.length := by simpa using hk
    exact jI_drop (l := r) (jI_cons h).2 hk'
theorem part_at {l : List Int} {k : Nat} (h : jI 1 l = true) (hk : k < l.length) : ∃ n, scn 1 (l.drop k) = some n ∧ 0 < n ∧ k + n ≤ l.length ∧ jI 1 ((l.drop k).take n) = true := by
  obtain ⟨w, hw, hj⟩ := jI_drop h hk
  obtain ⟨n, e1, e2, e3, e4, _⟩ := part hj (by omega : 0 < 1) hw
  refine ⟨n, e1, e2, ?_, e4⟩
  rw [List.length_drop] at e3
  omega
theorem scn_app : ∀ {l r : List Int} {w n : Nat}, scn w l = some n → scn w (l ++ r) = some n
  | _, _, 0, _, h => by
    unfold scn at h ⊢
    exact h
  | [], _, w + 1, _, h => by simp [scn] at h
  | c :: l, r, w + 1, n, h => by
    rw [scn_cons (by omega)] at h
    rw [List.cons_append, scn_cons (by omega)]
    cases hs : scn (up c (w + 1)) l with
    | none => rw [hs] at h; cases h
    | some m => rw [hs] at h; rw [scn_app hs]; exact h
theorem scn_add : ∀ {l : List Int} {a b n : Nat}, scn a l = some n → scn (a + b) l = (scn b (l.drop n)).map (n + ·)
  | l, 0, b, n, h => by
    have : n = 0 := by cases l <;> simpa [scn] using h.symm
    subst this
    rw [Nat.zero_add, List.drop_zero]
    cases scn b l <;> simp
  | [], a + 1, b, n, h => by simp [scn] at h
  | c :: l, a + 1, b, n, h => by
    rw [scn_cons (by omega)] at h
    rw [scn_cons (by omega)]
    cases hs : scn (up c (a + 1)) l with
    | none => rw [hs] at h; cases h
    | some m =>
      rw [hs] at h
      have e : n = m + 1 := by simpa using h.symm
      subst e
      have e2 : up c (a + 1 + b) = up c (a + 1) + b := by
        unfold up
        split
        · omega
        · split <;> omega
      rw [e2, scn_add hs, List.drop_succ_cons]
      cases scn b (l.drop m) with
      | none => rfl
      | some q => simp; omega
theorem scn_le : ∀ {l : List Int} {w n : Nat}, scn w l = some n → n ≤ l.length
  | l, 0, n, h => by
    have e : n = 0 := by
      have h' : scn 0 l = some 0 := by cases l <;> rfl
      rw [h'] at h; cases h; rfl
    omega
  | [], w + 1, _, h => by simp [scn] at h
  | c :: l, w + 1, n, h => by
    rw [scn_cons (by omega)] at h
    cases hs : scn (up c (w + 1)) l with
    | none => rw [hs] at h; cases h
    | some m =>
      rw [hs] at h
      have e : n = m + 1 := by simpa using h.symm
      have := scn_le hs
      simp; omega
theorem scn_whole {l : List Int} (h : jI 1 l = true) : scn 1 l = some l.length := by
  obtain ⟨n, e1, _, e3, _, e5⟩ := part h (by omega : 0 < 1) (Nat.le_refl 1)
  rw [e1]
  have : l.drop n = [] := by
    cases hd : l.drop n with
    | nil => rfl
    | cons c r => rw [hd] at e5; exact absurd (jI_cons e5).1 (by omega)
  have := congrArg List.length this
  rw [List.length_drop] at this
  simp at this
  congr 1
  omega
theorem scn_zero (l : List Int) : scn 0 l = some 0 := by cases l <;> rfl
/-- a call's end -/
theorem scn_call {r : List Int} {n m : Nat} (h1 : scn 1 r = some n) (h2 : scn 1 (r.drop n) = some m) : scn 1 (0 :: r) = some (1 + n + m) := by
  rw [scn_cons (by omega)]
  show (scn 2 r).map (· + 1) = _
  rw [scn_add (a := 1) (b := 1) h1, h2]
  simp; omega
theorem scn_call_inv {r : List Int} {k : Nat} (h : scn 1 (0 :: r) = some k) : ∃ n m, scn 1 r = some n ∧ scn 1 (r.drop n) = some m ∧ k = 1 + n + m := by
  rw [scn_cons (by omega)] at h
  have h : (scn 2 r).map (· + 1) = some k := h
  cases h1 : scn 1 r with
  | none =>
    exfalso
    have : ∀ (l : List Int) (w : Nat), 0 < w → scn w l = none → scn (w + 1) l = none := by
      intro l
      induction l with
      | nil => intro w _ _; rfl
      | cons c l ih =>
        intro w hw hn
        rw [scn_cons hw] at hn
        rw [scn_cons (by omega)]
        cases hs : scn (up c w) l with
        | some m => rw [hs] at hn; cases hn
        | none =>
          have hp : 0 < up c w := by
            apply Nat.pos_of_ne_zero
            intro z
            rw [z, scn_zero] at hs; cases hs
          have e2 : up c (w + 1) = up c w + 1 := by
            unfold up at hp ⊢
            split
            · omega
            · split
              · rename_i h1 h2; rw [if_neg h1, if_pos h2] at hp; omega
              · omega
          rw [e2, ih _ hp hs]
          rfl
    rw [this r 1 (by omega) h1] at h
    cases h
  | some n =>
    rw [scn_add (a := 1) (b := 1) h1] at h
    cases h2 : scn 1 (r.drop n) with
    | none => rw [h2] at h; cases h
    | some m => rw [h2] at h; exact ⟨n, m, rfl, h2, by simp at h; omega⟩
/-- terms that may be passed -/
structure Tm (ns : List Int) : Prop where
  len : ns.length ≤ 400
  rng : ∀ c ∈ ns, -1 ≤ c ∧ c ≤ 1000
  jd : jI 1 ns = true
theorem Tm.part {ns : List Int} {k n : Nat} (t : Tm ns) (h : scn 1 (ns.drop k) = some n) (hk : k < ns.length) : Tm ((ns.drop k).take n) := by
  obtain ⟨n', e1, _, e3, e4⟩ := part_at t.jd hk
  rw [h] at e1; cases e1
  refine ⟨?_, fun c hc => t.rng c (List.mem_of_mem_drop (List.mem_of_mem_take hc)), e4⟩
  rw [List.length_take, List.length_drop]
  have := t.len
  omega
theorem Tm.pos {ns : List Int} (t : Tm ns) : 0 < ns.length := by
  cases ns with
  | nil => have := t.jd; simp [jI] at this
  | cons c r => simp
end Km
namespace Dl
open PySem PySem.Spec PyProof.Rows L2
/-! ### values: whole numbers, places, terms -/
abbrev WE : Int := 1000000000000000000000000000000000000000000000000000000000000
abbrev c_WHOLE_END : Int := WE
abbrev c_MAX_PARTS : Int := 400
abbrev c_MAX_VARIABLE : Int := 1000
def isWhole : D → Bool
  | .int i => decide (-WE < i) && decide (i < WE)
  | _ => false
def within (d : D) (a b : Int) : Bool := match d with
  | .int i => (decide (-WE < i) && decide (i < WE)) && (decide (a ≤ i) && decide (i ≤ b))
  | _ => false
def pre_is_whole : List S → Prop
  | [.val d] => noTy d = true
  | _ => False
def post_is_whole : List S → DV → Prop
  | [.val d], r => r = .c (.bl (isWhole d))
  | _, _ => False
def pre_is_whole_within : List S → Prop
  | [.val d, .val (.int _), .val (.int _)] => noTy d = true
  | _ => False
def post_is_whole_within : List S → DV → Prop
  | [.val d, .val (.int a), .val (.int b)], r => r = .c (.bl (within d a b))
  | _, _ => False
def w_is_whole_1 : DS := wRet (wChain rLt rLt (wUn rNeg (wC (.int c_WHOLE_END))) (wVar 0) (wC (.int c_WHOLE_END)))
def w_is_whole : DS := wSeq (wIfS (wOrT (wNotT (wB (wCB cIsi (waCons (wVar 0) (waCons (wC (.ty "int")) (waNil)))))) (wOrT (wB (wOp rIsB (wVar 0) (wC (.bl true)))) (wB (wOp rIsB (wVar 0) (wC (.bl false)))))) (wRet (wC (.bl false))) ((fun R δ => R.nx δ))) (w_is_whole_1)
def w_is_whole_within : DS := wRet (wAnd (wCall 1 pre_is_whole post_is_whole (waCons (wVar 0) (waNil))) (wChain rLe rLe (wVar 1) (wVar 0) (wVar 2)))
theorem goal_is_whole : Goal w_is_whole ["value"] 1 pre_is_whole post_is_whole := by
  intro xs hl hp
  unfold pre_is_whole at hp
  split at hp
  · rename_i d
    unfold w_is_whole w_is_whole_1
    simp only [wSeq, rIsB, wYes, rInA, rNotInA, wRevT, cRepr, wPar3, wAppPop, wAppPopAt, wLstR1, wLstR2, wcZip, wcSeq, wcR1, wcR2, wcEnum, wfEnum, wfZip, wfEzip, itemsD, wSet, wOp, wVar, wC, wUn, wChain, wAnd, wOr, wNot, wB, wAndT, wOrT, wNotT, wIf, wIfS, wRet, wDrop, wTup, wLst, wEmp, wSl, woNone, woSome, wCB, waNil, waCons, wgName, wgNil, wgCons, wgTup, wAug, wPar, wAsgG, wApp, wExt, wPop, wSetI, wNever, rd, rds, cl, cls, sv, ret, toS, items, rII, rIIC, rPlus, rMinus, rAddI, rTimes, rFdivW, rMod, rPowW, rNeg, rLt, rLe, rGt, rGe, rEqq, rNeq, rIsN, rNotN, rIxD, rSlD, cLen, cTuple, cList, cII, cMin, cMax, cAbs, cInt, List.getElem?_cons_zero, List.getElem?_cons_succ, List.set_cons_zero, List.set_cons_succ, List.replicate, List.cons_append, List.nil_append, Option.some.injEq, Option.map_some, exists_eq_left', exists_eq_left, exists_and_left, exists_const, ite_true, ite_false, if_true, if_false, reduceCtorEq, decide_eq_true_eq, Bool.not_eq_true', Bool.not_eq_true, Bool.false_eq_true, Bool.true_eq_false, false_and, and_false, exists_false, not_true_eq_false, not_false_eq_true, Bool.not_true, Bool.not_false, DV.c.injEq, D.int.injEq, D.bl.injEq, D.tup.injEq, D.lst.injEq, DV.f.injEq, S.val.injEq, S.own.injEq, List.cons.injEq, and_true, true_and, okD_int, okD_bl, eqD_int, eqD_bl, Prod.mk.injEq, and_assoc]
    refine isi_int hp ?_
    simp only [wSeq, rIsB, wYes, rInA, rNotInA, wRevT, cRepr, wPar3, wAppPop, wAppPopAt, wLstR1, wLstR2, wcZip, wcSeq, wcR1, wcR2, wcEnum, wfEnum, wfZip, wfEzip, itemsD, wSet, wOp, wVar, wC, wUn, wChain, wAnd, wOr, wNot, wB, wAndT, wOrT, wNotT, wIf, wIfS, wRet, wDrop, wTup, wLst, wEmp, wSl, woNone, woSome, wCB, waNil, waCons, wgName, wgNil, wgCons, wgTup, wAug, wPar, wAsgG, wApp, wExt, wPop, wSetI, wNever, rd, rds, cl, cls, sv, ret, toS, items, rII, rIIC, rPlus, rMinus, rAddI, rTimes, rFdivW, rMod, rPowW, rNeg, rLt, rLe, rGt, rGe, rEqq, rNeq, rIsN, rNotN, rIxD, rSlD, cLen, cTuple, cList, cII, cMin, cMax, cAbs, cInt, List.getElem?_cons_zero, List.getElem?_cons_succ, List.set_cons_zero, List.set_cons_succ, List.replicate, List.cons_append, List.nil_append, Option.some.injEq, Option.map_some, exists_eq_left', exists_eq_left, exists_and_left, exists_const, ite_true, ite_false, if_true, if_false, reduceCtorEq, decide_eq_true_eq, Bool.not_eq_true', Bool.not_eq_true, Bool.false_eq_true, Bool.true_eq_false, false_and, and_false, exists_false, not_true_eq_false, not_false_eq_true, Bool.not_true, Bool.not_false, DV.c.injEq, D.int.injEq, D.bl.injEq, D.tup.injEq, D.lst.injEq, DV.f.injEq, S.val.injEq, S.own.injEq, List.cons.injEq, and_true, true_and, okD_int, okD_bl, eqD_int, eqD_bl, Prod.mk.injEq, and_assoc]
    cases d <;> simp only [isInt, isV, noTy] at hp ⊢ <;> try contradiction
    case int i =>
      simp only [wSeq, rIsB, wYes, rInA, rNotInA, wRevT, cRepr, wPar3, wAppPop, wAppPopAt, wLstR1, wLstR2, wcZip, wcSeq, wcR1, wcR2, wcEnum, wfEnum, wfZip, wfEzip, itemsD, wSet, wOp, wVar, wC, wUn, wChain, wAnd, wOr, wNot, wB, wAndT, wOrT, wNotT, wIf, wIfS, wRet, wDrop, wTup, wLst, wEmp, wSl, woNone, woSome, wCB, waNil, waCons, wgName, wgNil, wgCons, wgTup, wAug, wPar, wAsgG, wApp, wExt, wPop, wSetI, wNever, rd, rds, cl, cls, sv, ret, toS, items, rII, rIIC, rPlus, rMinus, rAddI, rTimes, rFdivW, rMod, rPowW, rNeg, rLt, rLe, rGt, rGe, rEqq, rNeq, rIsN, rNotN, rIxD, rSlD, cLen, cTuple, cList, cII, cMin, cMax, cAbs, cInt, List.getElem?_cons_zero, List.getElem?_cons_succ, List.set_cons_zero, List.set_cons_succ, List.replicate, List.cons_append, List.nil_append, Option.some.injEq, Option.map_some, exists_eq_left', exists_eq_left, exists_and_left, exists_const, ite_true, ite_false, if_true, if_false, reduceCtorEq, decide_eq_true_eq, Bool.not_eq_true', Bool.not_eq_true, Bool.false_eq_true, Bool.true_eq_false, false_and, and_false, exists_false, not_true_eq_false, not_false_eq_true, Bool.not_true, Bool.not_false, DV.c.injEq, D.int.injEq, D.bl.injEq, D.tup.injEq, D.lst.injEq, DV.f.injEq, S.val.injEq, S.own.injEq, List.cons.injEq, and_true, true_and, okD_int, okD_bl, eqD_int, eqD_bl, Prod.mk.injEq, and_assoc]
      simp only [post_is_whole, isWhole]
      simp only [wSeq, rIsB, wYes, rInA, rNotInA, wRevT, cRepr, wPar3, wAppPop, wAppPopAt, wLstR1, wLstR2, wcZip, wcSeq, wcR1, wcR2, wcEnum, wfEnum, wfZip, wfEzip, itemsD, wSet, wOp, wVar, wC, wUn, wChain, wAnd, wOr, wNot, wB, wAndT, wOrT, wNotT, wIf, wIfS, wRet, wDrop, wTup, wLst, wEmp, wSl, woNone, woSome, wCB, waNil, waCons, wgName, wgNil, wgCons, wgTup, wAug, wPar, wAsgG, wApp, wExt, wPop, wSetI, wNever, rd, rds, cl, cls, sv, ret, toS, items, rII, rIIC, rPlus, rMinus, rAddI, rTimes, rFdivW, rMod, rPowW, rNeg, rLt, rLe, rGt, rGe, rEqq, rNeq, rIsN, rNotN, rIxD, rSlD, cLen, cTuple, cList, cII, cMin, cMax, cAbs, cInt, List.getElem?_cons_zero, List.getElem?_cons_succ, List.set_cons_zero, List.set_cons_succ, List.replicate, List.cons_append, List.nil_append, Option.some.injEq, Option.map_some, exists_eq_left', exists_eq_left, exists_and_left, exists_const, ite_true, ite_false, if_true, if_false, reduceCtorEq, decide_eq_true_eq, Bool.not_eq_true', Bool.not_eq_true, Bool.false_eq_true, Bool.true_eq_false, false_and, and_false, exists_false, not_true_eq_false, not_false_eq_true, Bool.not_true, Bool.not_false, DV.c.injEq, D.int.injEq, D.bl.injEq, D.tup.injEq, D.lst.injEq, DV.f.injEq, S.val.injEq, S.own.injEq, List.cons.injEq, and_true, true_and, okD_int, okD_bl, eqD_int, eqD_bl, Prod.mk.injEq, and_assoc]
      by_cases h : -c_WHOLE_END < i
      · rw [if_pos h]; simp [h]
      · rw [if_neg h]; simp [h]
    case bl b =>
      cases b
      all_goals
        simp only [wSeq, rIsB, wYes, rInA, rNotInA, wRevT, cRepr, wPar3, wAppPop, wAppPopAt, wLstR1, wLstR2, wcZip, wcSeq, wcR1, wcR2, wcEnum, wfEnum, wfZip, wfEzip, itemsD, wSet, wOp, wVar, wC, wUn, wChain, wAnd, wOr, wNot, wB, wAndT, wOrT, wNotT, wIf, wIfS, wRet, wDrop, wTup, wLst, wEmp, wSl, woNone, woSome, wCB, waNil, waCons, wgName, wgNil, wgCons, wgTup, wAug, wPar, wAsgG, wApp, wExt, wPop, wSetI, wNever, rd, rds, cl, cls, sv, ret, toS, items, rII, rIIC, rPlus, rMinus, rAddI, rTimes, rFdivW, rMod, rPowW, rNeg, rLt, rLe, rGt, rGe, rEqq, rNeq, rIsN, rNotN, rIxD, rSlD, cLen, cTuple, cList, cII, cMin, cMax, cAbs, cInt, List.getElem?_cons_zero, List.getElem?_cons_succ, List.set_cons_zero, List.set_cons_succ, List.replicate, List.cons_append, List.nil_append, Option.some.injEq, Option.map_some, exists_eq_left', exists_eq_left, exists_and_left, exists_const, ite_true, ite_false, if_true, if_false, reduceCtorEq, decide_eq_true_eq, Bool.not_eq_true', Bool.not_eq_true, Bool.false_eq_true, Bool.true_eq_false, false_and, and_false, exists_false, not_true_eq_false, not_false_eq_true, Bool.not_true, Bool.not_false, DV.c.injEq, D.int.injEq, D.bl.injEq, D.tup.injEq, D.lst.injEq, DV.f.injEq, S.val.injEq, S.own.injEq, List.cons.injEq, and_true, true_and, okD_int, okD_bl, eqD_int, eqD_bl, Prod.mk.injEq, and_assoc]
        simp only [post_is_whole, isWhole]
        first
          | done
          | (simp; done)
          | simp only [wSeq, rIsB, wYes, rInA, rNotInA, wRevT, cRepr, wPar3, wAppPop, wAppPopAt, wLstR1, wLstR2, wcZip, wcSeq, wcR1, wcR2, wcEnum, wfEnum, wfZip, wfEzip, itemsD, wSet, wOp, wVar, wC, wUn, wChain, wAnd, wOr, wNot, wB, wAndT, wOrT, wNotT, wIf, wIfS, wRet, wDrop, wTup, wLst, wEmp, wSl, woNone, woSome, wCB, waNil, waCons, wgName, wgNil, wgCons, wgTup, wAug, wPar, wAsgG, wApp, wExt, wPop, wSetI, wNever, rd, rds, cl, cls, sv, ret, toS, items, rII, rIIC, rPlus, rMinus, rAddI, rTimes, rFdivW, rMod, rPowW, rNeg, rLt, rLe, rGt, rGe, rEqq, rNeq, rIsN, rNotN, rIxD, rSlD, cLen, cTuple, cList, cII, cMin, cMax, cAbs, cInt, List.getElem?_cons_zero, List.getElem?_cons_succ, List.set_cons_zero, List.set_cons_succ, List.replicate, List.cons_append, List.nil_append, Option.some.injEq, Option.map_some, exists_eq_left', exists_eq_left, exists_and_left, exists_const, ite_true, ite_false, if_true, if_false, reduceCtorEq, decide_eq_true_eq, Bool.not_eq_true', Bool.not_eq_true, Bool.false_eq_true, Bool.true_eq_false, false_and, and_false, exists_false, not_true_eq_false, not_false_eq_true, Bool.not_true, Bool.not_false, DV.c.injEq, D.int.injEq, D.bl.injEq, D.tup.injEq, D.lst.injEq, DV.f.injEq, S.val.injEq, S.own.injEq, List.cons.injEq, and_true, true_and, okD_int, okD_bl, eqD_int, eqD_bl, Prod.mk.injEq, and_assoc]
    all_goals
      simp only [wSeq, rIsB, wYes, rInA, rNotInA, wRevT, cRepr, wPar3, wAppPop, wAppPopAt, wLstR1, wLstR2, wcZip, wcSeq, wcR1, wcR2, wcEnum, wfEnum, wfZip, wfEzip, itemsD, wSet, wOp, wVar, wC, wUn, wChain, wAnd, wOr, wNot, wB, wAndT, wOrT, wNotT, wIf, wIfS, wRet, wDrop, wTup, wLst, wEmp, wSl, woNone, woSome, wCB, waNil, waCons, wgName, wgNil, wgCons, wgTup, wAug, wPar, wAsgG, wApp, wExt, wPop, wSetI, wNever, rd, rds, cl, cls, sv, ret, toS, items, rII, rIIC, rPlus, rMinus, rAddI, rTimes, rFdivW, rMod, rPowW, rNeg, rLt, rLe, rGt, rGe, rEqq, rNeq, rIsN, rNotN, rIxD, rSlD, cLen, cTuple, cList, cII, cMin, cMax, cAbs, cInt, List.getElem?_cons_zero, List.getElem?_cons_succ, List.set_cons_zero, List.set_cons_succ, List.replicate, List.cons_append, List.nil_append, Option.some.injEq, Option.map_some, exists_eq_left', exists_eq_left, exists_and_left, exists_const, ite_true, ite_false, if_true, if_false, reduceCtorEq, decide_eq_true_eq, Bool.not_eq_true', Bool.not_eq_true, Bool.false_eq_true, Bool.true_eq_false, false_and, and_false, exists_false, not_true_eq_false, not_false_eq_true, Bool.not_true, Bool.not_false, DV.c.injEq, D.int.injEq, D.bl.injEq, D.tup.injEq, D.lst.injEq, DV.f.injEq, S.val.injEq, S.own.injEq, List.cons.injEq, and_true, true_and, okD_int, okD_bl, eqD_int, eqD_bl, Prod.mk.injEq, and_assoc]
      simp only [post_is_whole, isWhole]
  · exact hp.elim
/-- a call whose answer is one value -/
theorem call_one {n : Nat} {pre : List S → Prop} {post : List S → DV → Prop} {ss : List S} {k : DV → Prop} {x : D} (hn : ss.length = n) (hp : pre ss) (h : ∀ r, post ss r → r = .c x) (hk : k (.c x)) : ss.length = n ∧ pre ss ∧ ∀ r, post ss r → r ≠ .j ∧ k r :=
  ⟨hn, hp, fun r q => by rw [h r q]; exact ⟨by simp, hk⟩⟩
theorem goal_is_whole_within : Goal w_is_whole_within ["value", "least", "most"] 3 pre_is_whole_within post_is_whole_within := by
  intro xs hl hp
  unfold pre_is_whole_within at hp
  split at hp
  · rename_i d a b
    unfold w_is_whole_within
    simp only [wSeq, rIsB, wYes, rInA, rNotInA, wRevT, cRepr, wPar3, wAppPop, wAppPopAt, wLstR1, wLstR2, wcZip, wcSeq, wcR1, wcR2, wcEnum, wfEnum, wfZip, wfEzip, itemsD, wSet, wOp, wVar, wC, wUn, wChain, wAnd, wOr, wNot, wB, wAndT, wOrT, wNotT, wIf, wIfS, wRet, wDrop, wTup, wLst, wEmp, wSl, woNone, woSome, wCB, waNil, waCons, wgName, wgNil, wgCons, wgTup, wAug, wPar, wAsgG, wApp, wExt, wPop, wSetI, wNever, rd, rds, cl, cls, sv, ret, toS, items, rII, rIIC, rPlus, rMinus, rAddI, rTimes, rFdivW, rMod, rPowW, rNeg, rLt, rLe, rGt, rGe, rEqq, rNeq, rIsN, rNotN, rIxD, rSlD, cLen, cTuple, cList, cII, cMin, cMax, cAbs, cInt, List.getElem?_cons_zero, List.getElem?_cons_succ, List.set_cons_zero, List.set_cons_succ, List.replicate, List.cons_append, List.nil_append, Option.some.injEq, Option.map_some, exists_eq_left', exists_eq_left, exists_and_left, exists_const, ite_true, ite_false, if_true, if_false, reduceCtorEq, decide_eq_true_eq, Bool.not_eq_true', Bool.not_eq_true, Bool.false_eq_true, Bool.true_eq_false, false_and, and_false, exists_false, not_true_eq_false, not_false_eq_true, Bool.not_true, Bool.not_false, DV.c.injEq, D.int.injEq, D.bl.injEq, D.tup.injEq, D.lst.injEq, DV.f.injEq, S.val.injEq, S.own.injEq, List.cons.injEq, and_true, true_and, okD_int, okD_bl, eqD_int, eqD_bl, Prod.mk.injEq, and_assoc]
    simp only [wCall]
    simp only [wSeq, rIsB, wYes, rInA, rNotInA, wRevT, cRepr, wPar3, wAppPop, wAppPopAt, wLstR1, wLstR2, wcZip, wcSeq, wcR1, wcR2, wcEnum, wfEnum, wfZip, wfEzip, itemsD, wSet, wOp, wVar, wC, wUn, wChain, wAnd, wOr, wNot, wB, wAndT, wOrT, wNotT, wIf, wIfS, wRet, wDrop, wTup, wLst, wEmp, wSl, woNone, woSome, wCB, waNil, waCons, wgName, wgNil, wgCons, wgTup, wAug, wPar, wAsgG, wApp, wExt, wPop, wSetI, wNever, rd, rds, cl, cls, sv, ret, toS, items, rII, rIIC, rPlus, rMinus, rAddI, rTimes, rFdivW, rMod, rPowW, rNeg, rLt, rLe, rGt, rGe, rEqq, rNeq, rIsN, rNotN, rIxD, rSlD, cLen, cTuple, cList, cII, cMin, cMax, cAbs, cInt, List.getElem?_cons_zero, List.getElem?_cons_succ, List.set_cons_zero, List.set_cons_succ, List.replicate, List.cons_append, List.nil_append, Option.some.injEq, Option.map_some, exists_eq_left', exists_eq_left, exists_and_left, exists_const, ite_true, ite_false, if_true, if_false, reduceCtorEq, decide_eq_true_eq, Bool.not_eq_true', Bool.not_eq_true, Bool.false_eq_true, Bool.true_eq_false, false_and, and_false, exists_false, not_true_eq_false, not_false_eq_true, Bool.not_true, Bool.not_false, DV.c.injEq, D.int.injEq, D.bl.injEq, D.tup.injEq, D.lst.injEq, DV.f.injEq, S.val.injEq, S.own.injEq, List.cons.injEq, and_true, true_and, okD_int, okD_bl, eqD_int, eqD_bl, Prod.mk.injEq, and_assoc]
    refine call_one (x := .bl (isWhole d)) rfl hp (fun r q => q) ?_
    simp only [wSeq, rIsB, wYes, rInA, rNotInA, wRevT, cRepr, wPar3, wAppPop, wAppPopAt, wLstR1, wLstR2, wcZip, wcSeq, wcR1, wcR2, wcEnum, wfEnum, wfZip, wfEzip, itemsD, wSet, wOp, wVar, wC, wUn, wChain, wAnd, wOr, wNot, wB, wAndT, wOrT, wNotT, wIf, wIfS, wRet, wDrop, wTup, wLst, wEmp, wSl, woNone, woSome, wCB, waNil, waCons, wgName, wgNil, wgCons, wgTup, wAug, wPar, wAsgG, wApp, wExt, wPop, wSetI, wNever, rd, rds, cl, cls, sv, ret, toS, items, rII, rIIC, rPlus, rMinus, rAddI, rTimes, rFdivW, rMod, rPowW, rNeg, rLt, rLe, rGt, rGe, rEqq, rNeq, rIsN, rNotN, rIxD, rSlD, cLen, cTuple, cList, cII, cMin, cMax, cAbs, cInt, List.getElem?_cons_zero, List.getElem?_cons_succ, List.set_cons_zero, List.set_cons_succ, List.replicate, List.cons_append, List.nil_append, Option.some.injEq, Option.map_some, exists_eq_left', exists_eq_left, exists_and_left, exists_const, ite_true, ite_false, if_true, if_false, reduceCtorEq, decide_eq_true_eq, Bool.not_eq_true', Bool.not_eq_true, Bool.false_eq_true, Bool.true_eq_false, false_and, and_false, exists_false, not_true_eq_false, not_false_eq_true, Bool.not_true, Bool.not_false, DV.c.injEq, D.int.injEq, D.bl.injEq, D.tup.injEq, D.lst.injEq, DV.f.injEq, S.val.injEq, S.own.injEq, List.cons.injEq, and_true, true_and, okD_int, okD_bl, eqD_int, eqD_bl, Prod.mk.injEq, and_assoc]
    cases d <;> simp only [isWhole] <;> (try simp only [wSeq, rIsB, wYes, rInA, rNotInA, wRevT, cRepr, wPar3, wAppPop, wAppPopAt, wLstR1, wLstR2, wcZip, wcSeq, wcR1, wcR2, wcEnum, wfEnum, wfZip, wfEzip, itemsD, wSet, wOp, wVar, wC, wUn, wChain, wAnd, wOr, wNot, wB, wAndT, wOrT, wNotT, wIf, wIfS, wRet, wDrop, wTup, wLst, wEmp, wSl, woNone, woSome, wCB, waNil, waCons, wgName, wgNil, wgCons, wgTup, wAug, wPar, wAsgG, wApp, wExt, wPop, wSetI, wNever, rd, rds, cl, cls, sv, ret, toS, items, rII, rIIC, rPlus, rMinus, rAddI, rTimes, rFdivW, rMod, rPowW, rNeg, rLt, rLe, rGt, rGe, rEqq, rNeq, rIsN, rNotN, rIxD, rSlD, cLen, cTuple, cList, cII, cMin, cMax, cAbs, cInt, List.getElem?_cons_zero, List.getElem?_cons_succ, List.set_cons_zero, List.set_cons_succ, List.replicate, List.cons_append, List.nil_append, Option.some.injEq, Option.map_some, exists_eq_left', exists_eq_left, exists_and_left, exists_const, ite_true, ite_false, if_true, if_false, reduceCtorEq, decide_eq_true_eq, Bool.not_eq_true', Bool.not_eq_true, Bool.false_eq_true, Bool.true_eq_false, false_and, and_false, exists_false, not_true_eq_false, not_false_eq_true, Bool.not_true, Bool.not_false, DV.c.injEq, D.int.injEq, D.bl.injEq, D.tup.injEq, D.lst.injEq, DV.f.injEq, S.val.injEq, S.own.injEq, List.cons.injEq, and_true, true_and, okD_int, okD_bl, eqD_int, eqD_bl, Prod.mk.injEq, and_assoc]) <;> (try simp only [post_is_whole_within, within])
    rename_i i
    cases h : (decide (-WE < i) && decide (i < WE)) with
    | false => simp
    | true =>
      rw [if_pos rfl]
      by_cases h2 : a ≤ i
      · rw [if_pos h2]; simp [h2]
      · rw [if_neg h2]; simp [h2]
  · exact hp.elim
end Dl
-- second
namespace Dl
open PySem PySem.Spec PyProof.Rows L2 Km
/-! ### parts -/
def unI : D → List Int
  | .tup ds => ds.map fun d => match d with
    | .int i => i
    | _ => 0
  | _ => []
theorem unI_tI (ns : List Int) : unI (tI ns) = ns := by
  show List.map _ (List.map D.int ns) = ns
  rw [List.map_map]
  induction ns with
  | nil => rfl
  | cons n ns ih => rw [List.map_cons, ih]; rfl
/-- how many unI the part at k has -/
def sz (ns : List Int) (k : Nat) : Nat := (scn 1 (ns.drop k)).getD 0
def pre_end_behind : List S → Prop
  | [.val t, .val (.int p)] => ∃ (ns : List Int) (k n : Nat), t = tI ns ∧ p = k ∧ scn 1 (ns.drop k) = some n
  | _ => False
def post_end_behind : List S → DV → Prop
  | [.val t, .val (.int p)], r => r = .c (.int (p + sz (unI t) p.toNat))
  | _, _ => False
def w_end_behind_1 : DS := wRet (wOp rPlus (wOp rPlus (wVar 1) (wVar 3)) (wC (.int 1)))
def w_end_behind_2 : DS := wIfS (wB (wOp rEqq (wVar 2) (wC (.int 0)))) (w_end_behind_1) ((fun R δ => R.nx δ))
def w_end_behind_3 : DS := wSeq (wAug 2 rMinus (wC (.int 1))) (w_end_behind_2)
def w_end_behind_4 : DS := wAug 2 rAddI (wC (.int 1))
def w_end_behind_5 : DS := wIfS (wB (wOp rEqq (wVar 4) (wC (.int 0)))) (w_end_behind_4) ((fun R δ => R.nx δ))
def w_end_behind_6 : DS := wIfS (wB (wOp rGt (wVar 4) (wC (.int 0)))) (w_end_behind_3) (w_end_behind_5)
def w_end_behind_7 : DS := wRet (wCB cLen (waCons (wVar 0) (waNil)))
def w_end_behind_8 : DS := wSeq (wForW (wfEnum (waCons (wSl (wVar 0) (woSome (wVar 1)) (woNone)) (waNil))) (wgTup 2 (wgCons (wgName 3) (wgCons (wgName 4) (wgNil)))) (w_end_behind_6)) (w_end_behind_7)
def w_end_behind : DS := wSeq (wSet 2 (wC (.int 1))) (w_end_behind_8)
def inv_end_behind (ns : List Int) (k n : Nat) (i : Nat) (δ : List S) : Prop := ∃ (v m : Nat) (s3 s4 : S), δ = [.val (tI ns), .val (.int k), .val (.int v), s3, s4] ∧ 0 < v ∧ scn v (ns.drop (k + i)) = some m ∧ i + m = n
theorem goal_end_behind : Goal w_end_behind ["parts", "place", "wanted", "at", "part"] 2 pre_end_behind post_end_behind := by
  intro xs hl hp
  unfold pre_end_behind at hp
  split at hp
  · rename_i t p
    obtain ⟨ns, k, n, rfl, rfl, hs⟩ := hp
    unfold w_end_behind w_end_behind_8 wForW
    simp only [List.length_cons, List.length_nil]
    simp only [wSeq, rIsB, wYes, rInA, rNotInA, wRevT, cRepr, wPar3, wAppPop, wAppPopAt, wLstR1, wLstR2, wcZip, wcSeq, wcR1, wcR2, wcEnum, wfEnum, wfZip, wfEzip, itemsD, wSet, wOp, wVar, wC, wUn, wChain, wAnd, wOr, wNot, wB, wAndT, wOrT, wNotT, wIf, wIfS, wRet, wDrop, wTup, wLst, wEmp, wSl, woNone, woSome, wCB, waNil, waCons, wgName, wgNil, wgCons, wgTup, wAug, wPar, wAsgG, wApp, wExt, wPop, wSetI, wNever, rd, rds, cl, cls, sv, ret, toS, items, rII, rIIC, rPlus, rMinus, rAddI, rTimes, rFdivW, rMod, rPowW, rNeg, rLt, rLe, rGt, rGe, rEqq, rNeq, rIsN, rNotN, rIxD, rSlD, cLen, cTuple, cList, cII, cMin, cMax, cAbs, cInt, List.getElem?_cons_zero, List.getElem?_cons_succ, List.set_cons_zero, List.set_cons_succ, List.replicate, List.cons_append, List.nil_append, Option.some.injEq, Option.map_some, exists_eq_left', exists_eq_left, exists_and_left, exists_const, ite_true, ite_false, if_true, if_false, reduceCtorEq, decide_eq_true_eq, Bool.not_eq_true', Bool.not_eq_true, Bool.false_eq_true, Bool.true_eq_false, false_and, and_false, exists_false, not_true_eq_false, not_false_eq_true, Bool.not_true, Bool.not_false, DV.c.injEq, D.int.injEq, D.bl.injEq, D.tup.injEq, D.lst.injEq, DV.f.injEq, S.val.injEq, S.own.injEq, List.cons.injEq, and_true, true_and, okD_int, okD_bl, eqD_int, eqD_bl, Prod.mk.injEq, and_assoc]
    have hcut : cutD (ns.map D.int) (some (k : Int)) none = (ns.drop k).map D.int := by
      rw [cutD_map]
      have e1 : HT.sIx ns.length 0 (some (k : Int)) = min k ns.length := by rw [HT.sIx_nat]; try omega
      have e2 : HT.sIx ns.length ns.length (none : Option Int) = ns.length := rfl
      rw [e1, e2]
      by_cases hk : k ≤ ns.length
      · rw [show min k ns.length = k by omega, List.take_of_length_le (by rw [List.length_drop]; omega)]
      · rw [show min k ns.length = ns.length by omega, List.drop_eq_nil_of_le (show ns.length ≤ ns.length by omega), List.drop_eq_nil_of_le (show ns.length ≤ k by omega)]
        simp
    rw [hcut]
    have hk : k < ns.length := by
      apply Classical.byContradiction
      intro hge
      rw [List.drop_eq_nil_of_le (by omega)] at hs
      simp [scn] at hs
    refine ⟨inv_end_behind ns k n, ⟨1, n, .no, .no, rfl, by omega, hs, by omega⟩, ?_, ?_⟩
    · rintro i d δ hi ⟨v, m, s3, s4, rfl, hv, hs', he⟩
      rw [enumD_get, List.getElem?_map, List.getElem?_drop] at hi
      obtain ⟨c, rfl, hci⟩ : ∃ c, d = .tup [.int (i : Nat), .int c] ∧ ns[k + i]? = some c := by
        cases h : ns[k + i]? with
        | none => rw [h] at hi; cases hi
        | some c => rw [h] at hi; cases hi; exact ⟨c, rfl, rfl⟩
      have hlt := (List.getElem?_eq_some_iff.mp hci).1
      have hdr : ns.drop (k + i) = c :: ns.drop (k + i + 1) := by
        rw [List.drop_eq_getElem_cons hlt]
        congr 1
        exact (List.getElem?_eq_some_iff.mp hci).2
      rw [hdr, scn_cons hv] at hs'
      obtain ⟨m', hm', rfl⟩ : ∃ m', scn (up c v) (ns.drop (k + i + 1)) = some m' ∧ m = m' + 1 := by
        cases hq : scn (up c v) (ns.drop (k + i + 1)) with
        | none => rw [hq] at hs'; cases hs'
        | some m' => rw [hq] at hs'; exact ⟨m', rfl, by simpa using hs'.symm⟩
      refine ⟨_, rfl, rfl, _, _, rfl, _, _, rfl, rfl, ?_⟩
      unfold w_end_behind_6
      simp only [wSeq, rIsB, wYes, rInA, rNotInA, wRevT, cRepr, wPar3, wAppPop, wAppPopAt, wLstR1, wLstR2, wcZip, wcSeq, wcR1, wcR2, wcEnum, wfEnum, wfZip, wfEzip, itemsD, wSet, wOp, wVar, wC, wUn, wChain, wAnd, wOr, wNot, wB, wAndT, wOrT, wNotT, wIf, wIfS, wRet, wDrop, wTup, wLst, wEmp, wSl, woNone, woSome, wCB, waNil, waCons, wgName, wgNil, wgCons, wgTup, wAug, wPar, wAsgG, wApp, wExt, wPop, wSetI, wNever, rd, rds, cl, cls, sv, ret, toS, items, rII, rIIC, rPlus, rMinus, rAddI, rTimes, rFdivW, rMod, rPowW, rNeg, rLt, rLe, rGt, rGe, rEqq, rNeq, rIsN, rNotN, rIxD, rSlD, cLen, cTuple, cList, cII, cMin, cMax, cAbs, cInt, List.getElem?_cons_zero, List.getElem?_cons_succ, List.set_cons_zero, List.set_cons_succ, List.replicate, List.cons_append, List.nil_append, Option.some.injEq, Option.map_some, exists_eq_left', exists_eq_left, exists_and_left, exists_const, ite_true, ite_false, if_true, if_false, reduceCtorEq, decide_eq_true_eq, Bool.not_eq_true', Bool.not_eq_true, Bool.false_eq_true, Bool.true_eq_false, false_and, and_false, exists_false, not_true_eq_false, not_false_eq_true, Bool.not_true, Bool.not_false, DV.c.injEq, D.int.injEq, D.bl.injEq, D.tup.injEq, D.lst.injEq, DV.f.injEq, S.val.injEq, S.own.injEq, List.cons.injEq, and_true, true_and, okD_int, okD_bl, eqD_int, eqD_bl, Prod.mk.injEq, and_assoc]
      by_cases h1 : 0 < c
      · rw [if_pos h1]
        have hup : up c v = v - 1 := by unfold up; rw [if_neg (by omega), if_pos h1]
        unfold w_end_behind_3
        simp only [wSeq, rIsB, wYes, rInA, rNotInA, wRevT, cRepr, wPar3, wAppPop, wAppPopAt, wLstR1, wLstR2, wcZip, wcSeq, wcR1, wcR2, wcEnum, wfEnum, wfZip, wfEzip, itemsD, wSet, wOp, wVar, wC, wUn, wChain, wAnd, wOr, wNot, wB, wAndT, wOrT, wNotT, wIf, wIfS, wRet, wDrop, wTup, wLst, wEmp, wSl, woNone, woSome, wCB, waNil, waCons, wgName, wgNil, wgCons, wgTup, wAug, wPar, wAsgG, wApp, wExt, wPop, wSetI, wNever, rd, rds, cl, cls, sv, ret, toS, items, rII, rIIC, rPlus, rMinus, rAddI, rTimes, rFdivW, rMod, rPowW, rNeg, rLt, rLe, rGt, rGe, rEqq, rNeq, rIsN, rNotN, rIxD, rSlD, cLen, cTuple, cList, cII, cMin, cMax, cAbs, cInt, List.getElem?_cons_zero, List.getElem?_cons_succ, List.set_cons_zero, List.set_cons_succ, List.replicate, List.cons_append, List.nil_append, Option.some.injEq, Option.map_some, exists_eq_left', exists_eq_left, exists_and_left, exists_const, ite_true, ite_false, if_true, if_false, reduceCtorEq, decide_eq_true_eq, Bool.not_eq_true', Bool.not_eq_true, Bool.false_eq_true, Bool.true_eq_false, false_and, and_false, exists_false, not_true_eq_false, not_false_eq_true, Bool.not_true, Bool.not_false, DV.c.injEq, D.int.injEq, D.bl.injEq, D.tup.injEq, D.lst.injEq, DV.f.injEq, S.val.injEq, S.own.injEq, List.cons.injEq, and_true, true_and, okD_int, okD_bl, eqD_int, eqD_bl, Prod.mk.injEq, and_assoc]
        unfold w_end_behind_2
        simp only [wSeq, rIsB, wYes, rInA, rNotInA, wRevT, cRepr, wPar3, wAppPop, wAppPopAt, wLstR1, wLstR2, wcZip, wcSeq, wcR1, wcR2, wcEnum, wfEnum, wfZip, wfEzip, itemsD, wSet, wOp, wVar, wC, wUn, wChain, wAnd, wOr, wNot, wB, wAndT, wOrT, wNotT, wIf, wIfS, wRet, wDrop, wTup, wLst, wEmp, wSl, woNone, woSome, wCB, waNil, waCons, wgName, wgNil, wgCons, wgTup, wAug, wPar, wAsgG, wApp, wExt, wPop, wSetI, wNever, rd, rds, cl, cls, sv, ret, toS, items, rII, rIIC, rPlus, rMinus, rAddI, rTimes, rFdivW, rMod, rPowW, rNeg, rLt, rLe, rGt, rGe, rEqq, rNeq, rIsN, rNotN, rIxD, rSlD, cLen, cTuple, cList, cII, cMin, cMax, cAbs, cInt, List.getElem?_cons_zero, List.getElem?_cons_succ, List.set_cons_zero, List.set_cons_succ, List.replicate, List.cons_append, List.nil_append, Option.some.injEq, Option.map_some, exists_eq_left', exists_eq_left, exists_and_left, exists_const, ite_true, ite_false, if_true, if_false, reduceCtorEq, decide_eq_true_eq, Bool.not_eq_true', Bool.not_eq_true, Bool.false_eq_true, Bool.true_eq_false, false_and, and_false, exists_false, not_true_eq_false, not_false_eq_true, Bool.not_true, Bool.not_false, DV.c.injEq, D.int.injEq, D.bl.injEq, D.tup.injEq, D.lst.injEq, DV.f.injEq, S.val.injEq, S.own.injEq, List.cons.injEq, and_true, true_and, okD_int, okD_bl, eqD_int, eqD_bl, Prod.mk.injEq, and_assoc]
        by_cases hv1 : v = 1
        · subst hv1
          rw [if_pos (by omega)]
          unfold w_end_behind_1
          simp only [wSeq, rIsB, wYes, rInA, rNotInA, wRevT, cRepr, wPar3, wAppPop, wAppPopAt, wLstR1, wLstR2, wcZip, wcSeq, wcR1, wcR2, wcEnum, wfEnum, wfZip, wfEzip, itemsD, wSet, wOp, wVar, wC, wUn, wChain, wAnd, wOr, wNot, wB, wAndT, wOrT, wNotT, wIf, wIfS, wRet, wDrop, wTup, wLst, wEmp, wSl, woNone, woSome, wCB, waNil, waCons, wgName, wgNil, wgCons, wgTup, wAug, wPar, wAsgG, wApp, wExt, wPop, wSetI, wNever, rd, rds, cl, cls, sv, ret, toS, items, rII, rIIC, rPlus, rMinus, rAddI, rTimes, rFdivW, rMod, rPowW, rNeg, rLt, rLe, rGt, rGe, rEqq, rNeq, rIsN, rNotN, rIxD, rSlD, cLen, cTuple, cList, cII, cMin, cMax, cAbs, cInt, List.getElem?_cons_zero, List.getElem?_cons_succ, List.set_cons_zero, List.set_cons_succ, List.replicate, List.cons_append, List.nil_append, Option.some.injEq, Option.map_some, exists_eq_left', exists_eq_left, exists_and_left, exists_const, ite_true, ite_false, if_true, if_false, reduceCtorEq, decide_eq_true_eq, Bool.not_eq_true', Bool.not_eq_true, Bool.false_eq_true, Bool.true_eq_false, false_and, and_false, exists_false, not_true_eq_false, not_false_eq_true, Bool.not_true, Bool.not_false, DV.c.injEq, D.int.injEq, D.bl.injEq, D.tup.injEq, D.lst.injEq, DV.f.injEq, S.val.injEq, S.own.injEq, List.cons.injEq, and_true, true_and, okD_int, okD_bl, eqD_int, eqD_bl, Prod.mk.injEq, and_assoc]
          rw [hup, scn_zero] at hm'
          cases hm'
          simp only [post_end_behind, unI_tI, sz, Int.toNat_natCast, hs, Option.getD_some]
          rw [show (k : Int) + (i : Int) + 1 = (k : Int) + ((n : Nat) : Int) by omega]
        · rw [if_neg (by omega)]
          have ev : ((v : Int) - 1) = ((v - 1 : Nat) : Int) := by omega
          rw [ev]
          refine ⟨v - 1, m', _, _, rfl, by omega, ?_, by omega⟩
          rw [← hup]; exact hm'
      · rw [if_neg h1]
        unfold w_end_behind_5
        simp only [wSeq, rIsB, wYes, rInA, rNotInA, wRevT, cRepr, wPar3, wAppPop, wAppPopAt, wLstR1, wLstR2, wcZip, wcSeq, wcR1, wcR2, wcEnum, wfEnum, wfZip, wfEzip, itemsD, wSet, wOp, wVar, wC, wUn, wChain, wAnd, wOr, wNot, wB, wAndT, wOrT, wNotT, wIf, wIfS, wRet, wDrop, wTup, wLst, wEmp, wSl, woNone, woSome, wCB, waNil, waCons, wgName, wgNil, wgCons, wgTup, wAug, wPar, wAsgG, wApp, wExt, wPop, wSetI, wNever, rd, rds, cl, cls, sv, ret, toS, items, rII, rIIC, rPlus, rMinus, rAddI, rTimes, rFdivW, rMod, rPowW, rNeg, rLt, rLe, rGt, rGe, rEqq, rNeq, rIsN, rNotN, rIxD, rSlD, cLen, cTuple, cList, cII, cMin, cMax, cAbs, cInt, List.getElem?_cons_zero, List.getElem?_cons_succ, List.set_cons_zero, List.set_cons_succ, List.replicate, List.cons_append, List.nil_append, Option.some.injEq, Option.map_some, exists_eq_left', exists_eq_left, exists_and_left, exists_const, ite_true, ite_false, if_true, if_false, reduceCtorEq, decide_eq_true_eq, Bool.not_eq_true', Bool.not_eq_true, Bool.false_eq_true, Bool.true_eq_false, false_and, and_false, exists_false, not_true_eq_false, not_false_eq_true, Bool.not_true, Bool.not_false, DV.c.injEq, D.int.injEq, D.bl.injEq, D.tup.injEq, D.lst.injEq, DV.f.injEq, S.val.injEq, S.own.injEq, List.cons.injEq, and_true, true_and, okD_int, okD_bl, eqD_int, eqD_bl, Prod.mk.injEq, and_assoc]
        by_cases h0 : c = 0
        · rw [if_pos h0]
          unfold w_end_behind_4
          simp only [wSeq, rIsB, wYes, rInA, rNotInA, wRevT, cRepr, wPar3, wAppPop, wAppPopAt, wLstR1, wLstR2, wcZip, wcSeq, wcR1, wcR2, wcEnum, wfEnum, wfZip, wfEzip, itemsD, wSet, wOp, wVar, wC, wUn, wChain, wAnd, wOr, wNot, wB, wAndT, wOrT, wNotT, wIf, wIfS, wRet, wDrop, wTup, wLst, wEmp, wSl, woNone, woSome, wCB, waNil, waCons, wgName, wgNil, wgCons, wgTup, wAug, wPar, wAsgG, wApp, wExt, wPop, wSetI, wNever, rd, rds, cl, cls, sv, ret, toS, items, rII, rIIC, rPlus, rMinus, rAddI, rTimes, rFdivW, rMod, rPowW, rNeg, rLt, rLe, rGt, rGe, rEqq, rNeq, rIsN, rNotN, rIxD, rSlD, cLen, cTuple, cList, cII, cMin, cMax, cAbs, cInt, List.getElem?_cons_zero, List.getElem?_cons_succ, List.set_cons_zero, List.set_cons_succ, List.replicate, List.cons_append, List.nil_append, Option.some.injEq, Option.map_some, exists_eq_left', exists_eq_left, exists_and_left, exists_const, ite_true, ite_false, if_true, if_false, reduceCtorEq, decide_eq_true_eq, Bool.not_eq_true', Bool.not_eq_true, Bool.false_eq_true, Bool.true_eq_false, false_and, and_false, exists_false, not_true_eq_false, not_false_eq_true, Bool.not_true, Bool.not_false, DV.c.injEq, D.int.injEq, D.bl.injEq, D.tup.injEq, D.lst.injEq, DV.f.injEq, S.val.injEq, S.own.injEq, List.cons.injEq, and_true, true_and, okD_int, okD_bl, eqD_int, eqD_bl, Prod.mk.injEq, and_assoc]
          refine ⟨v + 1, m', _, _, rfl, by omega, ?_, by omega⟩
          rw [← hm']; unfold up; rw [if_pos h0]; rfl
        · rw [if_neg h0]
          refine ⟨v, m', _, _, rfl, by omega, ?_, by omega⟩
          rw [← hm']; unfold up; rw [if_neg h0, if_neg h1]; rfl
    · rintro δ ⟨v, m, s3, s4, rfl, hv, hs', he⟩
      exfalso
      rw [enumD_len, List.length_map, List.length_drop] at hs' he
      rw [List.drop_eq_nil_of_le (by omega)] at hs'
      obtain ⟨v', rfl⟩ : ∃ v', v = v' + 1 := ⟨v - 1, by omega⟩
      simp [scn] at hs'
  · exact hp.elim
end Dl
-- second
namespace Dl
open PySem L2 Km
/-! ### which values are terms -/
def toI : D → Int
  | .int i => i
  | _ => 0
def jD : Nat → List D → Bool
  | w, [] => decide (w = 0)
  | w, d :: r => if w = 0 ∨ within d (-1) 1000 = false then false else jD (up (toI d) w) r
def isTermD : D → Bool
  | .tup ds => decide (ds.length ≤ 400) && jD 1 ds
  | _ => false
def okVal (d : D) : Prop := noTy d = true ∧ ∀ ds, d = .tup ds → ∀ x ∈ ds, noTy x = true
def pre_is_term : List S → Prop
  | [.val d] => okVal d
  | _ => False
def post_is_term : List S → DV → Prop
  | [.val d], r => r = .c (.bl (isTermD d))
  | _, _ => False
def w_is_term_1 : DS := wAug 1 rMinus (wC (.int 1))
def w_is_term_2 : DS := wAug 1 rAddI (wC (.int 1))
def w_is_term_3 : DS := wIfS (wB (wOp rLt (wVar 2) (wUn rNeg (wC (.int 1))))) (wRet (wC (.bl false))) ((fun R δ => R.nx δ))
def w_is_term_4 : DS := wIfS (wB (wOp rEqq (wVar 2) (wC (.int 0)))) (w_is_term_2) (w_is_term_3)
def w_is_term_5 : DS := wIfS (wB (wOp rGt (wVar 2) (wC (.int 0)))) (w_is_term_1) (w_is_term_4)
def w_is_term_6 : DS := wSeq (wIfS (wOrT (wB (wOp rEqq (wVar 1) (wC (.int 0)))) (wOrT (wNotT (wB (wCB cIsi (waCons (wVar 2) (waCons (wC (.ty "int")) (waNil)))))) (wOrT (wB (wOp rIsB (wVar 2) (wC (.bl true)))) (wB (wOp rIsB (wVar 2) (wC (.bl false))))))) (wRet (wC (.bl false))) ((fun R δ => R.nx δ))) (w_is_term_5)
def w_is_term_7 : DS := wRet (wAnd (wOp rEqq (wVar 1) (wC (.int 0))) (wOp rLe (wCB cMax1 (waCons (wVar 0) (waNil))) (wC (.int c_MAX_VARIABLE))))
def w_is_term_8 : DS := wSeq (wFor (wVar 0) (wgName 2) (w_is_term_6)) (w_is_term_7)
def w_is_term_9 : DS := wSeq (wSet 1 (wC (.int 1))) (w_is_term_8)
def w_is_term : DS := wSeq (wIfS (wOrT (wNotT (wB (wCB cIsi (waCons (wVar 0) (waCons (wC (.ty "tuple")) (waNil)))))) (wB (wOp rGt (wCB cLen (waCons (wVar 0) (waNil))) (wC (.int c_MAX_PARTS))))) (wRet (wC (.bl false))) ((fun R δ => R.nx δ))) (w_is_term_9)
/-- an integer from -1 on -/
def geM : D → Bool
  | .int i => decide (-1 ≤ i)
  | _ => false
def jE : Nat → List D → Bool
  | w, [] => decide (w = 0)
  | w, d :: r => if w = 0 ∨ geM d = false then false else jE (up (toI d) w) r
def le1k (d : D) : Bool := decide (toI d ≤ 1000)
theorem jD_jE : ∀ (ds : List D) (w : Nat), jD w ds = (jE w ds && ds.all le1k)
  | [], w => by simp [jD, jE]
  | d :: r, w => by
    unfold jD jE
    by_cases h : w = 0 ∨ geM d = false
    · rw [if_pos h]
      have : w = 0 ∨ within d (-1) 1000 = false := by
        rcases h with h | h
        · exact .inl h
        · refine .inr ?_
          cases d <;> simp [within, geM] at h ⊢
          omega
      rw [if_pos this]; rfl
    · rw [if_neg h, List.all_cons]
      have hw : w ≠ 0 := fun z => h (.inl z)
      have hg : geM d = true := by
        cases hh : geM d
        · exact absurd (.inr hh) h
        · rfl
      cases d <;> simp only [geM] at hg <;> try contradiction
      rename_i c
      have hg : -1 ≤ c := by simpa using hg
      by_cases hc : c ≤ 1000
      · have hw2 : within (.int c) (-1) 1000 = true := by
          unfold within
          simp [WE]; omega
        rw [if_neg (by rw [hw2]; simp [hw]), jD_jE r]
        have : le1k (.int c) = true := by show decide (c ≤ 1000) = true; exact decide_eq_true hc
        rw [this, Bool.true_and]
      · have hw2 : within (.int c) (-1) 1000 = false := by
          unfold within
          simp [hc]
        rw [if_pos (.inr hw2)]
        have : le1k (.int c) = false := by show decide (c ≤ 1000) = false; exact decide_eq_false hc
        rw [this, Bool.false_and, Bool.and_false]
def inv_is_term (ds : List D) (i : Nat) (δ : List S) : Prop := ∃ (w : Nat) (s : S) (ns : List Int), δ = [.val (.tup ds), .val (.int w), s] ∧ jE 1 ds = jE w (ds.drop i) ∧ ds.take i = ns.map .int
theorem goal_is_term : Goal w_is_term ["value", "wanted", "part"] 1 pre_is_term post_is_term := by
  intro xs hl hp
  unfold pre_is_term at hp
  split at hp
  · rename_i d
    obtain ⟨h1, h2⟩ := hp
    unfold w_is_term
    simp only [List.length_cons, List.length_nil]
    simp only [wSeq, rIsB, wYes, rInA, rNotInA, wRevT, cRepr, wPar3, wAppPop, wAppPopAt, wLstR1, wLstR2, wcZip, wcSeq, wcR1, wcR2, wcEnum, wfEnum, wfZip, wfEzip, itemsD, wSet, wOp, wVar, wC, wUn, wChain, wAnd, wOr, wNot, wB, wAndT, wOrT, wNotT, wIf, wIfS, wRet, wDrop, wTup, wLst, wEmp, wSl, woNone, woSome, wCB, waNil, waCons, wgName, wgNil, wgCons, wgTup, wAug, wPar, wAsgG, wApp, wExt, wPop, wSetI, wNever, rd, rds, cl, cls, sv, ret, toS, items, rII, rIIC, rPlus, rMinus, rAddI, rTimes, rFdivW, rMod, rPowW, rNeg, rLt, rLe, rGt, rGe, rEqq, rNeq, rIsN, rNotN, rIxD, rSlD, cLen, cTuple, cList, cII, cMin, cMax, cAbs, cInt, List.getElem?_cons_zero, List.getElem?_cons_succ, List.set_cons_zero, List.set_cons_succ, List.replicate, List.cons_append, List.nil_append, Option.some.injEq, Option.map_some, exists_eq_left', exists_eq_left, exists_and_left, exists_const, ite_true, ite_false, if_true, if_false, reduceCtorEq, decide_eq_true_eq, Bool.not_eq_true', Bool.not_eq_true, Bool.false_eq_true, Bool.true_eq_false, false_and, and_false, exists_false, not_true_eq_false, not_false_eq_true, Bool.not_true, Bool.not_false, DV.c.injEq, D.int.injEq, D.bl.injEq, D.tup.injEq, D.lst.injEq, DV.f.injEq, S.val.injEq, S.own.injEq, List.cons.injEq, and_true, true_and, okD_int, okD_bl, eqD_int, eqD_bl, Prod.mk.injEq, and_assoc]
    refine isi_tup h1 ?_
    (try simp only [wSeq, rIsB, wYes, rInA, rNotInA, wRevT, cRepr, wPar3, wAppPop, wAppPopAt, wLstR1, wLstR2, wcZip, wcSeq, wcR1, wcR2, wcEnum, wfEnum, wfZip, wfEzip, itemsD, wSet, wOp, wVar, wC, wUn, wChain, wAnd, wOr, wNot, wB, wAndT, wOrT, wNotT, wIf, wIfS, wRet, wDrop, wTup, wLst, wEmp, wSl, woNone, woSome, wCB, waNil, waCons, wgName, wgNil, wgCons, wgTup, wAug, wPar, wAsgG, wApp, wExt, wPop, wSetI, wNever, rd, rds, cl, cls, sv, ret, toS, items, rII, rIIC, rPlus, rMinus, rAddI, rTimes, rFdivW, rMod, rPowW, rNeg, rLt, rLe, rGt, rGe, rEqq, rNeq, rIsN, rNotN, rIxD, rSlD, cLen, cTuple, cList, cII, cMin, cMax, cAbs, cInt, List.getElem?_cons_zero, List.getElem?_cons_succ, List.set_cons_zero, List.set_cons_succ, List.replicate, List.cons_append, List.nil_append, Option.some.injEq, Option.map_some, exists_eq_left', exists_eq_left, exists_and_left, exists_const, ite_true, ite_false, if_true, if_false, reduceCtorEq, decide_eq_true_eq, Bool.not_eq_true', Bool.not_eq_true, Bool.false_eq_true, Bool.true_eq_false, false_and, and_false, exists_false, not_true_eq_false, not_false_eq_true, Bool.not_true, Bool.not_false, DV.c.injEq, D.int.injEq, D.bl.injEq, D.tup.injEq, D.lst.injEq, DV.f.injEq, S.val.injEq, S.own.injEq, List.cons.injEq, and_true, true_and, okD_int, okD_bl, eqD_int, eqD_bl, Prod.mk.injEq, and_assoc])
    cases d with
    | tup ds =>
      simp only [isTup]
      (try simp only [wSeq, rIsB, wYes, rInA, rNotInA, wRevT, cRepr, wPar3, wAppPop, wAppPopAt, wLstR1, wLstR2, wcZip, wcSeq, wcR1, wcR2, wcEnum, wfEnum, wfZip, wfEzip, itemsD, wSet, wOp, wVar, wC, wUn, wChain, wAnd, wOr, wNot, wB, wAndT, wOrT, wNotT, wIf, wIfS, wRet, wDrop, wTup, wLst, wEmp, wSl, woNone, woSome, wCB, waNil, waCons, wgName, wgNil, wgCons, wgTup, wAug, wPar, wAsgG, wApp, wExt, wPop, wSetI, wNever, rd, rds, cl, cls, sv, ret, toS, items, rII, rIIC, rPlus, rMinus, rAddI, rTimes, rFdivW, rMod, rPowW, rNeg, rLt, rLe, rGt, rGe, rEqq, rNeq, rIsN, rNotN, rIxD, rSlD, cLen, cTuple, cList, cII, cMin, cMax, cAbs, cInt, List.getElem?_cons_zero, List.getElem?_cons_succ, List.set_cons_zero, List.set_cons_succ, List.replicate, List.cons_append, List.nil_append, Option.some.injEq, Option.map_some, exists_eq_left', exists_eq_left, exists_and_left, exists_const, ite_true, ite_false, if_true, if_false, reduceCtorEq, decide_eq_true_eq, Bool.not_eq_true', Bool.not_eq_true, Bool.false_eq_true, Bool.true_eq_false, false_and, and_false, exists_false, not_true_eq_false, not_false_eq_true, Bool.not_true, Bool.not_false, DV.c.injEq, D.int.injEq, D.bl.injEq, D.tup.injEq, D.lst.injEq, DV.f.injEq, S.val.injEq, S.own.injEq, List.cons.injEq, and_true, true_and, okD_int, okD_bl, eqD_int, eqD_bl, Prod.mk.injEq, and_assoc])
      by_cases hlen : (400 : Int) < (ds.length : Int)
      · rw [if_pos hlen]
        simp only [post_is_term, isTermD]
        rw [decide_eq_false (by omega)]
        simp
      · rw [if_neg hlen]
        have hjt : isTermD (.tup ds) = (jE 1 ds && ds.all le1k) := by
          show (decide (ds.length ≤ 400) && jD 1 ds) = _
          rw [decide_eq_true (by omega), jD_jE]
          rfl
        have bad : jE 1 ds = false → isTermD (.tup ds) = false := fun h => by rw [hjt, h]; rfl
        unfold w_is_term_9 w_is_term_8 wFor
        (try simp only [wSeq, rIsB, wYes, rInA, rNotInA, wRevT, cRepr, wPar3, wAppPop, wAppPopAt, wLstR1, wLstR2, wcZip, wcSeq, wcR1, wcR2, wcEnum, wfEnum, wfZip, wfEzip, itemsD, wSet, wOp, wVar, wC, wUn, wChain, wAnd, wOr, wNot, wB, wAndT, wOrT, wNotT, wIf, wIfS, wRet, wDrop, wTup, wLst, wEmp, wSl, woNone, woSome, wCB, waNil, waCons, wgName, wgNil, wgCons, wgTup, wAug, wPar, wAsgG, wApp, wExt, wPop, wSetI, wNever, rd, rds, cl, cls, sv, ret, toS, items, rII, rIIC, rPlus, rMinus, rAddI, rTimes, rFdivW, rMod, rPowW, rNeg, rLt, rLe, rGt, rGe, rEqq, rNeq, rIsN, rNotN, rIxD, rSlD, cLen, cTuple, cList, cII, cMin, cMax, cAbs, cInt, List.getElem?_cons_zero, List.getElem?_cons_succ, List.set_cons_zero, List.set_cons_succ, List.replicate, List.cons_append, List.nil_append, Option.some.injEq, Option.map_some, exists_eq_left', exists_eq_left, exists_and_left, exists_const, ite_true, ite_false, if_true, if_false, reduceCtorEq, decide_eq_true_eq, Bool.not_eq_true', Bool.not_eq_true, Bool.false_eq_true, Bool.true_eq_false, false_and, and_false, exists_false, not_true_eq_false, not_false_eq_true, Bool.not_true, Bool.not_false, DV.c.injEq, D.int.injEq, D.bl.injEq, D.tup.injEq, D.lst.injEq, DV.f.injEq, S.val.injEq, S.own.injEq, List.cons.injEq, and_true, true_and, okD_int, okD_bl, eqD_int, eqD_bl, Prod.mk.injEq, and_assoc])
        refine ⟨inv_is_term ds, ⟨1, _, [], rfl, rfl, by simp⟩, ?_, ?_⟩
        · rintro i d δ hi ⟨w, s, ns, rfl, hj, htk⟩
          have hlt := (List.getElem?_eq_some_iff.mp hi).1
          have hd : ds.drop i = d :: ds.drop (i + 1) := by
            rw [List.drop_eq_getElem_cons hlt]
            congr 1
            exact (List.getElem?_eq_some_iff.mp hi).2
          have htk' : ds.take (i + 1) = ds.take i ++ [d] := by
            rw [List.take_succ, hi]; rfl
          rw [hd, jE] at hj
          have hn : noTy d = true := h2 ds rfl d (List.mem_of_getElem? hi)
          unfold w_is_term_6
          simp only [wSeq, rIsB, wYes, rInA, rNotInA, wRevT, cRepr, wPar3, wAppPop, wAppPopAt, wLstR1, wLstR2, wcZip, wcSeq, wcR1, wcR2, wcEnum, wfEnum, wfZip, wfEzip, itemsD, wSet, wOp, wVar, wC, wUn, wChain, wAnd, wOr, wNot, wB, wAndT, wOrT, wNotT, wIf, wIfS, wRet, wDrop, wTup, wLst, wEmp, wSl, woNone, woSome, wCB, waNil, waCons, wgName, wgNil, wgCons, wgTup, wAug, wPar, wAsgG, wApp, wExt, wPop, wSetI, wNever, rd, rds, cl, cls, sv, ret, toS, items, rII, rIIC, rPlus, rMinus, rAddI, rTimes, rFdivW, rMod, rPowW, rNeg, rLt, rLe, rGt, rGe, rEqq, rNeq, rIsN, rNotN, rIxD, rSlD, cLen, cTuple, cList, cII, cMin, cMax, cAbs, cInt, List.getElem?_cons_zero, List.getElem?_cons_succ, List.set_cons_zero, List.set_cons_succ, List.replicate, List.cons_append, List.nil_append, Option.some.injEq, Option.map_some, exists_eq_left', exists_eq_left, exists_and_left, exists_const, ite_true, ite_false, if_true, if_false, reduceCtorEq, decide_eq_true_eq, Bool.not_eq_true', Bool.not_eq_true, Bool.false_eq_true, Bool.true_eq_false, false_and, and_false, exists_false, not_true_eq_false, not_false_eq_true, Bool.not_true, Bool.not_false, DV.c.injEq, D.int.injEq, D.bl.injEq, D.tup.injEq, D.lst.injEq, DV.f.injEq, S.val.injEq, S.own.injEq, List.cons.injEq, and_true, true_and, okD_int, okD_bl, eqD_int, eqD_bl, Prod.mk.injEq, and_assoc]
          by_cases hw : w = 0
          · rw [if_pos (by omega)]
            rw [if_pos (.inl hw)] at hj
            simp only [post_is_term, bad hj]
          · rw [if_neg (by omega)]
            refine isi_int hn ?_
            simp only [wSeq, rIsB, wYes, rInA, rNotInA, wRevT, cRepr, wPar3, wAppPop, wAppPopAt, wLstR1, wLstR2, wcZip, wcSeq, wcR1, wcR2, wcEnum, wfEnum, wfZip, wfEzip, itemsD, wSet, wOp, wVar, wC, wUn, wChain, wAnd, wOr, wNot, wB, wAndT, wOrT, wNotT, wIf, wIfS, wRet, wDrop, wTup, wLst, wEmp, wSl, woNone, woSome, wCB, waNil, waCons, wgName, wgNil, wgCons, wgTup, wAug, wPar, wAsgG, wApp, wExt, wPop, wSetI, wNever, rd, rds, cl, cls, sv, ret, toS, items, rII, rIIC, rPlus, rMinus, rAddI, rTimes, rFdivW, rMod, rPowW, rNeg, rLt, rLe, rGt, rGe, rEqq, rNeq, rIsN, rNotN, rIxD, rSlD, cLen, cTuple, cList, cII, cMin, cMax, cAbs, cInt, List.getElem?_cons_zero, List.getElem?_cons_succ, List.set_cons_zero, List.set_cons_succ, List.replicate, List.cons_append, List.nil_append, Option.some.injEq, Option.map_some, exists_eq_left', exists_eq_left, exists_and_left, exists_const, ite_true, ite_false, if_true, if_false, reduceCtorEq, decide_eq_true_eq, Bool.not_eq_true', Bool.not_eq_true, Bool.false_eq_true, Bool.true_eq_false, false_and, and_false, exists_false, not_true_eq_false, not_false_eq_true, Bool.not_true, Bool.not_false, DV.c.injEq, D.int.injEq, D.bl.injEq, D.tup.injEq, D.lst.injEq, DV.f.injEq, S.val.injEq, S.own.injEq, List.cons.injEq, and_true, true_and, okD_int, okD_bl, eqD_int, eqD_bl, Prod.mk.injEq, and_assoc]
            by_cases hg : geM d = true
            · rw [if_neg (by rw [hg]; simp [hw])] at hj
              cases d <;> simp only [geM] at hg <;> try contradiction
              rename_i c
              have hg : -1 ≤ c := by simpa using hg
              simp only [toI] at hj
              simp only [isInt, isV]
              simp only [wSeq, rIsB, wYes, rInA, rNotInA, wRevT, cRepr, wPar3, wAppPop, wAppPopAt, wLstR1, wLstR2, wcZip, wcSeq, wcR1, wcR2, wcEnum, wfEnum, wfZip, wfEzip, itemsD, wSet, wOp, wVar, wC, wUn, wChain, wAnd, wOr, wNot, wB, wAndT, wOrT, wNotT, wIf, wIfS, wRet, wDrop, wTup, wLst, wEmp, wSl, woNone, woSome, wCB, waNil, waCons, wgName, wgNil, wgCons, wgTup, wAug, wPar, wAsgG, wApp, wExt, wPop, wSetI, wNever, rd, rds, cl, cls, sv, ret, toS, items, rII, rIIC, rPlus, rMinus, rAddI, rTimes, rFdivW, rMod, rPowW, rNeg, rLt, rLe, rGt, rGe, rEqq, rNeq, rIsN, rNotN, rIxD, rSlD, cLen, cTuple, cList, cII, cMin, cMax, cAbs, cInt, List.getElem?_cons_zero, List.getElem?_cons_succ, List.set_cons_zero, List.set_cons_succ, List.replicate, List.cons_append, List.nil_append, Option.some.injEq, Option.map_some, exists_eq_left', exists_eq_left, exists_and_left, exists_const, ite_true, ite_false, if_true, if_false, reduceCtorEq, decide_eq_true_eq, Bool.not_eq_true', Bool.not_eq_true, Bool.false_eq_true, Bool.true_eq_false, false_and, and_false, exists_false, not_true_eq_false, not_false_eq_true, Bool.not_true, Bool.not_false, DV.c.injEq, D.int.injEq, D.bl.injEq, D.tup.injEq, D.lst.injEq, DV.f.injEq, S.val.injEq, S.own.injEq, List.cons.injEq, and_true, true_and, okD_int, okD_bl, eqD_int, eqD_bl, Prod.mk.injEq, and_assoc]
              have fin : ∀ {v : Nat} {s : S}, v = up c w → inv_is_term ds (i + 1) [.val (.tup ds), .val (.int v), s] := by
                rintro v s rfl
                exact ⟨_, _, ns ++ [c], rfl, hj, by rw [htk', htk, List.map_append]; rfl⟩
              unfold w_is_term_5 w_is_term_1
              simp only [wSeq, rIsB, wYes, rInA, rNotInA, wRevT, cRepr, wPar3, wAppPop, wAppPopAt, wLstR1, wLstR2, wcZip, wcSeq, wcR1, wcR2, wcEnum, wfEnum, wfZip, wfEzip, itemsD, wSet, wOp, wVar, wC, wUn, wChain, wAnd, wOr, wNot, wB, wAndT, wOrT, wNotT, wIf, wIfS, wRet, wDrop, wTup, wLst, wEmp, wSl, woNone, woSome, wCB, waNil, waCons, wgName, wgNil, wgCons, wgTup, wAug, wPar, wAsgG, wApp, wExt, wPop, wSetI, wNever, rd, rds, cl, cls, sv, ret, toS, items, rII, rIIC, rPlus, rMinus, rAddI, rTimes, rFdivW, rMod, rPowW, rNeg, rLt, rLe, rGt, rGe, rEqq, rNeq, rIsN, rNotN, rIxD, rSlD, cLen, cTuple, cList, cII, cMin, cMax, cAbs, cInt, List.getElem?_cons_zero, List.getElem?_cons_succ, List.set_cons_zero, List.set_cons_succ, List.replicate, List.cons_append, List.nil_append, Option.some.injEq, Option.map_some, exists_eq_left', exists_eq_left, exists_and_left, exists_const, ite_true, ite_false, if_true, if_false, reduceCtorEq, decide_eq_true_eq, Bool.not_eq_true', Bool.not_eq_true, Bool.false_eq_true, Bool.true_eq_false, false_and, and_false, exists_false, not_true_eq_false, not_false_eq_true, Bool.not_true, Bool.not_false, DV.c.injEq, D.int.injEq, D.bl.injEq, D.tup.injEq, D.lst.injEq, DV.f.injEq, S.val.injEq, S.own.injEq, List.cons.injEq, and_true, true_and, okD_int, okD_bl, eqD_int, eqD_bl, Prod.mk.injEq, and_assoc]
              by_cases hc : 0 < c
              · rw [if_pos hc]
                rw [show (w : Int) - 1 = ((w - 1 : Nat) : Int) by omega]
                exact fin (by unfold up; rw [if_neg (by omega), if_pos hc])
              · rw [if_neg hc]
                unfold w_is_term_4 w_is_term_2
                simp only [wSeq, rIsB, wYes, rInA, rNotInA, wRevT, cRepr, wPar3, wAppPop, wAppPopAt, wLstR1, wLstR2, wcZip, wcSeq, wcR1, wcR2, wcEnum, wfEnum, wfZip, wfEzip, itemsD, wSet, wOp, wVar, wC, wUn, wChain, wAnd, wOr, wNot, wB, wAndT, wOrT, wNotT, wIf, wIfS, wRet, wDrop, wTup, wLst, wEmp, wSl, woNone, woSome, wCB, waNil, waCons, wgName, wgNil, wgCons, wgTup, wAug, wPar, wAsgG, wApp, wExt, wPop, wSetI, wNever, rd, rds, cl, cls, sv, ret, toS, items, rII, rIIC, rPlus, rMinus, rAddI, rTimes, rFdivW, rMod, rPowW, rNeg, rLt, rLe, rGt, rGe, rEqq, rNeq, rIsN, rNotN, rIxD, rSlD, cLen, cTuple, cList, cII, cMin, cMax, cAbs, cInt, List.getElem?_cons_zero, List.getElem?_cons_succ, List.set_cons_zero, List.set_cons_succ, List.replicate, List.cons_append, List.nil_append, Option.some.injEq, Option.map_some, exists_eq_left', exists_eq_left, exists_and_left, exists_const, ite_true, ite_false, if_true, if_false, reduceCtorEq, decide_eq_true_eq, Bool.not_eq_true', Bool.not_eq_true, Bool.false_eq_true, Bool.true_eq_false, false_and, and_false, exists_false, not_true_eq_false, not_false_eq_true, Bool.not_true, Bool.not_false, DV.c.injEq, D.int.injEq, D.bl.injEq, D.tup.injEq, D.lst.injEq, DV.f.injEq, S.val.injEq, S.own.injEq, List.cons.injEq, and_true, true_and, okD_int, okD_bl, eqD_int, eqD_bl, Prod.mk.injEq, and_assoc]
                by_cases h0 : c = 0
                · rw [if_pos h0]
                  exact fin (v := w + 1) (by unfold up; rw [if_pos h0])
                · rw [if_neg h0]
                  unfold w_is_term_3
                  simp only [wSeq, rIsB, wYes, rInA, rNotInA, wRevT, cRepr, wPar3, wAppPop, wAppPopAt, wLstR1, wLstR2, wcZip, wcSeq, wcR1, wcR2, wcEnum, wfEnum, wfZip, wfEzip, itemsD, wSet, wOp, wVar, wC, wUn, wChain, wAnd, wOr, wNot, wB, wAndT, wOrT, wNotT, wIf, wIfS, wRet, wDrop, wTup, wLst, wEmp, wSl, woNone, woSome, wCB, waNil, waCons, wgName, wgNil, wgCons, wgTup, wAug, wPar, wAsgG, wApp, wExt, wPop, wSetI, wNever, rd, rds, cl, cls, sv, ret, toS, items, rII, rIIC, rPlus, rMinus, rAddI, rTimes, rFdivW, rMod, rPowW, rNeg, rLt, rLe, rGt, rGe, rEqq, rNeq, rIsN, rNotN, rIxD, rSlD, cLen, cTuple, cList, cII, cMin, cMax, cAbs, cInt, List.getElem?_cons_zero, List.getElem?_cons_succ, List.set_cons_zero, List.set_cons_succ, List.replicate, List.cons_append, List.nil_append, Option.some.injEq, Option.map_some, exists_eq_left', exists_eq_left, exists_and_left, exists_const, ite_true, ite_false, if_true, if_false, reduceCtorEq, decide_eq_true_eq, Bool.not_eq_true', Bool.not_eq_true, Bool.false_eq_true, Bool.true_eq_false, false_and, and_false, exists_false, not_true_eq_false, not_false_eq_true, Bool.not_true, Bool.not_false, DV.c.injEq, D.int.injEq, D.bl.injEq, D.tup.injEq, D.lst.injEq, DV.f.injEq, S.val.injEq, S.own.injEq, List.cons.injEq, and_true, true_and, okD_int, okD_bl, eqD_int, eqD_bl, Prod.mk.injEq, and_assoc]
                  rw [if_neg (by omega)]
                  exact fin (by unfold up; rw [if_neg h0, if_neg hc])
            · have hg : geM d = false := by simpa using hg
              rw [if_pos (.inr hg)] at hj
              have out : isTermD (.tup ds) = false := bad hj
              cases d <;> simp only [noTy] at hn <;> try contradiction
              case int c _ =>
                simp only [geM] at hg
                have hg : ¬ -1 ≤ c := by simpa using hg
                simp only [isInt, isV]
                simp only [wSeq, rIsB, wYes, rInA, rNotInA, wRevT, cRepr, wPar3, wAppPop, wAppPopAt, wLstR1, wLstR2, wcZip, wcSeq, wcR1, wcR2, wcEnum, wfEnum, wfZip, wfEzip, itemsD, wSet, wOp, wVar, wC, wUn, wChain, wAnd, wOr, wNot, wB, wAndT, wOrT, wNotT, wIf, wIfS, wRet, wDrop, wTup, wLst, wEmp, wSl, woNone, woSome, wCB, waNil, waCons, wgName, wgNil, wgCons, wgTup, wAug, wPar, wAsgG, wApp, wExt, wPop, wSetI, wNever, rd, rds, cl, cls, sv, ret, toS, items, rII, rIIC, rPlus, rMinus, rAddI, rTimes, rFdivW, rMod, rPowW, rNeg, rLt, rLe, rGt, rGe, rEqq, rNeq, rIsN, rNotN, rIxD, rSlD, cLen, cTuple, cList, cII, cMin, cMax, cAbs, cInt, List.getElem?_cons_zero, List.getElem?_cons_succ, List.set_cons_zero, List.set_cons_succ, List.replicate, List.cons_append, List.nil_append, Option.some.injEq, Option.map_some, exists_eq_left', exists_eq_left, exists_and_left, exists_const, ite_true, ite_false, if_true, if_false, reduceCtorEq, decide_eq_true_eq, Bool.not_eq_true', Bool.not_eq_true, Bool.false_eq_true, Bool.true_eq_false, false_and, and_false, exists_false, not_true_eq_false, not_false_eq_true, Bool.not_true, Bool.not_false, DV.c.injEq, D.int.injEq, D.bl.injEq, D.tup.injEq, D.lst.injEq, DV.f.injEq, S.val.injEq, S.own.injEq, List.cons.injEq, and_true, true_and, okD_int, okD_bl, eqD_int, eqD_bl, Prod.mk.injEq, and_assoc]
                unfold w_is_term_5
                simp only [wSeq, rIsB, wYes, rInA, rNotInA, wRevT, cRepr, wPar3, wAppPop, wAppPopAt, wLstR1, wLstR2, wcZip, wcSeq, wcR1, wcR2, wcEnum, wfEnum, wfZip, wfEzip, itemsD, wSet, wOp, wVar, wC, wUn, wChain, wAnd, wOr, wNot, wB, wAndT, wOrT, wNotT, wIf, wIfS, wRet, wDrop, wTup, wLst, wEmp, wSl, woNone, woSome, wCB, waNil, waCons, wgName, wgNil, wgCons, wgTup, wAug, wPar, wAsgG, wApp, wExt, wPop, wSetI, wNever, rd, rds, cl, cls, sv, ret, toS, items, rII, rIIC, rPlus, rMinus, rAddI, rTimes, rFdivW, rMod, rPowW, rNeg, rLt, rLe, rGt, rGe, rEqq, rNeq, rIsN, rNotN, rIxD, rSlD, cLen, cTuple, cList, cII, cMin, cMax, cAbs, cInt, List.getElem?_cons_zero, List.getElem?_cons_succ, List.set_cons_zero, List.set_cons_succ, List.replicate, List.cons_append, List.nil_append, Option.some.injEq, Option.map_some, exists_eq_left', exists_eq_left, exists_and_left, exists_const, ite_true, ite_false, if_true, if_false, reduceCtorEq, decide_eq_true_eq, Bool.not_eq_true', Bool.not_eq_true, Bool.false_eq_true, Bool.true_eq_false, false_and, and_false, exists_false, not_true_eq_false, not_false_eq_true, Bool.not_true, Bool.not_false, DV.c.injEq, D.int.injEq, D.bl.injEq, D.tup.injEq, D.lst.injEq, DV.f.injEq, S.val.injEq, S.own.injEq, List.cons.injEq, and_true, true_and, okD_int, okD_bl, eqD_int, eqD_bl, Prod.mk.injEq, and_assoc]
                rw [if_neg (by omega)]
                unfold w_is_term_4
                simp only [wSeq, rIsB, wYes, rInA, rNotInA, wRevT, cRepr, wPar3, wAppPop, wAppPopAt, wLstR1, wLstR2, wcZip, wcSeq, wcR1, wcR2, wcEnum, wfEnum, wfZip, wfEzip, itemsD, wSet, wOp, wVar, wC, wUn, wChain, wAnd, wOr, wNot, wB, wAndT, wOrT, wNotT, wIf, wIfS, wRet, wDrop, wTup, wLst, wEmp, wSl, woNone, woSome, wCB, waNil, waCons, wgName, wgNil, wgCons, wgTup, wAug, wPar, wAsgG, wApp, wExt, wPop, wSetI, wNever, rd, rds, cl, cls, sv, ret, toS, items, rII, rIIC, rPlus, rMinus, rAddI, rTimes, rFdivW, rMod, rPowW, rNeg, rLt, rLe, rGt, rGe, rEqq, rNeq, rIsN, rNotN, rIxD, rSlD, cLen, cTuple, cList, cII, cMin, cMax, cAbs, cInt, List.getElem?_cons_zero, List.getElem?_cons_succ, List.set_cons_zero, List.set_cons_succ, List.replicate, List.cons_append, List.nil_append, Option.some.injEq, Option.map_some, exists_eq_left', exists_eq_left, exists_and_left, exists_const, ite_true, ite_false, if_true, if_false, reduceCtorEq, decide_eq_true_eq, Bool.not_eq_true', Bool.not_eq_true, Bool.false_eq_true, Bool.true_eq_false, false_and, and_false, exists_false, not_true_eq_false, not_false_eq_true, Bool.not_true, Bool.not_false, DV.c.injEq, D.int.injEq, D.bl.injEq, D.tup.injEq, D.lst.injEq, DV.f.injEq, S.val.injEq, S.own.injEq, List.cons.injEq, and_true, true_and, okD_int, okD_bl, eqD_int, eqD_bl, Prod.mk.injEq, and_assoc]
                rw [if_neg (by omega)]
                unfold w_is_term_3
                simp only [wSeq, rIsB, wYes, rInA, rNotInA, wRevT, cRepr, wPar3, wAppPop, wAppPopAt, wLstR1, wLstR2, wcZip, wcSeq, wcR1, wcR2, wcEnum, wfEnum, wfZip, wfEzip, itemsD, wSet, wOp, wVar, wC, wUn, wChain, wAnd, wOr, wNot, wB, wAndT, wOrT, wNotT, wIf, wIfS, wRet, wDrop, wTup, wLst, wEmp, wSl, woNone, woSome, wCB, waNil, waCons, wgName, wgNil, wgCons, wgTup, wAug, wPar, wAsgG, wApp, wExt, wPop, wSetI, wNever, rd, rds, cl, cls, sv, ret, toS, items, rII, rIIC, rPlus, rMinus, rAddI, rTimes, rFdivW, rMod, rPowW, rNeg, rLt, rLe, rGt, rGe, rEqq, rNeq, rIsN, rNotN, rIxD, rSlD, cLen, cTuple, cList, cII, cMin, cMax, cAbs, cInt, List.getElem?_cons_zero, List.getElem?_cons_succ, List.set_cons_zero, List.set_cons_succ, List.replicate, List.cons_append, List.nil_append, Option.some.injEq, Option.map_some, exists_eq_left', exists_eq_left, exists_and_left, exists_const, ite_true, ite_false, if_true, if_false, reduceCtorEq, decide_eq_true_eq, Bool.not_eq_true', Bool.not_eq_true, Bool.false_eq_true, Bool.true_eq_false, false_and, and_false, exists_false, not_true_eq_false, not_false_eq_true, Bool.not_true, Bool.not_false, DV.c.injEq, D.int.injEq, D.bl.injEq, D.tup.injEq, D.lst.injEq, DV.f.injEq, S.val.injEq, S.own.injEq, List.cons.injEq, and_true, true_and, okD_int, okD_bl, eqD_int, eqD_bl, Prod.mk.injEq, and_assoc]
                rw [if_pos (by omega)]
                simp only [post_is_term, out]
              case bl b _ =>
                cases b
                all_goals
                  simp only [isInt, isV]
                  simp only [wSeq, rIsB, wYes, rInA, rNotInA, wRevT, cRepr, wPar3, wAppPop, wAppPopAt, wLstR1, wLstR2, wcZip, wcSeq, wcR1, wcR2, wcEnum, wfEnum, wfZip, wfEzip, itemsD, wSet, wOp, wVar, wC, wUn, wChain, wAnd, wOr, wNot, wB, wAndT, wOrT, wNotT, wIf, wIfS, wRet, wDrop, wTup, wLst, wEmp, wSl, woNone, woSome, wCB, waNil, waCons, wgName, wgNil, wgCons, wgTup, wAug, wPar, wAsgG, wApp, wExt, wPop, wSetI, wNever, rd, rds, cl, cls, sv, ret, toS, items, rII, rIIC, rPlus, rMinus, rAddI, rTimes, rFdivW, rMod, rPowW, rNeg, rLt, rLe, rGt, rGe, rEqq, rNeq, rIsN, rNotN, rIxD, rSlD, cLen, cTuple, cList, cII, cMin, cMax, cAbs, cInt, List.getElem?_cons_zero, List.getElem?_cons_succ, List.set_cons_zero, List.set_cons_succ, List.replicate, List.cons_append, List.nil_append, Option.some.injEq, Option.map_some, exists_eq_left', exists_eq_left, exists_and_left, exists_const, ite_true, ite_false, if_true, if_false, reduceCtorEq, decide_eq_true_eq, Bool.not_eq_true', Bool.not_eq_true, Bool.false_eq_true, Bool.true_eq_false, false_and, and_false, exists_false, not_true_eq_false, not_false_eq_true, Bool.not_true, Bool.not_false, DV.c.injEq, D.int.injEq, D.bl.injEq, D.tup.injEq, D.lst.injEq, DV.f.injEq, S.val.injEq, S.own.injEq, List.cons.injEq, and_true, true_and, okD_int, okD_bl, eqD_int, eqD_bl, Prod.mk.injEq, and_assoc]
                  simp [post_is_term, out]
              all_goals
                simp only [isInt]
                simp only [wSeq, rIsB, wYes, rInA, rNotInA, wRevT, cRepr, wPar3, wAppPop, wAppPopAt, wLstR1, wLstR2, wcZip, wcSeq, wcR1, wcR2, wcEnum, wfEnum, wfZip, wfEzip, itemsD, wSet, wOp, wVar, wC, wUn, wChain, wAnd, wOr, wNot, wB, wAndT, wOrT, wNotT, wIf, wIfS, wRet, wDrop, wTup, wLst, wEmp, wSl, woNone, woSome, wCB, waNil, waCons, wgName, wgNil, wgCons, wgTup, wAug, wPar, wAsgG, wApp, wExt, wPop, wSetI, wNever, rd, rds, cl, cls, sv, ret, toS, items, rII, rIIC, rPlus, rMinus, rAddI, rTimes, rFdivW, rMod, rPowW, rNeg, rLt, rLe, rGt, rGe, rEqq, rNeq, rIsN, rNotN, rIxD, rSlD, cLen, cTuple, cList, cII, cMin, cMax, cAbs, cInt, List.getElem?_cons_zero, List.getElem?_cons_succ, List.set_cons_zero, List.set_cons_succ, List.replicate, List.cons_append, List.nil_append, Option.some.injEq, Option.map_some, exists_eq_left', exists_eq_left, exists_and_left, exists_const, ite_true, ite_false, if_true, if_false, reduceCtorEq, decide_eq_true_eq, Bool.not_eq_true', Bool.not_eq_true, Bool.false_eq_true, Bool.true_eq_false, false_and, and_false, exists_false, not_true_eq_false, not_false_eq_true, Bool.not_true, Bool.not_false, DV.c.injEq, D.int.injEq, D.bl.injEq, D.tup.injEq, D.lst.injEq, DV.f.injEq, S.val.injEq, S.own.injEq, List.cons.injEq, and_true, true_and, okD_int, okD_bl, eqD_int, eqD_bl, Prod.mk.injEq, and_assoc]
                simp only [post_is_term, out]
        · rintro δ ⟨w, s, ns, rfl, hj, htk⟩
          rw [List.take_length] at htk
          rw [List.drop_length, jE] at hj
          unfold w_is_term_7
          simp only [wSeq, rIsB, wYes, rInA, rNotInA, wRevT, cRepr, wPar3, wAppPop, wAppPopAt, wLstR1, wLstR2, wcZip, wcSeq, wcR1, wcR2, wcEnum, wfEnum, wfZip, wfEzip, itemsD, wSet, wOp, wVar, wC, wUn, wChain, wAnd, wOr, wNot, wB, wAndT, wOrT, wNotT, wIf, wIfS, wRet, wDrop, wTup, wLst, wEmp, wSl, woNone, woSome, wCB, waNil, waCons, wgName, wgNil, wgCons, wgTup, wAug, wPar, wAsgG, wApp, wExt, wPop, wSetI, wNever, rd, rds, cl, cls, sv, ret, toS, items, rII, rIIC, rPlus, rMinus, rAddI, rTimes, rFdivW, rMod, rPowW, rNeg, rLt, rLe, rGt, rGe, rEqq, rNeq, rIsN, rNotN, rIxD, rSlD, cLen, cTuple, cList, cII, cMin, cMax, cAbs, cInt, List.getElem?_cons_zero, List.getElem?_cons_succ, List.set_cons_zero, List.set_cons_succ, List.replicate, List.cons_append, List.nil_append, Option.some.injEq, Option.map_some, exists_eq_left', exists_eq_left, exists_and_left, exists_const, ite_true, ite_false, if_true, if_false, reduceCtorEq, decide_eq_true_eq, Bool.not_eq_true', Bool.not_eq_true, Bool.false_eq_true, Bool.true_eq_false, false_and, and_false, exists_false, not_true_eq_false, not_false_eq_true, Bool.not_true, Bool.not_false, DV.c.injEq, D.int.injEq, D.bl.injEq, D.tup.injEq, D.lst.injEq, DV.f.injEq, S.val.injEq, S.own.injEq, List.cons.injEq, and_true, true_and, okD_int, okD_bl, eqD_int, eqD_bl, Prod.mk.injEq, and_assoc]
          by_cases hw : w = 0
          · rw [if_pos (by simpa using hw)]
            have hne : ns ≠ [] := by
              rintro rfl
              have : ds = [] := by simpa using htk
              subst this
              simp [jE] at hj
              omega
            unfold cMax1
            refine ⟨ns, htk, hne, fun m h1 h2 => ?_⟩
            simp only [wSeq, rIsB, wYes, rInA, rNotInA, wRevT, cRepr, wPar3, wAppPop, wAppPopAt, wLstR1, wLstR2, wcZip, wcSeq, wcR1, wcR2, wcEnum, wfEnum, wfZip, wfEzip, itemsD, wSet, wOp, wVar, wC, wUn, wChain, wAnd, wOr, wNot, wB, wAndT, wOrT, wNotT, wIf, wIfS, wRet, wDrop, wTup, wLst, wEmp, wSl, woNone, woSome, wCB, waNil, waCons, wgName, wgNil, wgCons, wgTup, wAug, wPar, wAsgG, wApp, wExt, wPop, wSetI, wNever, rd, rds, cl, cls, sv, ret, toS, items, rII, rIIC, rPlus, rMinus, rAddI, rTimes, rFdivW, rMod, rPowW, rNeg, rLt, rLe, rGt, rGe, rEqq, rNeq, rIsN, rNotN, rIxD, rSlD, cLen, cTuple, cList, cII, cMin, cMax, cAbs, cInt, List.getElem?_cons_zero, List.getElem?_cons_succ, List.set_cons_zero, List.set_cons_succ, List.replicate, List.cons_append, List.nil_append, Option.some.injEq, Option.map_some, exists_eq_left', exists_eq_left, exists_and_left, exists_const, ite_true, ite_false, if_true, if_false, reduceCtorEq, decide_eq_true_eq, Bool.not_eq_true', Bool.not_eq_true, Bool.false_eq_true, Bool.true_eq_false, false_and, and_false, exists_false, not_true_eq_false, not_false_eq_true, Bool.not_true, Bool.not_false, DV.c.injEq, D.int.injEq, D.bl.injEq, D.tup.injEq, D.lst.injEq, DV.f.injEq, S.val.injEq, S.own.injEq, List.cons.injEq, and_true, true_and, okD_int, okD_bl, eqD_int, eqD_bl, Prod.mk.injEq, and_assoc]
            simp only [post_is_term, hjt]
            rw [hj, decide_eq_true hw, Bool.true_and]
            congr 3
            rw [htk, List.all_map]
            by_cases hm : m ≤ 1000
            · rw [decide_eq_true (show m ≤ c_MAX_VARIABLE from hm), List.all_eq_true.mpr]
              intro x hx
              have := h2 x hx
              show decide (x ≤ 1000) = true
              simp; omega
            · rw [decide_eq_false (show ¬ m ≤ c_MAX_VARIABLE from hm), eq_comm, List.all_eq_false]
              exact ⟨m, h1, by show ¬ decide (m ≤ 1000) = true; simpa using hm⟩
          · rw [if_neg (by simpa using hw)]
            have : jE 1 ds = false := by rw [hj]; simp [hw]
            simp only [post_is_term, bad this]
    | _ =>
      simp only [isTup]
      (try simp only [wSeq, rIsB, wYes, rInA, rNotInA, wRevT, cRepr, wPar3, wAppPop, wAppPopAt, wLstR1, wLstR2, wcZip, wcSeq, wcR1, wcR2, wcEnum, wfEnum, wfZip, wfEzip, itemsD, wSet, wOp, wVar, wC, wUn, wChain, wAnd, wOr, wNot, wB, wAndT, wOrT, wNotT, wIf, wIfS, wRet, wDrop, wTup, wLst, wEmp, wSl, woNone, woSome, wCB, waNil, waCons, wgName, wgNil, wgCons, wgTup, wAug, wPar, wAsgG, wApp, wExt, wPop, wSetI, wNever, rd, rds, cl, cls, sv, ret, toS, items, rII, rIIC, rPlus, rMinus, rAddI, rTimes, rFdivW, rMod, rPowW, rNeg, rLt, rLe, rGt, rGe, rEqq, rNeq, rIsN, rNotN, rIxD, rSlD, cLen, cTuple, cList, cII, cMin, cMax, cAbs, cInt, List.getElem?_cons_zero, List.getElem?_cons_succ, List.set_cons_zero, List.set_cons_succ, List.replicate, List.cons_append, List.nil_append, Option.some.injEq, Option.map_some, exists_eq_left', exists_eq_left, exists_and_left, exists_const, ite_true, ite_false, if_true, if_false, reduceCtorEq, decide_eq_true_eq, Bool.not_eq_true', Bool.not_eq_true, Bool.false_eq_true, Bool.true_eq_false, false_and, and_false, exists_false, not_true_eq_false, not_false_eq_true, Bool.not_true, Bool.not_false, DV.c.injEq, D.int.injEq, D.bl.injEq, D.tup.injEq, D.lst.injEq, DV.f.injEq, S.val.injEq, S.own.injEq, List.cons.injEq, and_true, true_and, okD_int, okD_bl, eqD_int, eqD_bl, Prod.mk.injEq, and_assoc])
      simp only [post_is_term, isTermD]
  · exact hp.elim
theorem up_ge {c : Int} {w : Nat} : True := trivial
theorem jD_ints : ∀ {ns : List Int} {w : Nat}, (∀ c ∈ ns, -1 ≤ c ∧ c ≤ 1000) → jD w (ns.map .int) = jI w ns
  | [], w, _ => by rw [List.map_nil, jD, jI]; cases w <;> rfl
  | c :: r, w, h => by
    have hc := h c List.mem_cons_self
    have hw : within (.int c) (-1) 1000 = true := by
      unfold within
      simp [WE]; omega
    rw [List.map_cons, jD, jI, hw]
    by_cases h0 : w = 0
    · rw [if_pos (.inl h0), if_pos h0]
    · rw [if_neg (by simp [h0]), if_neg h0]
      exact jD_ints fun c hc => h c (List.mem_cons_of_mem _ hc)
theorem term_of {ns : List Int} (t : Tm ns) : isTermD (tI ns) = true := by
  unfold isTermD
  simp only [List.length_map]
  rw [jD_ints t.rng, t.jd, decide_eq_true t.len]
  rfl
theorem okVal_ints (ns : List Int) : okVal (tI ns) := ⟨rfl, fun ds h x hx => by
  cases h
  obtain ⟨c, _, rfl⟩ := List.mem_map.mp hx
  rfl⟩
/-! ### checks, ends and parts of terms -/
def isTm : List S → Prop
  | [.val d] => ∃ ns, d = tI ns ∧ Tm ns
  | _ => False
def pre_check_term : List S → Prop := isTm
def post_check_term : List S → DV → Prop := fun _ r => r = .c .non
def w_check_term : DS := wIfS (wNotT (wB (wCall 1 pre_is_term post_is_term (waCons (wVar 0) (waNil))))) (wNever) ((fun R δ => R.nx δ))
theorem goal_check_term : Goal w_check_term ["term"] 1 pre_check_term post_check_term := by
  intro xs hl hp
  unfold pre_check_term isTm at hp
  split at hp
  · rename_i d
    obtain ⟨ns, rfl, t⟩ := hp
    unfold w_check_term
    simp only [wSeq, rIsB, wYes, rInA, rNotInA, wRevT, cRepr, wPar3, wAppPop, wAppPopAt, wLstR1, wLstR2, wcZip, wcSeq, wcR1, wcR2, wcEnum, wfEnum, wfZip, wfEzip, itemsD, wSet, wOp, wVar, wC, wUn, wChain, wAnd, wOr, wNot, wB, wAndT, wOrT, wNotT, wIf, wIfS, wRet, wDrop, wTup, wLst, wEmp, wSl, woNone, woSome, wCB, waNil, waCons, wgName, wgNil, wgCons, wgTup, wAug, wPar, wAsgG, wApp, wExt, wPop, wSetI, wNever, rd, rds, cl, cls, sv, ret, toS, items, rII, rIIC, rPlus, rMinus, rAddI, rTimes, rFdivW, rMod, rPowW, rNeg, rLt, rLe, rGt, rGe, rEqq, rNeq, rIsN, rNotN, rIxD, rSlD, cLen, cTuple, cList, cII, cMin, cMax, cAbs, cInt, List.getElem?_cons_zero, List.getElem?_cons_succ, List.set_cons_zero, List.set_cons_succ, List.replicate, List.cons_append, List.nil_append, Option.some.injEq, Option.map_some, exists_eq_left', exists_eq_left, exists_and_left, exists_const, ite_true, ite_false, if_true, if_false, reduceCtorEq, decide_eq_true_eq, Bool.not_eq_true', Bool.not_eq_true, Bool.false_eq_true, Bool.true_eq_false, false_and, and_false, exists_false, not_true_eq_false, not_false_eq_true, Bool.not_true, Bool.not_false, DV.c.injEq, D.int.injEq, D.bl.injEq, D.tup.injEq, D.lst.injEq, DV.f.injEq, S.val.injEq, S.own.injEq, List.cons.injEq, and_true, true_and, okD_int, okD_bl, eqD_int, eqD_bl, Prod.mk.injEq, and_assoc]
    simp only [wCall]
    (try simp only [wSeq, rIsB, wYes, rInA, rNotInA, wRevT, cRepr, wPar3, wAppPop, wAppPopAt, wLstR1, wLstR2, wcZip, wcSeq, wcR1, wcR2, wcEnum, wfEnum, wfZip, wfEzip, itemsD, wSet, wOp, wVar, wC, wUn, wChain, wAnd, wOr, wNot, wB, wAndT, wOrT, wNotT, wIf, wIfS, wRet, wDrop, wTup, wLst, wEmp, wSl, woNone, woSome, wCB, waNil, waCons, wgName, wgNil, wgCons, wgTup, wAug, wPar, wAsgG, wApp, wExt, wPop, wSetI, wNever, rd, rds, cl, cls, sv, ret, toS, items, rII, rIIC, rPlus, rMinus, rAddI, rTimes, rFdivW, rMod, rPowW, rNeg, rLt, rLe, rGt, rGe, rEqq, rNeq, rIsN, rNotN, rIxD, rSlD, cLen, cTuple, cList, cII, cMin, cMax, cAbs, cInt, List.getElem?_cons_zero, List.getElem?_cons_succ, List.set_cons_zero, List.set_cons_succ, List.replicate, List.cons_append, List.nil_append, Option.some.injEq, Option.map_some, exists_eq_left', exists_eq_left, exists_and_left, exists_const, ite_true, ite_false, if_true, if_false, reduceCtorEq, decide_eq_true_eq, Bool.not_eq_true', Bool.not_eq_true, Bool.false_eq_true, Bool.true_eq_false, false_and, and_false, exists_false, not_true_eq_false, not_false_eq_true, Bool.not_true, Bool.not_false, DV.c.injEq, D.int.injEq, D.bl.injEq, D.tup.injEq, D.lst.injEq, DV.f.injEq, S.val.injEq, S.own.injEq, List.cons.injEq, and_true, true_and, okD_int, okD_bl, eqD_int, eqD_bl, Prod.mk.injEq, and_assoc])
    refine call_one (x := .bl true) rfl (okVal_ints ns) (fun r q => by rw [← term_of t]; exact q) ?_
    (try simp only [wSeq, rIsB, wYes, rInA, rNotInA, wRevT, cRepr, wPar3, wAppPop, wAppPopAt, wLstR1, wLstR2, wcZip, wcSeq, wcR1, wcR2, wcEnum, wfEnum, wfZip, wfEzip, itemsD, wSet, wOp, wVar, wC, wUn, wChain, wAnd, wOr, wNot, wB, wAndT, wOrT, wNotT, wIf, wIfS, wRet, wDrop, wTup, wLst, wEmp, wSl, woNone, woSome, wCB, waNil, waCons, wgName, wgNil, wgCons, wgTup, wAug, wPar, wAsgG, wApp, wExt, wPop, wSetI, wNever, rd, rds, cl, cls, sv, ret, toS, items, rII, rIIC, rPlus, rMinus, rAddI, rTimes, rFdivW, rMod, rPowW, rNeg, rLt, rLe, rGt, rGe, rEqq, rNeq, rIsN, rNotN, rIxD, rSlD, cLen, cTuple, cList, cII, cMin, cMax, cAbs, cInt, List.getElem?_cons_zero, List.getElem?_cons_succ, List.set_cons_zero, List.set_cons_succ, List.replicate, List.cons_append, List.nil_append, Option.some.injEq, Option.map_some, exists_eq_left', exists_eq_left, exists_and_left, exists_const, ite_true, ite_false, if_true, if_false, reduceCtorEq, decide_eq_true_eq, Bool.not_eq_true', Bool.not_eq_true, Bool.false_eq_true, Bool.true_eq_false, false_and, and_false, exists_false, not_true_eq_false, not_false_eq_true, Bool.not_true, Bool.not_false, DV.c.injEq, D.int.injEq, D.bl.injEq, D.tup.injEq, D.lst.injEq, DV.f.injEq, S.val.injEq, S.own.injEq, List.cons.injEq, and_true, true_and, okD_int, okD_bl, eqD_int, eqD_bl, Prod.mk.injEq, and_assoc])
    simp only [post_check_term]
  · exact hp.elim
def pre_check_place : List S → Prop
  | [.val d, .val (.int p)] => ∃ (ns : List Int) (k : Nat), d = tI ns ∧ p = k ∧ k < ns.length ∧ ns.length ≤ 1000
  | _ => False
def post_check_place : List S → DV → Prop := fun _ r => r = .c .non
def w_check_place : DS := wIfS (wNotT (wB (wCall 3 pre_is_whole_within post_is_whole_within (waCons (wVar 1) (waCons (wC (.int 0)) (waCons (wOp rMinus (wCB cLen (waCons (wVar 0) (waNil))) (wC (.int 1))) (waNil))))))) (wNever) ((fun R δ => R.nx δ))
theorem goal_check_place : Goal w_check_place ["term", "place"] 2 pre_check_place post_check_place := by
  intro xs hl hp
  unfold pre_check_place at hp
  split at hp
  · rename_i d p
    obtain ⟨ns, k, rfl, rfl, hk, hz⟩ := hp
    unfold w_check_place
    simp only [wSeq, rIsB, wYes, rInA, rNotInA, wRevT, cRepr, wPar3, wAppPop, wAppPopAt, wLstR1, wLstR2, wcZip, wcSeq, wcR1, wcR2, wcEnum, wfEnum, wfZip, wfEzip, itemsD, wSet, wOp, wVar, wC, wUn, wChain, wAnd, wOr, wNot, wB, wAndT, wOrT, wNotT, wIf, wIfS, wRet, wDrop, wTup, wLst, wEmp, wSl, woNone, woSome, wCB, waNil, waCons, wgName, wgNil, wgCons, wgTup, wAug, wPar, wAsgG, wApp, wExt, wPop, wSetI, wNever, rd, rds, cl, cls, sv, ret, toS, items, rII, rIIC, rPlus, rMinus, rAddI, rTimes, rFdivW, rMod, rPowW, rNeg, rLt, rLe, rGt, rGe, rEqq, rNeq, rIsN, rNotN, rIxD, rSlD, cLen, cTuple, cList, cII, cMin, cMax, cAbs, cInt, List.getElem?_cons_zero, List.getElem?_cons_succ, List.set_cons_zero, List.set_cons_succ, List.replicate, List.cons_append, List.nil_append, Option.some.injEq, Option.map_some, exists_eq_left', exists_eq_left, exists_and_left, exists_const, ite_true, ite_false, if_true, if_false, reduceCtorEq, decide_eq_true_eq, Bool.not_eq_true', Bool.not_eq_true, Bool.false_eq_true, Bool.true_eq_false, false_and, and_false, exists_false, not_true_eq_false, not_false_eq_true, Bool.not_true, Bool.not_false, DV.c.injEq, D.int.injEq, D.bl.injEq, D.tup.injEq, D.lst.injEq, DV.f.injEq, S.val.injEq, S.own.injEq, List.cons.injEq, and_true, true_and, okD_int, okD_bl, eqD_int, eqD_bl, Prod.mk.injEq, and_assoc]
    simp only [wCall]
    (try simp only [wSeq, rIsB, wYes, rInA, rNotInA, wRevT, cRepr, wPar3, wAppPop, wAppPopAt, wLstR1, wLstR2, wcZip, wcSeq, wcR1, wcR2, wcEnum, wfEnum, wfZip, wfEzip, itemsD, wSet, wOp, wVar, wC, wUn, wChain, wAnd, wOr, wNot, wB, wAndT, wOrT, wNotT, wIf, wIfS, wRet, wDrop, wTup, wLst, wEmp, wSl, woNone, woSome, wCB, waNil, waCons, wgName, wgNil, wgCons, wgTup, wAug, wPar, wAsgG, wApp, wExt, wPop, wSetI, wNever, rd, rds, cl, cls, sv, ret, toS, items, rII, rIIC, rPlus, rMinus, rAddI, rTimes, rFdivW, rMod, rPowW, rNeg, rLt, rLe, rGt, rGe, rEqq, rNeq, rIsN, rNotN, rIxD, rSlD, cLen, cTuple, cList, cII, cMin, cMax, cAbs, cInt, List.getElem?_cons_zero, List.getElem?_cons_succ, List.set_cons_zero, List.set_cons_succ, List.replicate, List.cons_append, List.nil_append, Option.some.injEq, Option.map_some, exists_eq_left', exists_eq_left, exists_and_left, exists_const, ite_true, ite_false, if_true, if_false, reduceCtorEq, decide_eq_true_eq, Bool.not_eq_true', Bool.not_eq_true, Bool.false_eq_true, Bool.true_eq_false, false_and, and_false, exists_false, not_true_eq_false, not_false_eq_true, Bool.not_true, Bool.not_false, DV.c.injEq, D.int.injEq, D.bl.injEq, D.tup.injEq, D.lst.injEq, DV.f.injEq, S.val.injEq, S.own.injEq, List.cons.injEq, and_true, true_and, okD_int, okD_bl, eqD_int, eqD_bl, Prod.mk.injEq, and_assoc])
    refine call_one (x := .bl true) rfl rfl (fun r q => ?_) ?_
    · have q : r = .c (.bl (within (.int (k : Int)) 0 ((((ns.map D.int).length : Nat) : Int) - 1))) := q
      rw [q]
      unfold within
      simp [WE]; omega
    · (try simp only [wSeq, rIsB, wYes, rInA, rNotInA, wRevT, cRepr, wPar3, wAppPop, wAppPopAt, wLstR1, wLstR2, wcZip, wcSeq, wcR1, wcR2, wcEnum, wfEnum, wfZip, wfEzip, itemsD, wSet, wOp, wVar, wC, wUn, wChain, wAnd, wOr, wNot, wB, wAndT, wOrT, wNotT, wIf, wIfS, wRet, wDrop, wTup, wLst, wEmp, wSl, woNone, woSome, wCB, waNil, waCons, wgName, wgNil, wgCons, wgTup, wAug, wPar, wAsgG, wApp, wExt, wPop, wSetI, wNever, rd, rds, cl, cls, sv, ret, toS, items, rII, rIIC, rPlus, rMinus, rAddI, rTimes, rFdivW, rMod, rPowW, rNeg, rLt, rLe, rGt, rGe, rEqq, rNeq, rIsN, rNotN, rIxD, rSlD, cLen, cTuple, cList, cII, cMin, cMax, cAbs, cInt, List.getElem?_cons_zero, List.getElem?_cons_succ, List.set_cons_zero, List.set_cons_succ, List.replicate, List.cons_append, List.nil_append, Option.some.injEq, Option.map_some, exists_eq_left', exists_eq_left, exists_and_left, exists_const, ite_true, ite_false, if_true, if_false, reduceCtorEq, decide_eq_true_eq, Bool.not_eq_true', Bool.not_eq_true, Bool.false_eq_true, Bool.true_eq_false, false_and, and_false, exists_false, not_true_eq_false, not_false_eq_true, Bool.not_true, Bool.not_false, DV.c.injEq, D.int.injEq, D.bl.injEq, D.tup.injEq, D.lst.injEq, DV.f.injEq, S.val.injEq, S.own.injEq, List.cons.injEq, and_true, true_and, okD_int, okD_bl, eqD_int, eqD_bl, Prod.mk.injEq, and_assoc])
      simp only [post_check_place]
  · exact hp.elim
/-- a term and the place of a part -/
def isTp : List S → Prop
  | [.val d, .val (.int p)] => ∃ (ns : List Int) (k : Nat), d = tI ns ∧ p = k ∧ Tm ns ∧ k < ns.length
  | _ => False
def pre_part_end : List S → Prop := isTp
def post_part_end : List S → DV → Prop
  | [.val t, .val (.int p)], r => r = .c (.int (p + sz (unI t) p.toNat))
  | _, _ => False
def w_part_end : DS := wSeq (wDrop (wCall 1 pre_check_term post_check_term (waCons (wVar 0) (waNil)))) (wSeq (wDrop (wCall 2 pre_check_place post_check_place (waCons (wVar 0) (waCons (wVar 1) (waNil))))) (wRet (wCall 2 pre_end_behind post_end_behind (waCons (wVar 0) (waCons (wVar 1) (waNil))))))
theorem goal_part_end : Goal w_part_end ["term", "place"] 2 pre_part_end post_part_end := by
  intro xs hl hp
  unfold pre_part_end isTp at hp
  split at hp
  · rename_i d p
    obtain ⟨ns, k, rfl, rfl, t, hk⟩ := hp
    have hz := t.len
    obtain ⟨n, hn, _⟩ := part_at t.jd hk
    unfold w_part_end
    simp only [wSeq, rIsB, wYes, rInA, rNotInA, wRevT, cRepr, wPar3, wAppPop, wAppPopAt, wLstR1, wLstR2, wcZip, wcSeq, wcR1, wcR2, wcEnum, wfEnum, wfZip, wfEzip, itemsD, wSet, wOp, wVar, wC, wUn, wChain, wAnd, wOr, wNot, wB, wAndT, wOrT, wNotT, wIf, wIfS, wRet, wDrop, wTup, wLst, wEmp, wSl, woNone, woSome, wCB, waNil, waCons, wgName, wgNil, wgCons, wgTup, wAug, wPar, wAsgG, wApp, wExt, wPop, wSetI, wNever, rd, rds, cl, cls, sv, ret, toS, items, rII, rIIC, rPlus, rMinus, rAddI, rTimes, rFdivW, rMod, rPowW, rNeg, rLt, rLe, rGt, rGe, rEqq, rNeq, rIsN, rNotN, rIxD, rSlD, cLen, cTuple, cList, cII, cMin, cMax, cAbs, cInt, List.getElem?_cons_zero, List.getElem?_cons_succ, List.set_cons_zero, List.set_cons_succ, List.replicate, List.cons_append, List.nil_append, Option.some.injEq, Option.map_some, exists_eq_left', exists_eq_left, exists_and_left, exists_const, ite_true, ite_false, if_true, if_false, reduceCtorEq, decide_eq_true_eq, Bool.not_eq_true', Bool.not_eq_true, Bool.false_eq_true, Bool.true_eq_false, false_and, and_false, exists_false, not_true_eq_false, not_false_eq_true, Bool.not_true, Bool.not_false, DV.c.injEq, D.int.injEq, D.bl.injEq, D.tup.injEq, D.lst.injEq, DV.f.injEq, S.val.injEq, S.own.injEq, List.cons.injEq, and_true, true_and, okD_int, okD_bl, eqD_int, eqD_bl, Prod.mk.injEq, and_assoc]
    simp only [wCall]
    (try simp only [wSeq, rIsB, wYes, rInA, rNotInA, wRevT, cRepr, wPar3, wAppPop, wAppPopAt, wLstR1, wLstR2, wcZip, wcSeq, wcR1, wcR2, wcEnum, wfEnum, wfZip, wfEzip, itemsD, wSet, wOp, wVar, wC, wUn, wChain, wAnd, wOr, wNot, wB, wAndT, wOrT, wNotT, wIf, wIfS, wRet, wDrop, wTup, wLst, wEmp, wSl, woNone, woSome, wCB, waNil, waCons, wgName, wgNil, wgCons, wgTup, wAug, wPar, wAsgG, wApp, wExt, wPop, wSetI, wNever, rd, rds, cl, cls, sv, ret, toS, items, rII, rIIC, rPlus, rMinus, rAddI, rTimes, rFdivW, rMod, rPowW, rNeg, rLt, rLe, rGt, rGe, rEqq, rNeq, rIsN, rNotN, rIxD, rSlD, cLen, cTuple, cList, cII, cMin, cMax, cAbs, cInt, List.getElem?_cons_zero, List.getElem?_cons_succ, List.set_cons_zero, List.set_cons_succ, List.replicate, List.cons_append, List.nil_append, Option.some.injEq, Option.map_some, exists_eq_left', exists_eq_left, exists_and_left, exists_const, ite_true, ite_false, if_true, if_false, reduceCtorEq, decide_eq_true_eq, Bool.not_eq_true', Bool.not_eq_true, Bool.false_eq_true, Bool.true_eq_false, false_and, and_false, exists_false, not_true_eq_false, not_false_eq_true, Bool.not_true, Bool.not_false, DV.c.injEq, D.int.injEq, D.bl.injEq, D.tup.injEq, D.lst.injEq, DV.f.injEq, S.val.injEq, S.own.injEq, List.cons.injEq, and_true, true_and, okD_int, okD_bl, eqD_int, eqD_bl, Prod.mk.injEq, and_assoc])
    refine call_one (x := .non) rfl ⟨ns, rfl, t⟩ (fun r q => q) ?_
    refine call_one (x := .non) rfl ⟨ns, k, rfl, rfl, hk, by omega⟩ (fun r q => q) ?_
    refine call_one (x := .int (k + sz ns k)) rfl ⟨ns, k, n, rfl, rfl, hn⟩ (fun r q => ?_) ?_
    · simpa only [post_end_behind, unI_tI, Int.toNat_natCast] using q
    · (try simp only [wSeq, rIsB, wYes, rInA, rNotInA, wRevT, cRepr, wPar3, wAppPop, wAppPopAt, wLstR1, wLstR2, wcZip, wcSeq, wcR1, wcR2, wcEnum, wfEnum, wfZip, wfEzip, itemsD, wSet, wOp, wVar, wC, wUn, wChain, wAnd, wOr, wNot, wB, wAndT, wOrT, wNotT, wIf, wIfS, wRet, wDrop, wTup, wLst, wEmp, wSl, woNone, woSome, wCB, waNil, waCons, wgName, wgNil, wgCons, wgTup, wAug, wPar, wAsgG, wApp, wExt, wPop, wSetI, wNever, rd, rds, cl, cls, sv, ret, toS, items, rII, rIIC, rPlus, rMinus, rAddI, rTimes, rFdivW, rMod, rPowW, rNeg, rLt, rLe, rGt, rGe, rEqq, rNeq, rIsN, rNotN, rIxD, rSlD, cLen, cTuple, cList, cII, cMin, cMax, cAbs, cInt, List.getElem?_cons_zero, List.getElem?_cons_succ, List.set_cons_zero, List.set_cons_succ, List.replicate, List.cons_append, List.nil_append, Option.some.injEq, Option.map_some, exists_eq_left', exists_eq_left, exists_and_left, exists_const, ite_true, ite_false, if_true, if_false, reduceCtorEq, decide_eq_true_eq, Bool.not_eq_true', Bool.not_eq_true, Bool.false_eq_true, Bool.true_eq_false, false_and, and_false, exists_false, not_true_eq_false, not_false_eq_true, Bool.not_true, Bool.not_false, DV.c.injEq, D.int.injEq, D.bl.injEq, D.tup.injEq, D.lst.injEq, DV.f.injEq, S.val.injEq, S.own.injEq, List.cons.injEq, and_true, true_and, okD_int, okD_bl, eqD_int, eqD_bl, Prod.mk.injEq, and_assoc])
      simp only [post_part_end, unI_tI, Int.toNat_natCast]
  · exact hp.elim
def pre_part_of : List S → Prop := isTp
def post_part_of : List S → DV → Prop
  | [.val t, .val (.int p)], r => r = .c (tI (((unI t).drop p.toNat).take (sz (unI t) p.toNat)))
  | _, _ => False
def w_part_of : DS := wSeq (wDrop (wCall 1 pre_check_term post_check_term (waCons (wVar 0) (waNil)))) (wSeq (wDrop (wCall 2 pre_check_place post_check_place (waCons (wVar 0) (waCons (wVar 1) (waNil))))) (wRet (wSl (wVar 0) (woSome (wVar 1)) (woSome (wCall 2 pre_end_behind post_end_behind (waCons (wVar 0) (waCons (wVar 1) (waNil))))))))
theorem goal_part_of : Goal w_part_of ["term", "place"] 2 pre_part_of post_part_of := by
  intro xs hl hp
  unfold pre_part_of isTp at hp
  split at hp
  · rename_i d p
    obtain ⟨ns, k, rfl, rfl, t, hk⟩ := hp
    have hz := t.len
    obtain ⟨n, hn, h0, hle, _⟩ := part_at t.jd hk
    have hsz : sz ns k = n := by unfold sz; rw [hn]; rfl
    unfold w_part_of
    simp only [wSeq, rIsB, wYes, rInA, rNotInA, wRevT, cRepr, wPar3, wAppPop, wAppPopAt, wLstR1, wLstR2, wcZip, wcSeq, wcR1, wcR2, wcEnum, wfEnum, wfZip, wfEzip, itemsD, wSet, wOp, wVar, wC, wUn, wChain, wAnd, wOr, wNot, wB, wAndT, wOrT, wNotT, wIf, wIfS, wRet, wDrop, wTup, wLst, wEmp, wSl, woNone, woSome, wCB, waNil, waCons, wgName, wgNil, wgCons, wgTup, wAug, wPar, wAsgG, wApp, wExt, wPop, wSetI, wNever, rd, rds, cl, cls, sv, ret, toS, items, rII, rIIC, rPlus, rMinus, rAddI, rTimes, rFdivW, rMod, rPowW, rNeg, rLt, rLe, rGt, rGe, rEqq, rNeq, rIsN, rNotN, rIxD, rSlD, cLen, cTuple, cList, cII, cMin, cMax, cAbs, cInt, List.getElem?_cons_zero, List.getElem?_cons_succ, List.set_cons_zero, List.set_cons_succ, List.replicate, List.cons_append, List.nil_append, Option.some.injEq, Option.map_some, exists_eq_left', exists_eq_left, exists_and_left, exists_const, ite_true, ite_false, if_true, if_false, reduceCtorEq, decide_eq_true_eq, Bool.not_eq_true', Bool.not_eq_true, Bool.false_eq_true, Bool.true_eq_false, false_and, and_false, exists_false, not_true_eq_false, not_false_eq_true, Bool.not_true, Bool.not_false, DV.c.injEq, D.int.injEq, D.bl.injEq, D.tup.injEq, D.lst.injEq, DV.f.injEq, S.val.injEq, S.own.injEq, List.cons.injEq, and_true, true_and, okD_int, okD_bl, eqD_int, eqD_bl, Prod.mk.injEq, and_assoc]
    simp only [wCall]
    (try simp only [wSeq, rIsB, wYes, rInA, rNotInA, wRevT, cRepr, wPar3, wAppPop, wAppPopAt, wLstR1, wLstR2, wcZip, wcSeq, wcR1, wcR2, wcEnum, wfEnum, wfZip, wfEzip, itemsD, wSet, wOp, wVar, wC, wUn, wChain, wAnd, wOr, wNot, wB, wAndT, wOrT, wNotT, wIf, wIfS, wRet, wDrop, wTup, wLst, wEmp, wSl, woNone, woSome, wCB, waNil, waCons, wgName, wgNil, wgCons, wgTup, wAug, wPar, wAsgG, wApp, wExt, wPop, wSetI, wNever, rd, rds, cl, cls, sv, ret, toS, items, rII, rIIC, rPlus, rMinus, rAddI, rTimes, rFdivW, rMod, rPowW, rNeg, rLt, rLe, rGt, rGe, rEqq, rNeq, rIsN, rNotN, rIxD, rSlD, cLen, cTuple, cList, cII, cMin, cMax, cAbs, cInt, List.getElem?_cons_zero, List.getElem?_cons_succ, List.set_cons_zero, List.set_cons_succ, List.replicate, List.cons_append, List.nil_append, Option.some.injEq, Option.map_some, exists_eq_left', exists_eq_left, exists_and_left, exists_const, ite_true, ite_false, if_true, if_false, reduceCtorEq, decide_eq_true_eq, Bool.not_eq_true', Bool.not_eq_true, Bool.false_eq_true, Bool.true_eq_false, false_and, and_false, exists_false, not_true_eq_false, not_false_eq_true, Bool.not_true, Bool.not_false, DV.c.injEq, D.int.injEq, D.bl.injEq, D.tup.injEq, D.lst.injEq, DV.f.injEq, S.val.injEq, S.own.injEq, List.cons.injEq, and_true, true_and, okD_int, okD_bl, eqD_int, eqD_bl, Prod.mk.injEq, and_assoc])
    refine call_one (x := .non) rfl ⟨ns, rfl, t⟩ (fun r q => q) ?_
    refine call_one (x := .non) rfl ⟨ns, k, rfl, rfl, hk, by omega⟩ (fun r q => q) ?_
    refine call_one (x := .int (k + sz ns k)) rfl ⟨ns, k, n, rfl, rfl, hn⟩ (fun r q => ?_) ?_
    · simpa only [post_end_behind, unI_tI, Int.toNat_natCast] using q
    · (try simp only [wSeq, rIsB, wYes, rInA, rNotInA, wRevT, cRepr, wPar3, wAppPop, wAppPopAt, wLstR1, wLstR2, wcZip, wcSeq, wcR1, wcR2, wcEnum, wfEnum, wfZip, wfEzip, itemsD, wSet, wOp, wVar, wC, wUn, wChain, wAnd, wOr, wNot, wB, wAndT, wOrT, wNotT, wIf, wIfS, wRet, wDrop, wTup, wLst, wEmp, wSl, woNone, woSome, wCB, waNil, waCons, wgName, wgNil, wgCons, wgTup, wAug, wPar, wAsgG, wApp, wExt, wPop, wSetI, wNever, rd, rds, cl, cls, sv, ret, toS, items, rII, rIIC, rPlus, rMinus, rAddI, rTimes, rFdivW, rMod, rPowW, rNeg, rLt, rLe, rGt, rGe, rEqq, rNeq, rIsN, rNotN, rIxD, rSlD, cLen, cTuple, cList, cII, cMin, cMax, cAbs, cInt, List.getElem?_cons_zero, List.getElem?_cons_succ, List.set_cons_zero, List.set_cons_succ, List.replicate, List.cons_append, List.nil_append, Option.some.injEq, Option.map_some, exists_eq_left', exists_eq_left, exists_and_left, exists_const, ite_true, ite_false, if_true, if_false, reduceCtorEq, decide_eq_true_eq, Bool.not_eq_true', Bool.not_eq_true, Bool.false_eq_true, Bool.true_eq_false, false_and, and_false, exists_false, not_true_eq_false, not_false_eq_true, Bool.not_true, Bool.not_false, DV.c.injEq, D.int.injEq, D.bl.injEq, D.tup.injEq, D.lst.injEq, DV.f.injEq, S.val.injEq, S.own.injEq, List.cons.injEq, and_true, true_and, okD_int, okD_bl, eqD_int, eqD_bl, Prod.mk.injEq, and_assoc])
      simp only [post_part_of, unI_tI, Int.toNat_natCast, hsz]
      congr 1
      rw [cutD_map]
      have e1 : HT.sIx ns.length 0 (some (k : Int)) = k := by rw [HT.sIx_nat]; omega
      have e2 : HT.sIx ns.length ns.length (some ((k : Int) + (n : Int))) = k + n := by
        rw [show (k : Int) + (n : Int) = ((k + n : Nat) : Int) by omega, HT.sIx_nat]
        omega
      rw [e1, e2]
      congr 3
      omega
  · exact hp.elim
end Dl
namespace Dl
open PySem L2 Km
/-! ### the law's own defs: what they are asked and what they tell -/
def pre__law_roll : List S → Prop
  | [.dice, .val (.int n)] => 0 < n ∧ n ≤ 1000000
  | _ => False
def post__law_roll : List S → DV → Prop
  | [.dice, .val (.int n)], r => ∃ i : Int, 0 ≤ i ∧ i < n ∧ r = .c (.int i)
  | _, _ => False
def pre__law_dice : List S → Prop
  | [.val (.frl ds), .val (.int k)] => ∃ ns : List Int, ds = ns.map .int ∧ ns.length ≤ 63 ∧ 0 ≤ k ∧ k ≤ 100
  | _ => False
def post__law_dice : List S → DV → Prop := fun _ r => ∃ l m c : Int, 0 ≤ l ∧ r = .f [.int l, .int m, .int c]
def pre__law_ends : List S → Prop := isTm
def post__law_ends : List S → DV → Prop
  | [.val t], r => r = .f ((List.range (unI t).length).map fun k => .int ((k + sz (unI t) k : Nat) : Int))
  | _, _ => False
def pre__law_term_drawn : List S → Prop
  | [.dice, .val (.int n), .val (.int o)] => 1 ≤ n ∧ n ≤ 100 ∧ 0 ≤ o ∧ o ≤ 50
  | _ => False
def post__law_term_drawn : List S → DV → Prop
  | [.dice, .val (.int n), .val (.int o)], r => ∃ ns : List Int, r = .c (tI ns) ∧ Tm ns ∧ (ns.length : Int) ≤ 3 * n
  | _, _ => False
def pre__law_is_term : List S → Prop := pre_is_term
def post__law_is_term : List S → DV → Prop := post_is_term
def isVals (r : DV) : Prop := ∃ ds, r = .f ds ∧ ds.length ≤ 100 ∧ ∀ d ∈ ds, okVal d
def pre__law_near_values : List S → Prop
  | [.dice, .val t] => ∃ ns : List Int, t = tI ns ∧ Tm ns
  | _ => False
def post__law_near_values : List S → DV → Prop := fun _ r => isVals r
def pre__law_long_values : List S → Prop
  | [.dice] => True
  | _ => False
def post__law_long_values : List S → DV → Prop := fun _ r => isVals r
def pre__law_right : List S → Prop
  | [.dice] => True
  | _ => False
def post__law_right : List S → DV → Prop := fun _ r => r = .c (.bl true)
def pre_law : List S → Prop
  | [.val (.frl ds)] => ∃ ns : List Int, ds = ns.map .int ∧ ns.length ≤ 63
  | _ => False
def post_law : List S → DV → Prop := fun _ r => r = .c (.bl true)
def w__law_dice_1 : DS := wRet (wLst (waCons (wVar 4) (waCons (wOp rMod (wVar 5) (wC (.int 2147482543))) (waCons (wC (.int 0)) (waNil)))))
def w__law_dice_2 : DS := wSeq (wSet 5 (wOp rPlus (wOp rPlus (wOp rPlus (wOp rTimes (wOp rMod (wVar 3) (wC (.int 2147482577))) (wC (.int 60611))) (wOp rTimes (wC (.int 3571)) (wVar 1))) (wOp rTimes (wC (.int 101)) (wCB cInt (waCons (wOp rLt (wVar 2) (wC (.int 0))) (waNil))))) (wC (.int 137)))) (w__law_dice_1)
def w__law_dice_3 : DS := wSeq (wSet 4 (wOp rFdivW (wVar 3) (wOp rPowW (wC (.int 10)) (wC (.int 18))))) (w__law_dice_2)
def w__law_dice_4 : DS := wSet 2 (wOp rIxD (wVar 0) (wVar 1))
def w__law_dice_5 : DS := wSeq (wSet 3 (wOp rMod (wCB cInt (waCons (wCB cAbs (waCons (wVar 2) (waNil))) (waNil))) (wOp rPowW (wOp rPowW (wC (.int 10)) (wC (.int 60))) (wC (.int 10))))) (w__law_dice_3)
def w__law_dice_6 : DS := wSeq (wIfS (wB (wOp rLt (wVar 1) (wCB cLen (waCons (wVar 0) (waNil))))) (w__law_dice_4) ((fun R δ => R.nx δ))) (w__law_dice_5)
def w__law_dice : DS := wSeq (wSet 2 (wOp rPlus (wOp rTimes (wC (.int 109)) (wVar 1)) (wC (.int 59)))) (w__law_dice_6)
def w__law_ends_1 : DS := wSetI 1 (wOp rPlus (wVar 2) (wC (.int 1))) (wVar 2)
def w__law_ends_2 : DS := wSetI 1 (wOp rIxD (wVar 1) (wOp rPlus (wVar 2) (wC (.int 1)))) (wVar 2)
def w__law_ends_3 : DS := wSetI 1 (wOp rIxD (wVar 1) (wOp rIxD (wVar 1) (wOp rPlus (wVar 2) (wC (.int 1))))) (wVar 2)
def w__law_ends_4 : DS := wIfS (wB (wOp rLt (wOp rIxD (wVar 0) (wVar 2)) (wC (.int 0)))) (w__law_ends_2) (w__law_ends_3)
def w__law_ends_5 : DS := wIfS (wB (wOp rGt (wOp rIxD (wVar 0) (wVar 2)) (wC (.int 0)))) (w__law_ends_1) (w__law_ends_4)
def w__law_ends_6 : DS := wRet (wVar 1)
def w__law_ends_7 : DS := wSeq (wForRd (waCons (wOp rMinus (wCB cLen (waCons (wVar 0) (waNil))) (wC (.int 1))) (waCons (wUn rNeg (wC (.int 1))) (waCons (wUn rNeg (wC (.int 1))) (waNil)))) (wgName 2) (w__law_ends_5)) (w__law_ends_6)
def w__law_ends : DS := wSeq (wSet 1 (wOp rTimes (wLst (waCons (wC (.int 0)) (waNil))) (wCB cLen (waCons (wVar 0) (waNil))))) (w__law_ends_7)
def w__law_term_drawn_1 : DS := wApp 3 (wOp rPlus (wC (.int 1)) (wCB cMin (waCons (wCall 2 pre__law_roll post__law_roll (waCons (wVar 0) (waCons (wVar 7) (waNil)))) (waCons (wCall 2 pre__law_roll post__law_roll (waCons (wVar 0) (waCons (wVar 7) (waNil)))) (waNil)))))
def w__law_term_drawn_2 : DS := wApp 4 (wTup (waCons (wOp rMinus (wVar 5) (wC (.int 1))) (waCons (wOp rPlus (wVar 6) (wC (.int 1))) (waNil))))
def w__law_term_drawn_3 : DS := wSeq (wApp 3 (wUn rNeg (wC (.int 1)))) (w__law_term_drawn_2)
def w__law_term_drawn_4 : DS := wExt 4 (wLst (waCons (wTup (waCons (wOp rMinus (wOp rMinus (wVar 5) (wC (.int 2))) (wVar 8)) (waCons (wVar 6) (waNil)))) (waCons (wTup (waCons (wVar 8) (waCons (wOp rPlus (wVar 6) (wC (.int 1))) (waNil)))) (waNil))))
def w__law_term_drawn_5 : DS := wSeq (wExt 3 (wLst (waCons (wC (.int 0)) (waCons (wUn rNeg (wC (.int 1))) (waNil))))) (w__law_term_drawn_4)
def w__law_term_drawn_6 : DS := wSeq (wSet 8 (wOp rPlus (wC (.int 1)) (wCall 2 pre__law_roll post__law_roll (waCons (wVar 0) (waCons (wOp rMinus (wVar 5) (wC (.int 3))) (waNil)))))) (w__law_term_drawn_5)
def w__law_term_drawn_7 : DS := wApp 4 (wTup (waCons (wOp rMinus (wVar 5) (wC (.int 1))) (waCons (wOp rPlus (wVar 6) (wC (.int 1))) (waNil))))
def w__law_term_drawn_8 : DS := wSeq (wApp 3 (wUn rNeg (wC (.int 1)))) (w__law_term_drawn_7)
def w__law_term_drawn_9 : DS := wExt 4 (wLst (waCons (wTup (waCons (wOp rMinus (wOp rMinus (wVar 5) (wC (.int 1))) (wVar 8)) (waCons (wVar 6) (waNil)))) (waCons (wTup (waCons (wVar 8) (waCons (wVar 6) (waNil)))) (waNil))))
def w__law_term_drawn_10 : DS := wSeq (wApp 3 (wC (.int 0))) (w__law_term_drawn_9)
def w__law_term_drawn_11 : DS := wSeq (wSet 8 (wOp rPlus (wC (.int 1)) (wCall 2 pre__law_roll post__law_roll (waCons (wVar 0) (waCons (wOp rMinus (wVar 5) (wC (.int 2))) (waNil)))))) (w__law_term_drawn_10)
def w__law_term_drawn_12 : DS := wIfS (wB (wOp rEqq (wCall 2 pre__law_roll post__law_roll (waCons (wVar 0) (waCons (wC (.int 4)) (waNil)))) (wC (.int 0)))) (w__law_term_drawn_8) (w__law_term_drawn_11)
def w__law_term_drawn_13 : DS := wIfS (wAndT (wB (wOp rGe (wVar 5) (wC (.int 4)))) (wB (wOp rLt (wCall 2 pre__law_roll post__law_roll (waCons (wVar 0) (waCons (wC (.int 9)) (waNil)))) (wC (.int 4))))) (w__law_term_drawn_6) (w__law_term_drawn_12)
def w__law_term_drawn_14 : DS := wIfS (wOrT (wB (wOp rLe (wVar 5) (wC (.int 2)))) (wAndT (wB (wOp rEqq (wVar 7) (wC (.int 0)))) (wB (wOp rLt (wVar 5) (wC (.int 4)))))) (w__law_term_drawn_3) (w__law_term_drawn_13)
def w__law_term_drawn_15 : DS := wIfS (wAndT (wB (wOp rLe (wVar 5) (wC (.int 1)))) (wB (wOp rGt (wVar 7) (wC (.int 0))))) (w__law_term_drawn_1) (w__law_term_drawn_14)
def w__law_term_drawn_16 : DS := wSeq (wSet 7 (wOp rPlus (wVar 6) (wVar 2))) (w__law_term_drawn_15)
def w__law_term_drawn_17 : DS := wSeq (wPop 4 (wgTup 2 (wgCons (wgName 5) (wgCons (wgName 6) (wgNil))))) (w__law_term_drawn_16)
def w__law_term_drawn_18 : DS := wRet (wCB cTuple (waCons (wVar 3) (waNil)))
def w__law_term_drawn_19 : DS := wSeq (wWhile (wB (wOp rNeq (wVar 4) (wLst (waNil)))) (w__law_term_drawn_17)) (w__law_term_drawn_18)
def w__law_term_drawn : DS := wSeq (wPar 3 4 (waCons (wLst (waNil)) (waCons (wLst (waCons (wTup (waCons (wVar 1) (waCons (wC (.int 0)) (waNil)))) (waNil))) (waNil)))) (w__law_term_drawn_19)
def w__law_is_term_1 : DS := wSet 1 (wOp rMinus (wVar 1) (wC (.int 1)))
def w__law_is_term_2 : DS := wSet 1 (wOp rPlus (wVar 1) (wC (.int 1)))
def w__law_is_term_3 : DS := wIfS (wB (wOp rGt (wVar 2) (wC (.int 0)))) (w__law_is_term_1) ((fun R δ => R.nx δ))
def w__law_is_term_4 : DS := wSeq (wIfS (wB (wOp rEqq (wVar 2) (wC (.int 0)))) (w__law_is_term_2) ((fun R δ => R.nx δ))) (w__law_is_term_3)
def w__law_is_term_5 : DS := wSeq (wIfS (wOrT (wNotT (wB (wCB cIsi (waCons (wVar 2) (waCons (wC (.ty "int")) (waNil)))))) (wOrT (wB (wCB cIsi (waCons (wVar 2) (waCons (wC (.ty "bool")) (waNil))))) (wOrT (wNotT (wB (wChain rLe rLe (wUn rNeg (wC (.int 1))) (wVar 2) (wC (.int 1000))))) (wB (wOp rEqq (wVar 1) (wC (.int 0))))))) (wRet (wC (.bl false))) ((fun R δ => R.nx δ))) (w__law_is_term_4)
def w__law_is_term_6 : DS := wRet (wOp rEqq (wVar 1) (wC (.int 0)))
def w__law_is_term_7 : DS := wSeq (wFor (wVar 0) (wgName 2) (w__law_is_term_5)) (w__law_is_term_6)
def w__law_is_term_8 : DS := wSeq (wSet 1 (wC (.int 1))) (w__law_is_term_7)
def w__law_is_term : DS := wSeq (wIfS (wOrT (wNotT (wB (wCB cIsi (waCons (wVar 0) (waCons (wC (.ty "tuple")) (waNil)))))) (wNotT (wB (wChain rLe rLe (wC (.int 1)) (wCB cLen (waCons (wVar 0) (waNil))) (wC (.int 400)))))) (wRet (wC (.bl false))) ((fun R δ => R.nx δ))) (w__law_is_term_8)
def w__law_near_values_1 : DS := wRet (wOp rPlus (wVar 3) (wLst (waCons (wTup (waNil)) (waCons (wC .non) (waCons (wC (.int 0)) (waCons (wC (.str "term")) (waCons (wEmp) (waCons (wLst (waNil)) (waCons (wTup (waCons (wC (.int 1)) (waNil))) (waCons (wTup (waCons (wUn rNeg (wC (.int 1))) (waNil))) (waCons (wTup (waCons (wC (.int 0)) (waNil))) (waCons (wTup (waCons (wC (.int 0)) (waCons (wC (.int 1)) (waNil)))) (waNil)))))))))))))
def w__law_near_values_2 : DS := wSeq (wApp 3 (wOp rPlus (wOp rPlus (wTup (waCons (wC (.int 0)) (waNil))) (wVar 1)) (wVar 1))) (w__law_near_values_1)
def w__law_near_values_3 : DS := wApp 3 (wOp rPlus (wOp rPlus (wSl (wVar 1) (woNone) (woSome (wVar 2))) (wTup (waCons (wVar 4) (waNil)))) (wSl (wVar 1) (woSome (wOp rPlus (wVar 2) (wC (.int 1)))) (woNone)))
def w__law_near_values_4 : DS := wSeq (wSet 3 (wOp rPlus (wVar 3) (wLst (waCons (wOp rPlus (wSl (wVar 1) (woNone) (woSome (wVar 2))) (wSl (wVar 1) (woSome (wOp rPlus (wVar 2) (wC (.int 1)))) (woNone))) (waCons (wOp rPlus (wOp rPlus (wSl (wVar 1) (woNone) (woSome (wVar 2))) (wTup (waCons (wC (.int 0)) (waNil)))) (wSl (wVar 1) (woSome (wVar 2)) (woNone))) (waCons (wOp rPlus (wTup (waCons (wUn rNeg (wC (.int 1))) (waNil))) (wVar 1)) (waCons (wOp rPlus (wVar 1) (wVar 1)) (waNil)))))))) (w__law_near_values_2)
def w__law_near_values_5 : DS := wSeq (wFor (wTup (waCons (wUn rNeg (wC (.int 2))) (waCons (wUn rNeg (wC (.int 1))) (waCons (wC (.int 0)) (waCons (wC (.int 1)) (waCons (wC (.int 1000)) (waCons (wC (.int 1001)) (waCons (wC (.bl true)) (waCons (wC (.bl false)) (waCons (wC .non) (waCons (wC (.str "1")) (waCons (wOp rPowW (wC (.int 10)) (wC (.int 61))) (waCons (wTup (waCons (wC (.int 1)) (waNil))) (waCons (wOp rPlus (wC (.int 1)) (wCall 2 pre__law_roll post__law_roll (waCons (wVar 0) (waCons (wC (.int 9)) (waNil))))) (waNil))))))))))))))) (wgName 4) (w__law_near_values_3)) (w__law_near_values_4)
def w__law_near_values : DS := wSeq (wPar 2 3 (waCons (wCall 2 pre__law_roll post__law_roll (waCons (wVar 0) (waCons (wCB cLen (waCons (wVar 1) (waNil))) (waNil)))) (waCons (wLst (waCons (wVar 1) (waCons (wCB cList (waCons (wVar 1) (waNil))) (waCons (wTup (waCons (wVar 1) (waNil))) (waCons (wSl (wVar 1) (woSome (wC (.int 1))) (woNone)) (waCons (wSl (wVar 1) (woNone) (woSome (wUn rNeg (wC (.int 1))))) (waCons (wOp rPlus (wVar 1) (wTup (waCons (wC (.int 1)) (waNil)))) (waCons (wOp rPlus (wTup (waCons (wC (.int 0)) (waNil))) (wVar 1)) (waNil))))))))) (waNil)))) (w__law_near_values_5)
def w__law_long_values_1 : DS := wRet (wOp rPlus (wVar 2) (wLst (waCons (wOp rPlus (wOp rTimes (wTup (waCons (wC (.int 0)) (waCons (wC (.int 1)) (waNil)))) (wC (.int 199))) (wTup (waCons (wC (.int 1)) (waNil)))) (waCons (wOp rPlus (wOp rTimes (wTup (waCons (wC (.int 0)) (waCons (wC (.int 1)) (waNil)))) (wC (.int 200))) (wTup (waCons (wC (.int 1)) (waNil)))) (waCons (wOp rPlus (wOp rTimes (wTup (waCons (wC (.int 0)) (waCons (wUn rNeg (wC (.int 1))) (waCons (wC (.int 1)) (waNil))))) (wC (.int 133))) (wTup (waCons (wC (.int 5)) (waNil)))) (waCons (wOp rPlus (wOp rTimes (wTup (waCons (wC (.int 0)) (waCons (wUn rNeg (wC (.int 1))) (waCons (wC (.int 1)) (waNil))))) (wC (.int 133))) (wTup (waCons (wUn rNeg (wC (.int 1))) (waCons (wC (.int 5)) (waNil))))) (waNil)))))))
def w__law_long_values_2 : DS := wSeq (wApp 2 (wOp rPlus (wOp rTimes (wTup (waCons (wC (.int 0)) (waCons (wUn rNeg (wC (.int 1))) (waNil)))) (wOp rFdivW (wVar 1) (wC (.int 3)))) (wOp rTimes (wTup (waCons (wC (.int 1)) (waNil))) (wOp rPlus (wOp rFdivW (wVar 1) (wC (.int 3))) (wC (.int 1)))))) (w__law_long_values_1)
def w__law_long_values_3 : DS := wSeq (wSet 2 (wLst (waCons (wOp rPlus (wOp rTimes (wTup (waCons (wUn rNeg (wC (.int 1))) (waNil))) (wVar 1)) (wTup (waCons (wC (.int 1)) (waNil)))) (waCons (wOp rPlus (wOp rTimes (wTup (waCons (wC (.int 0)) (waNil))) (wOp rFdivW (wVar 1) (wC (.int 2)))) (wOp rTimes (wTup (waCons (wC (.int 2)) (waNil))) (wOp rPlus (wOp rFdivW (wVar 1) (wC (.int 2))) (wC (.int 1))))) (waNil))))) (w__law_long_values_2)
def w__law_long_values : DS := wSeq (wSet 1 (wOp rPlus (wC (.int 397)) (wCall 2 pre__law_roll post__law_roll (waCons (wVar 0) (waCons (wC (.int 6)) (waNil)))))) (w__law_long_values_3)
def w__law_right_1 : DS := wIfS (wB (wOp rNeq (wCall 2 pre_part_of post_part_of (waCons (wVar 6) (waCons (wOp rMinus (wVar 7) (wVar 5)) (waNil)))) (wCall 2 pre_part_of post_part_of (waCons (wVar 1) (waCons (wVar 7) (waNil)))))) (wRet (wC (.bl false))) ((fun R δ => R.nx δ))
def w__law_right_2 : DS := wSeq (wIfS (wNotT (wChainI3 (fun i j => decide (i ≤ j)) (fun i j => decide (i < j)) (fun i j => decide (i ≤ j)) (wVar 5) (wVar 7) (wCall 2 pre_part_end post_part_end (waCons (wVar 1) (waCons (wVar 7) (waNil)))) (wOp rIxD (wVar 3) (wVar 5)))) (wRet (wC (.bl false))) ((fun R δ => R.nx δ))) (w__law_right_1)
def w__law_right_3 : DS := wSeq (wSet 7 (wOp rMinus (wOp rMinus (wOp rPlus (wVar 5) (wCB cLen (waCons (wVar 6) (waNil)))) (wC (.int 1))) (wCall 2 pre__law_roll post__law_roll (waCons (wVar 0) (waCons (wCB cLen (waCons (wVar 6) (waNil))) (waNil)))))) (w__law_right_2)
def w__law_right_4 : DS := wSeq (wIfS (wOrT (wB (wOp rNeq (wCall 2 pre_part_end post_part_end (waCons (wVar 1) (waCons (wVar 5) (waNil)))) (wOp rIxD (wVar 3) (wVar 5)))) (wOrT (wB (wOp rNeq (wVar 6) (wSl (wVar 1) (woSome (wVar 5)) (woSome (wOp rIxD (wVar 3) (wVar 5)))))) (wNotT (wB (wCall 1 pre_is_term post_is_term (waCons (wVar 6) (waNil))))))) (wRet (wC (.bl false))) ((fun R δ => R.nx δ))) (w__law_right_3)
def w__law_right_5 : DS := wSeq (wSet 6 (wCall 2 pre_part_of post_part_of (waCons (wVar 1) (waCons (wVar 5) (waNil))))) (w__law_right_4)
def w__law_right_6 : DS := wSeq (wSet 5 (wCall 2 pre__law_roll post__law_roll (waCons (wVar 0) (waCons (wCB cLen (waCons (wVar 1) (waNil))) (waNil))))) (w__law_right_5)
def w__law_right_7 : DS := wRet (wOp rEqq (wCall 2 pre_part_of post_part_of (waCons (wVar 1) (waCons (wC (.int 0)) (waNil)))) (wVar 1))
def w__law_right_8 : DS := wSeq (wForR1 (waCons (wC (.int 12)) (waNil)) (wgName 4) (w__law_right_6)) (w__law_right_7)
def w__law_right_9 : DS := wIfS (wB (wOp rNeq (wCall 1 pre_is_term post_is_term (waCons (wVar 2) (waNil))) (wCall 1 pre__law_is_term post__law_is_term (waCons (wVar 2) (waNil))))) (wRet (wC (.bl false))) ((fun R δ => R.nx δ))
def w__law_right_10 : DS := wSeq (wSet 3 (wCall 1 pre__law_ends post__law_ends (waCons (wVar 1) (waNil)))) (w__law_right_8)
def w__law_right_11 : DS := wSeq (wFor (wOp rPlus (wCall 2 pre__law_near_values post__law_near_values (waCons (wVar 0) (waCons (wVar 1) (waNil)))) (wCall 1 pre__law_long_values post__law_long_values (waCons (wVar 0) (waNil)))) (wgName 2) (w__law_right_9)) (w__law_right_10)
def w__law_right : DS := wSeq (wSet 1 (wCall 3 pre__law_term_drawn post__law_term_drawn (waCons (wVar 0) (waCons (wOp rPlus (wC (.int 1)) (wCall 2 pre__law_roll post__law_roll (waCons (wVar 0) (waCons (wC (.int 40)) (waNil))))) (waCons (wOp rPlus (wC (.int 1)) (wCall 2 pre__law_roll post__law_roll (waCons (wVar 0) (waCons (wC (.int 3)) (waNil))))) (waNil)))))) (w__law_right_11)
def w_law_1 : DS := wRet (wOp rEqq (wTup (waCons (wC (.int c_MAX_PARTS)) (waCons (wC (.int c_MAX_VARIABLE)) (waNil)))) (wTup (waCons (wC (.int 400)) (waCons (wC (.int 1000)) (waNil)))))
def w_law_2 : DS := wSeq (wIfS (wOrT (wB (wOp rNeq (wVar 3) (wLst (waCons (wC (.bl true)) (waCons (wC (.bl false)) (waCons (wC (.bl true)) (waCons (wC (.int 5)) (waCons (wTup (waCons (wC (.int 0)) (waCons (wUn rNeg (wC (.int 1))) (waCons (wC (.int 1)) (waCons (wUn rNeg (wC (.int 1))) (waCons (wC (.int 1)) (waNil))))))) (waNil))))))))) (wOrT (wB (wCall 1 pre_is_term post_is_term (waCons (wTup (waCons (wC (.int 1)) (waCons (wC (.int 0)) (waCons (wC (.int 1)) (waNil))))) (waNil)))) (wB (wCall 1 pre_is_term post_is_term (waCons (wTup (waCons (wUn rNeg (wC (.int 1))) (waCons (wC (.int 1)) (waCons (wC (.int 0)) (waCons (wC (.int 2)) (waNil)))))) (waNil)))))) (wRet (wC (.bl false))) ((fun R δ => R.nx δ))) (w_law_1)
def w_law_3 : DS := wSeq (wSet 3 (wLst (waCons (wCall 1 pre_is_term post_is_term (waCons (wVar 2) (waNil))) (waCons (wCall 1 pre_is_term post_is_term (waCons (wTup (waCons (wC (.int 0)) (waCons (wC (.int 1)) (waNil)))) (waNil))) (waCons (wCall 1 pre_is_term post_is_term (waCons (wTup (waCons (wC (.int 0)) (waCons (wUn rNeg (wC (.int 1))) (waCons (wC (.int 1)) (waCons (wC (.int 2)) (waNil)))))) (waNil))) (waCons (wCall 2 pre_part_end post_part_end (waCons (wVar 2) (waCons (wC (.int 1)) (waNil)))) (waCons (wCall 2 pre_part_of post_part_of (waCons (wVar 2) (waCons (wC (.int 5)) (waNil)))) (waNil)))))))) (w_law_2)
def w_law_4 : DS := wIfS (wNotT (wB (wCallF 1 pre__law_right post__law_right (waCons (wCall 2 pre__law_dice post__law_dice (waCons (wVar 0) (waCons (wVar 1) (waNil)))) (waNil))))) (wRet (wC (.bl false))) ((fun R δ => R.nx δ))
def w_law_5 : DS := wSeq (wSet 2 (wTup (waCons (wC (.int 0)) (waCons (wUn rNeg (wC (.int 1))) (waCons (wC (.int 0)) (waCons (wC (.int 1)) (waCons (wC (.int 1)) (waCons (wC (.int 0)) (waCons (wUn rNeg (wC (.int 1))) (waCons (wC (.int 1)) (waCons (wUn rNeg (wC (.int 1))) (waCons (wC (.int 1)) (waNil))))))))))))) (w_law_3)
def w_law : DS := wSeq (wForR1 (waCons (wCB cMax (waCons (wC (.int 1)) (waCons (wCB cMin (waCons (wC (.int 3)) (waCons (wCB cLen (waCons (wVar 0) (waNil))) (waNil)))) (waNil)))) (waNil)) (wgName 1) (w_law_4)) (w_law_5)
/-- a roll -/
theorem roll_go {n : Int} {k : DV → Prop} (h1 : 0 < n) (h2 : n ≤ 1000000) (q : ∀ i : Int, 0 ≤ i → i < n → k (.c (.int i))) : [S.dice, S.val (.int n)].length = 2 ∧ pre__law_roll [.dice, .val (.int n)] ∧ ∀ r, post__law_roll [.dice, .val (.int n)] r → r ≠ .j ∧ k r :=
  ⟨rfl, ⟨h1, h2⟩, fun r hr => by
    obtain ⟨i, a, b, rfl⟩ := hr
    exact ⟨by simp, q i a b⟩⟩
end Dl
namespace Dl
open PySem L2 Km
theorem atI_map' {ns : List Int} {i : Int} (h0 : 0 ≤ i) (h1 : i < ns.length) : ∃ z : Int, atI (ns.map D.int) i = some (.int z) := by
  have hlt : i.toNat < ns.length := by omega
  exact ⟨_, atI_map (j := i.toNat) (by omega) hlt⟩
theorem cpow_a : CPowW 10 60 := ⟨by decide, by decide +kernel⟩
theorem cpow_b : CPowW 10 18 := ⟨by decide, by decide +kernel⟩
theorem cpow_c : CPowW ((10 : Int) ^ (60 : Int).toNat) 10 := ⟨by decide, by decide +kernel⟩
theorem cdiv_w : CDivW i ((10 : Int) ^ (18 : Int).toNat) := ⟨by decide +kernel, by decide +kernel⟩
theorem pos_w : (0 : Int) < ((10 : Int) ^ (60 : Int).toNat) ^ (10 : Int).toNat := by decide +kernel
theorem goal__law_dice : Goal w__law_dice ["script", "at", "cell", "great", "left", "mixed"] 2 pre__law_dice post__law_dice := by
  intro xs hl hp
  unfold pre__law_dice at hp
  split at hp
  · rename_i ds k
    obtain ⟨ns, rfl, hn, h0, h1⟩ := hp
    have rest : ∀ z : Int, w__law_dice_5 { nx := fun _ => post__law_dice [.val (.frl (ns.map .int)), .val (.int k)] (.c .non), rt := fun _ => post__law_dice [.val (.frl (ns.map .int)), .val (.int k)] }
        [.val (.frl (ns.map .int)), .val (.int k), .val (.int z), .no, .no, .no] := by
      intro z
      unfold w__law_dice_5
      simp only [wSeq, wSet, wOp, wVar, wC, wUn, wChain, wAnd, wOr, wNot, wB, wAndT, wOrT, wNotT, wIf, wIfS, wRet, wDrop, wTup, wLst, wEmp, wSl, woNone, woSome, wCB, waNil, waCons, wgName, wgNil, wgCons, wgTup, wAug, wPar, wAsgG, wApp, wExt, wPop, wSetI, wNever, rd, rds, cl, cls, sv, ret, toS, items, rII, rIIC, rPlus, rMinus, rAddI, rTimes, rFdivW, rMod, rPowW, rNeg, rLt, rLe, rGt, rGe, rEqq, rNeq, rIsN, rNotN, rIxD, rSlD, cLen, cTuple, cList, cII, cMin, cMax, cAbs, cInt, List.getElem?_cons_zero, List.getElem?_cons_succ, List.set_cons_zero, List.set_cons_succ, List.replicate, List.cons_append, List.nil_append, Option.some.injEq, Option.map_some, exists_eq_left', exists_eq_left, exists_and_left, exists_const, ite_true, ite_false, if_true, if_false, reduceCtorEq, decide_eq_true_eq, Bool.not_eq_true', Bool.not_eq_true, Bool.false_eq_true, Bool.true_eq_false, false_and, and_false, exists_false, not_true_eq_false, not_false_eq_true, Bool.not_true, Bool.not_false, DV.c.injEq, D.int.injEq, D.bl.injEq, D.tup.injEq, D.lst.injEq, DV.f.injEq, S.val.injEq, S.own.injEq, List.cons.injEq, and_true, true_and, okD_int, okD_bl, eqD_int, eqD_bl, Prod.mk.injEq, and_assoc]
      refine ⟨cpow_a, cpow_c, pos_w, ?_⟩
      have hG : 0 ≤ (if z < 0 then -z else z) % ((10 : Int) ^ (60 : Int).toNat) ^ (10 : Int).toNat := Int.emod_nonneg _ (Int.ne_of_gt pos_w)
      generalize (if z < 0 then -z else z) % ((10 : Int) ^ (60 : Int).toNat) ^ (10 : Int).toNat = G at hG ⊢
      unfold w__law_dice_3
      simp only [wSeq, wSet, wOp, wVar, wC, wUn, wChain, wAnd, wOr, wNot, wB, wAndT, wOrT, wNotT, wIf, wIfS, wRet, wDrop, wTup, wLst, wEmp, wSl, woNone, woSome, wCB, waNil, waCons, wgName, wgNil, wgCons, wgTup, wAug, wPar, wAsgG, wApp, wExt, wPop, wSetI, wNever, rd, rds, cl, cls, sv, ret, toS, items, rII, rIIC, rPlus, rMinus, rAddI, rTimes, rFdivW, rMod, rPowW, rNeg, rLt, rLe, rGt, rGe, rEqq, rNeq, rIsN, rNotN, rIxD, rSlD, cLen, cTuple, cList, cII, cMin, cMax, cAbs, cInt, List.getElem?_cons_zero, List.getElem?_cons_succ, List.set_cons_zero, List.set_cons_succ, List.replicate, List.cons_append, List.nil_append, Option.some.injEq, Option.map_some, exists_eq_left', exists_eq_left, exists_and_left, exists_const, ite_true, ite_false, if_true, if_false, reduceCtorEq, decide_eq_true_eq, Bool.not_eq_true', Bool.not_eq_true, Bool.false_eq_true, Bool.true_eq_false, false_and, and_false, exists_false, not_true_eq_false, not_false_eq_true, Bool.not_true, Bool.not_false, DV.c.injEq, D.int.injEq, D.bl.injEq, D.tup.injEq, D.lst.injEq, DV.f.injEq, S.val.injEq, S.own.injEq, List.cons.injEq, and_true, true_and, okD_int, okD_bl, eqD_int, eqD_bl, Prod.mk.injEq, and_assoc]
      refine ⟨cpow_b, cdiv_w, ?_⟩
      have hL : 0 ≤ G / (10 : Int) ^ (18 : Int).toNat := Int.ediv_nonneg hG (Int.le_of_lt (cdiv_w (i := 0)).1)
      generalize G / (10 : Int) ^ (18 : Int).toNat = L at hL ⊢
      unfold w__law_dice_2
      simp only [wSeq, wSet, wOp, wVar, wC, wUn, wChain, wAnd, wOr, wNot, wB, wAndT, wOrT, wNotT, wIf, wIfS, wRet, wDrop, wTup, wLst, wEmp, wSl, woNone, woSome, wCB, waNil, waCons, wgName, wgNil, wgCons, wgTup, wAug, wPar, wAsgG, wApp, wExt, wPop, wSetI, wNever, rd, rds, cl, cls, sv, ret, toS, items, rII, rIIC, rPlus, rMinus, rAddI, rTimes, rFdivW, rMod, rPowW, rNeg, rLt, rLe, rGt, rGe, rEqq, rNeq, rIsN, rNotN, rIxD, rSlD, cLen, cTuple, cList, cII, cMin, cMax, cAbs, cInt, List.getElem?_cons_zero, List.getElem?_cons_succ, List.set_cons_zero, List.set_cons_succ, List.replicate, List.cons_append, List.nil_append, Option.some.injEq, Option.map_some, exists_eq_left', exists_eq_left, exists_and_left, exists_const, ite_true, ite_false, if_true, if_false, reduceCtorEq, decide_eq_true_eq, Bool.not_eq_true', Bool.not_eq_true, Bool.false_eq_true, Bool.true_eq_false, false_and, and_false, exists_false, not_true_eq_false, not_false_eq_true, Bool.not_true, Bool.not_false, DV.c.injEq, D.int.injEq, D.bl.injEq, D.tup.injEq, D.lst.injEq, DV.f.injEq, S.val.injEq, S.own.injEq, List.cons.injEq, and_true, true_and, okD_int, okD_bl, eqD_int, eqD_bl, Prod.mk.injEq, and_assoc]
      have g1 := Int.emod_nonneg G (show (2147482577 : Int) ≠ 0 by decide)
      have g2 := Int.emod_lt_of_pos G (show (0 : Int) < 2147482577 by decide)
      (repeat (refine And.intro ?_ ?_; · (first | rfl | decide | omega | (simp; done) | (simp; omega))))
      unfold w__law_dice_1
      simp only [wSeq, wSet, wOp, wVar, wC, wUn, wChain, wAnd, wOr, wNot, wB, wAndT, wOrT, wNotT, wIf, wIfS, wRet, wDrop, wTup, wLst, wEmp, wSl, woNone, woSome, wCB, waNil, waCons, wgName, wgNil, wgCons, wgTup, wAug, wPar, wAsgG, wApp, wExt, wPop, wSetI, wNever, rd, rds, cl, cls, sv, ret, toS, items, rII, rIIC, rPlus, rMinus, rAddI, rTimes, rFdivW, rMod, rPowW, rNeg, rLt, rLe, rGt, rGe, rEqq, rNeq, rIsN, rNotN, rIxD, rSlD, cLen, cTuple, cList, cII, cMin, cMax, cAbs, cInt, List.getElem?_cons_zero, List.getElem?_cons_succ, List.set_cons_zero, List.set_cons_succ, List.replicate, List.cons_append, List.nil_append, Option.some.injEq, Option.map_some, exists_eq_left', exists_eq_left, exists_and_left, exists_const, ite_true, ite_false, if_true, if_false, reduceCtorEq, decide_eq_true_eq, Bool.not_eq_true', Bool.not_eq_true, Bool.false_eq_true, Bool.true_eq_false, false_and, and_false, exists_false, not_true_eq_false, not_false_eq_true, Bool.not_true, Bool.not_false, DV.c.injEq, D.int.injEq, D.bl.injEq, D.tup.injEq, D.lst.injEq, DV.f.injEq, S.val.injEq, S.own.injEq, List.cons.injEq, and_true, true_and, okD_int, okD_bl, eqD_int, eqD_bl, Prod.mk.injEq, and_assoc]
      (repeat (refine And.intro ?_ ?_; · (first | rfl | decide | omega | (simp; done) | (simp; omega))))
      exact ⟨_, _, _, hL, rfl⟩
    unfold w__law_dice
    simp only [List.length_cons, List.length_nil]
    simp only [wSeq, wSet, wOp, wVar, wC, wUn, wChain, wAnd, wOr, wNot, wB, wAndT, wOrT, wNotT, wIf, wIfS, wRet, wDrop, wTup, wLst, wEmp, wSl, woNone, woSome, wCB, waNil, waCons, wgName, wgNil, wgCons, wgTup, wAug, wPar, wAsgG, wApp, wExt, wPop, wSetI, wNever, rd, rds, cl, cls, sv, ret, toS, items, rII, rIIC, rPlus, rMinus, rAddI, rTimes, rFdivW, rMod, rPowW, rNeg, rLt, rLe, rGt, rGe, rEqq, rNeq, rIsN, rNotN, rIxD, rSlD, cLen, cTuple, cList, cII, cMin, cMax, cAbs, cInt, List.getElem?_cons_zero, List.getElem?_cons_succ, List.set_cons_zero, List.set_cons_succ, List.replicate, List.cons_append, List.nil_append, Option.some.injEq, Option.map_some, exists_eq_left', exists_eq_left, exists_and_left, exists_const, ite_true, ite_false, if_true, if_false, reduceCtorEq, decide_eq_true_eq, Bool.not_eq_true', Bool.not_eq_true, Bool.false_eq_true, Bool.true_eq_false, false_and, and_false, exists_false, not_true_eq_false, not_false_eq_true, Bool.not_true, Bool.not_false, DV.c.injEq, D.int.injEq, D.bl.injEq, D.tup.injEq, D.lst.injEq, DV.f.injEq, S.val.injEq, S.own.injEq, List.cons.injEq, and_true, true_and, okD_int, okD_bl, eqD_int, eqD_bl, Prod.mk.injEq, and_assoc]
    refine ⟨by decide, ?_⟩
    unfold w__law_dice_6 w__law_dice_4
    simp only [wSeq, wSet, wOp, wVar, wC, wUn, wChain, wAnd, wOr, wNot, wB, wAndT, wOrT, wNotT, wIf, wIfS, wRet, wDrop, wTup, wLst, wEmp, wSl, woNone, woSome, wCB, waNil, waCons, wgName, wgNil, wgCons, wgTup, wAug, wPar, wAsgG, wApp, wExt, wPop, wSetI, wNever, rd, rds, cl, cls, sv, ret, toS, items, rII, rIIC, rPlus, rMinus, rAddI, rTimes, rFdivW, rMod, rPowW, rNeg, rLt, rLe, rGt, rGe, rEqq, rNeq, rIsN, rNotN, rIxD, rSlD, cLen, cTuple, cList, cII, cMin, cMax, cAbs, cInt, List.getElem?_cons_zero, List.getElem?_cons_succ, List.set_cons_zero, List.set_cons_succ, List.replicate, List.cons_append, List.nil_append, Option.some.injEq, Option.map_some, exists_eq_left', exists_eq_left, exists_and_left, exists_const, ite_true, ite_false, if_true, if_false, reduceCtorEq, decide_eq_true_eq, Bool.not_eq_true', Bool.not_eq_true, Bool.false_eq_true, Bool.true_eq_false, false_and, and_false, exists_false, not_true_eq_false, not_false_eq_true, Bool.not_true, Bool.not_false, DV.c.injEq, D.int.injEq, D.bl.injEq, D.tup.injEq, D.lst.injEq, DV.f.injEq, S.val.injEq, S.own.injEq, List.cons.injEq, and_true, true_and, okD_int, okD_bl, eqD_int, eqD_bl, Prod.mk.injEq, and_assoc]
    by_cases hk : k < ((ns.map D.int).length : Int)
    · rw [if_pos hk]
      obtain ⟨z, hz⟩ := atI_map' h0 (by simpa using hk)
      simp only [hz]
      (try simp only [wSeq, wSet, wOp, wVar, wC, wUn, wChain, wAnd, wOr, wNot, wB, wAndT, wOrT, wNotT, wIf, wIfS, wRet, wDrop, wTup, wLst, wEmp, wSl, woNone, woSome, wCB, waNil, waCons, wgName, wgNil, wgCons, wgTup, wAug, wPar, wAsgG, wApp, wExt, wPop, wSetI, wNever, rd, rds, cl, cls, sv, ret, toS, items, rII, rIIC, rPlus, rMinus, rAddI, rTimes, rFdivW, rMod, rPowW, rNeg, rLt, rLe, rGt, rGe, rEqq, rNeq, rIsN, rNotN, rIxD, rSlD, cLen, cTuple, cList, cII, cMin, cMax, cAbs, cInt, List.getElem?_cons_zero, List.getElem?_cons_succ, List.set_cons_zero, List.set_cons_succ, List.replicate, List.cons_append, List.nil_append, Option.some.injEq, Option.map_some, exists_eq_left', exists_eq_left, exists_and_left, exists_const, ite_true, ite_false, if_true, if_false, reduceCtorEq, decide_eq_true_eq, Bool.not_eq_true', Bool.not_eq_true, Bool.false_eq_true, Bool.true_eq_false, false_and, and_false, exists_false, not_true_eq_false, not_false_eq_true, Bool.not_true, Bool.not_false, DV.c.injEq, D.int.injEq, D.bl.injEq, D.tup.injEq, D.lst.injEq, DV.f.injEq, S.val.injEq, S.own.injEq, List.cons.injEq, and_true, true_and, okD_int, okD_bl, eqD_int, eqD_bl, Prod.mk.injEq, and_assoc])
      exact ⟨by decide, rest z⟩
    · rw [if_neg hk]
      exact ⟨by decide, rest _⟩
  · exact hp.elim
end Dl
namespace Dl
open PySem L2 Km
theorem rep_zero (n : Nat) : (List.replicate n [D.int 0]).flatten = (List.replicate n (0 : Int)).map .int := by
  induction n with
  | zero => rfl
  | succ n ih => rw [List.replicate_succ, List.replicate_succ, List.flatten_cons, ih]; rfl
theorem scn_var {c : Int} {r : List Int} (h : 0 < c) : scn 1 (c :: r) = some 1 := by
  rw [scn_cons (by omega)]
  have : up c 1 = 0 := by unfold up; rw [if_neg (by omega), if_pos h]
  rw [this, scn_zero]
  rfl
theorem scn_fun {c : Int} {r : List Int} {n : Nat} (h : c < 0) (hs : scn 1 (c :: r) = some n) : ∃ m, scn 1 r = some m ∧ n = m + 1 := by
  rw [scn_cons (by omega)] at hs
  have : up c 1 = 1 := by unfold up; rw [if_neg (by omega), if_neg (by omega)]
  rw [this] at hs
  cases hq : scn 1 r with
  | none => rw [hq] at hs; cases hs
  | some m => rw [hq] at hs; exact ⟨m, rfl, by simpa using hs.symm⟩
theorem scn_nil {l : List Int} {n : Nat} (h : scn 1 l = some n) : l ≠ [] := fun e => by rw [e] at h; cases h
theorem sz_of {ns : List Int} {k n : Nat} (h : scn 1 (ns.drop k) = some n) : sz ns k = n := by unfold sz; rw [h]; rfl
def inv_ends (ns : List Int) (i : Nat) (δ : List S) : Prop := ∃ (es : List Int) (s : S), δ = [.val (tI ns), .own (es.map .int), s] ∧ es.length = ns.length ∧
  ∀ k : Nat, ns.length ≤ k + i → k < ns.length → es[k]? = some ((k + sz ns k : Nat) : Int)
theorem set_map (es : List Int) (j : Nat) (z : Int) : (es.map D.int).set j (.int z) = (es.set j z).map .int := by
  rw [List.map_set]
theorem goal__law_ends : Goal w__law_ends ["term", "found", "at"] 1 pre__law_ends post__law_ends := by
  intro xs hl hp
  unfold pre__law_ends isTm at hp
  split at hp
  · rename_i d
    obtain ⟨ns, rfl, t⟩ := hp
    have tl := t.len
    unfold w__law_ends
    simp only [List.length_cons, List.length_nil]
    simp only [wSeq, wSet, wOp, wVar, wC, wUn, wChain, wAnd, wOr, wNot, wB, wAndT, wOrT, wNotT, wIf, wIfS, wRet, wDrop, wTup, wLst, wEmp, wSl, woNone, woSome, wCB, waNil, waCons, wgName, wgNil, wgCons, wgTup, wAug, wPar, wAsgG, wApp, wExt, wPop, wSetI, wNever, rd, rds, cl, cls, sv, ret, toS, items, rII, rIIC, rPlus, rMinus, rAddI, rTimes, rFdivW, rMod, rPowW, rNeg, rLt, rLe, rGt, rGe, rEqq, rNeq, rIsN, rNotN, rIxD, rSlD, cLen, cTuple, cList, cII, cMin, cMax, cAbs, cInt, List.getElem?_cons_zero, List.getElem?_cons_succ, List.set_cons_zero, List.set_cons_succ, List.replicate, List.cons_append, List.nil_append, Option.some.injEq, Option.map_some, exists_eq_left', exists_eq_left, exists_and_left, exists_const, ite_true, ite_false, if_true, if_false, reduceCtorEq, decide_eq_true_eq, Bool.not_eq_true', Bool.not_eq_true, Bool.false_eq_true, Bool.true_eq_false, false_and, and_false, exists_false, not_true_eq_false, not_false_eq_true, Bool.not_true, Bool.not_false, DV.c.injEq, D.int.injEq, D.bl.injEq, D.tup.injEq, D.lst.injEq, DV.f.injEq, S.val.injEq, S.own.injEq, List.cons.injEq, and_true, true_and, okD_int, okD_bl, eqD_int, eqD_bl, Prod.mk.injEq, and_assoc]
    rw [List.length_map, Int.toNat_natCast, rep_zero]
    (repeat (refine And.intro ?_ ?_; · (first | rfl | decide | omega | (simp; done) | (simp; omega))))
    unfold w__law_ends_7 wForRd
    simp only [wSeq, wSet, wOp, wVar, wC, wUn, wChain, wAnd, wOr, wNot, wB, wAndT, wOrT, wNotT, wIf, wIfS, wRet, wDrop, wTup, wLst, wEmp, wSl, woNone, woSome, wCB, waNil, waCons, wgName, wgNil, wgCons, wgTup, wAug, wPar, wAsgG, wApp, wExt, wPop, wSetI, wNever, rd, rds, cl, cls, sv, ret, toS, items, rII, rIIC, rPlus, rMinus, rAddI, rTimes, rFdivW, rMod, rPowW, rNeg, rLt, rLe, rGt, rGe, rEqq, rNeq, rIsN, rNotN, rIxD, rSlD, cLen, cTuple, cList, cII, cMin, cMax, cAbs, cInt, List.getElem?_cons_zero, List.getElem?_cons_succ, List.set_cons_zero, List.set_cons_succ, List.replicate, List.cons_append, List.nil_append, Option.some.injEq, Option.map_some, exists_eq_left', exists_eq_left, exists_and_left, exists_const, ite_true, ite_false, if_true, if_false, reduceCtorEq, decide_eq_true_eq, Bool.not_eq_true', Bool.not_eq_true, Bool.false_eq_true, Bool.true_eq_false, false_and, and_false, exists_false, not_true_eq_false, not_false_eq_true, Bool.not_true, Bool.not_false, DV.c.injEq, D.int.injEq, D.bl.injEq, D.tup.injEq, D.lst.injEq, DV.f.injEq, S.val.injEq, S.own.injEq, List.cons.injEq, and_true, true_and, okD_int, okD_bl, eqD_int, eqD_bl, Prod.mk.injEq, and_assoc]
    unfold LoopR
    rw [List.length_map]
    refine ⟨⟨by omega, by omega⟩, ⟨by omega, by omega⟩, inv_ends ns, ⟨List.replicate ns.length 0, .no, rfl, by simp, fun k h1 h2 => by omega⟩, ?_, ?_⟩
    · rintro i δ hi ⟨es, s, rfl, hlen, hes⟩
      have hi' : i < ns.length := by omega
      obtain ⟨a, ha⟩ : ∃ a : Nat, a = ns.length - 1 - i := ⟨_, rfl⟩
      have e1 : (ns.length : Int) - 1 + (i : Int) * -1 = (a : Int) := by omega
      rw [e1]
      have hlt : a < ns.length := by omega
      obtain ⟨n, hn, n0, nle, _⟩ := part_at t.jd hlt
      have hat : atI (ns.map D.int) (a : Int) = some (.int ns[a]) := atI_map rfl hlt
      have hd : ns.drop a = ns[a] :: ns.drop (a + 1) := List.drop_eq_getElem_cons hlt
      have hix : ixN (es.map D.int).length (a : Int) = some a := ixN_of rfl (by rw [List.length_map]; omega)
      have step : ∀ z : Int, z = ((a + n : Nat) : Int) → inv_ends ns (i + 1) [.val (tI ns), .own ((es.map D.int).set a (.int z)), .val (.int (a : Int))] := by
        rintro z rfl
        refine ⟨es.set a ((a + n : Nat) : Int), _, by rw [set_map], by simp [hlen], fun k h1 h2 => ?_⟩
        rw [List.getElem?_set]
        by_cases hk : a = k
        · subst hk
          rw [if_pos rfl, if_pos (by omega), sz_of hn]
        · rw [if_neg hk]
          exact hes k (by omega) h2
      unfold w__law_ends_5 w__law_ends_4 w__law_ends_3 w__law_ends_2 w__law_ends_1
      simp only [wSeq, wSet, wOp, wVar, wC, wUn, wChain, wAnd, wOr, wNot, wB, wAndT, wOrT, wNotT, wIf, wIfS, wRet, wDrop, wTup, wLst, wEmp, wSl, woNone, woSome, wCB, waNil, waCons, wgName, wgNil, wgCons, wgTup, wAug, wPar, wAsgG, wApp, wExt, wPop, wSetI, wNever, rd, rds, cl, cls, sv, ret, toS, items, rII, rIIC, rPlus, rMinus, rAddI, rTimes, rFdivW, rMod, rPowW, rNeg, rLt, rLe, rGt, rGe, rEqq, rNeq, rIsN, rNotN, rIxD, rSlD, cLen, cTuple, cList, cII, cMin, cMax, cAbs, cInt, List.getElem?_cons_zero, List.getElem?_cons_succ, List.set_cons_zero, List.set_cons_succ, List.replicate, List.cons_append, List.nil_append, Option.some.injEq, Option.map_some, exists_eq_left', exists_eq_left, exists_and_left, exists_const, ite_true, ite_false, if_true, if_false, reduceCtorEq, decide_eq_true_eq, Bool.not_eq_true', Bool.not_eq_true, Bool.false_eq_true, Bool.true_eq_false, false_and, and_false, exists_false, not_true_eq_false, not_false_eq_true, Bool.not_true, Bool.not_false, DV.c.injEq, D.int.injEq, D.bl.injEq, D.tup.injEq, D.lst.injEq, DV.f.injEq, S.val.injEq, S.own.injEq, List.cons.injEq, and_true, true_and, okD_int, okD_bl, eqD_int, eqD_bl, Prod.mk.injEq, and_assoc]
      simp only [hat, hix]
      simp only [wSeq, wSet, wOp, wVar, wC, wUn, wChain, wAnd, wOr, wNot, wB, wAndT, wOrT, wNotT, wIf, wIfS, wRet, wDrop, wTup, wLst, wEmp, wSl, woNone, woSome, wCB, waNil, waCons, wgName, wgNil, wgCons, wgTup, wAug, wPar, wAsgG, wApp, wExt, wPop, wSetI, wNever, rd, rds, cl, cls, sv, ret, toS, items, rII, rIIC, rPlus, rMinus, rAddI, rTimes, rFdivW, rMod, rPowW, rNeg, rLt, rLe, rGt, rGe, rEqq, rNeq, rIsN, rNotN, rIxD, rSlD, cLen, cTuple, cList, cII, cMin, cMax, cAbs, cInt, List.getElem?_cons_zero, List.getElem?_cons_succ, List.set_cons_zero, List.set_cons_succ, List.replicate, List.cons_append, List.nil_append, Option.some.injEq, Option.map_some, exists_eq_left', exists_eq_left, exists_and_left, exists_const, ite_true, ite_false, if_true, if_false, reduceCtorEq, decide_eq_true_eq, Bool.not_eq_true', Bool.not_eq_true, Bool.false_eq_true, Bool.true_eq_false, false_and, and_false, exists_false, not_true_eq_false, not_false_eq_true, Bool.not_true, Bool.not_false, DV.c.injEq, D.int.injEq, D.bl.injEq, D.tup.injEq, D.lst.injEq, DV.f.injEq, S.val.injEq, S.own.injEq, List.cons.injEq, and_true, true_and, okD_int, okD_bl, eqD_int, eqD_bl, Prod.mk.injEq, and_assoc]
      rw [hd] at hn
      by_cases hpos : 0 < ns[a]
      · rw [if_pos hpos]
        rw [scn_var hpos] at hn
        cases hn
        exact step _ (by omega)
      · rw [if_neg hpos]
        by_cases hneg : ns[a] < 0
        · rw [if_pos hneg]
          obtain ⟨m, hm, rfl⟩ := scn_fun hneg hn
          have hlt2 : a + 1 < ns.length := by
            apply Classical.byContradiction
            intro hge
            exact scn_nil hm (List.drop_eq_nil_of_le (by omega))
          have hat2 : atI (es.map D.int) ((a : Int) + 1) = some (.int ((a + 1 + sz ns (a + 1) : Nat) : Int)) := by
            refine atI_of (j := a + 1) (by omega) ?_
            rw [List.getElem?_map, hes (a + 1) (by omega) hlt2]
            rfl
          simp only [hat2]
          (try simp only [wSeq, wSet, wOp, wVar, wC, wUn, wChain, wAnd, wOr, wNot, wB, wAndT, wOrT, wNotT, wIf, wIfS, wRet, wDrop, wTup, wLst, wEmp, wSl, woNone, woSome, wCB, waNil, waCons, wgName, wgNil, wgCons, wgTup, wAug, wPar, wAsgG, wApp, wExt, wPop, wSetI, wNever, rd, rds, cl, cls, sv, ret, toS, items, rII, rIIC, rPlus, rMinus, rAddI, rTimes, rFdivW, rMod, rPowW, rNeg, rLt, rLe, rGt, rGe, rEqq, rNeq, rIsN, rNotN, rIxD, rSlD, cLen, cTuple, cList, cII, cMin, cMax, cAbs, cInt, List.getElem?_cons_zero, List.getElem?_cons_succ, List.set_cons_zero, List.set_cons_succ, List.replicate, List.cons_append, List.nil_append, Option.some.injEq, Option.map_some, exists_eq_left', exists_eq_left, exists_and_left, exists_const, ite_true, ite_false, if_true, if_false, reduceCtorEq, decide_eq_true_eq, Bool.not_eq_true', Bool.not_eq_true, Bool.false_eq_true, Bool.true_eq_false, false_and, and_false, exists_false, not_true_eq_false, not_false_eq_true, Bool.not_true, Bool.not_false, DV.c.injEq, D.int.injEq, D.bl.injEq, D.tup.injEq, D.lst.injEq, DV.f.injEq, S.val.injEq, S.own.injEq, List.cons.injEq, and_true, true_and, okD_int, okD_bl, eqD_int, eqD_bl, Prod.mk.injEq, and_assoc])
          exact step _ (by rw [sz_of hm]; omega)
        · rw [if_neg hneg]
          have h0 : ns[a] = 0 := by omega
          rw [h0] at hn
          obtain ⟨n1, m, hn1, hm, rfl⟩ := scn_call_inv hn
          have hlt2 : a + 1 < ns.length := by
            apply Classical.byContradiction
            intro hge
            exact scn_nil hn1 (List.drop_eq_nil_of_le (by omega))
          rw [List.drop_drop] at hm
          have hlt3 : a + 1 + n1 < ns.length := by
            apply Classical.byContradiction
            intro hge
            exact scn_nil hm (List.drop_eq_nil_of_le (by omega))
          have hat2 : atI (es.map D.int) ((a : Int) + 1) = some (.int ((a + 1 + sz ns (a + 1) : Nat) : Int)) := by
            refine atI_of (j := a + 1) (by omega) ?_
            rw [List.getElem?_map, hes (a + 1) (by omega) hlt2]
            rfl
          have hat3 : atI (es.map D.int) ((a + 1 + sz ns (a + 1) : Nat) : Int) = some (.int ((a + 1 + n1 + sz ns (a + 1 + n1) : Nat) : Int)) := by
            rw [sz_of hn1]
            refine atI_of (j := a + 1 + n1) rfl ?_
            rw [List.getElem?_map, hes (a + 1 + n1) (by omega) hlt3]
            rfl
          simp only [hat2]
          (try simp only [wSeq, wSet, wOp, wVar, wC, wUn, wChain, wAnd, wOr, wNot, wB, wAndT, wOrT, wNotT, wIf, wIfS, wRet, wDrop, wTup, wLst, wEmp, wSl, woNone, woSome, wCB, waNil, waCons, wgName, wgNil, wgCons, wgTup, wAug, wPar, wAsgG, wApp, wExt, wPop, wSetI, wNever, rd, rds, cl, cls, sv, ret, toS, items, rII, rIIC, rPlus, rMinus, rAddI, rTimes, rFdivW, rMod, rPowW, rNeg, rLt, rLe, rGt, rGe, rEqq, rNeq, rIsN, rNotN, rIxD, rSlD, cLen, cTuple, cList, cII, cMin, cMax, cAbs, cInt, List.getElem?_cons_zero, List.getElem?_cons_succ, List.set_cons_zero, List.set_cons_succ, List.replicate, List.cons_append, List.nil_append, Option.some.injEq, Option.map_some, exists_eq_left', exists_eq_left, exists_and_left, exists_const, ite_true, ite_false, if_true, if_false, reduceCtorEq, decide_eq_true_eq, Bool.not_eq_true', Bool.not_eq_true, Bool.false_eq_true, Bool.true_eq_false, false_and, and_false, exists_false, not_true_eq_false, not_false_eq_true, Bool.not_true, Bool.not_false, DV.c.injEq, D.int.injEq, D.bl.injEq, D.tup.injEq, D.lst.injEq, DV.f.injEq, S.val.injEq, S.own.injEq, List.cons.injEq, and_true, true_and, okD_int, okD_bl, eqD_int, eqD_bl, Prod.mk.injEq, and_assoc])
          simp only [hat3]
          (try simp only [wSeq, wSet, wOp, wVar, wC, wUn, wChain, wAnd, wOr, wNot, wB, wAndT, wOrT, wNotT, wIf, wIfS, wRet, wDrop, wTup, wLst, wEmp, wSl, woNone, woSome, wCB, waNil, waCons, wgName, wgNil, wgCons, wgTup, wAug, wPar, wAsgG, wApp, wExt, wPop, wSetI, wNever, rd, rds, cl, cls, sv, ret, toS, items, rII, rIIC, rPlus, rMinus, rAddI, rTimes, rFdivW, rMod, rPowW, rNeg, rLt, rLe, rGt, rGe, rEqq, rNeq, rIsN, rNotN, rIxD, rSlD, cLen, cTuple, cList, cII, cMin, cMax, cAbs, cInt, List.getElem?_cons_zero, List.getElem?_cons_succ, List.set_cons_zero, List.set_cons_succ, List.replicate, List.cons_append, List.nil_append, Option.some.injEq, Option.map_some, exists_eq_left', exists_eq_left, exists_and_left, exists_const, ite_true, ite_false, if_true, if_false, reduceCtorEq, decide_eq_true_eq, Bool.not_eq_true', Bool.not_eq_true, Bool.false_eq_true, Bool.true_eq_false, false_and, and_false, exists_false, not_true_eq_false, not_false_eq_true, Bool.not_true, Bool.not_false, DV.c.injEq, D.int.injEq, D.bl.injEq, D.tup.injEq, D.lst.injEq, DV.f.injEq, S.val.injEq, S.own.injEq, List.cons.injEq, and_true, true_and, okD_int, okD_bl, eqD_int, eqD_bl, Prod.mk.injEq, and_assoc])
          exact step _ (by rw [sz_of hm]; omega)
    · rintro δ ⟨es, s, rfl, hlen, hes⟩
      unfold w__law_ends_6
      simp only [wSeq, wSet, wOp, wVar, wC, wUn, wChain, wAnd, wOr, wNot, wB, wAndT, wOrT, wNotT, wIf, wIfS, wRet, wDrop, wTup, wLst, wEmp, wSl, woNone, woSome, wCB, waNil, waCons, wgName, wgNil, wgCons, wgTup, wAug, wPar, wAsgG, wApp, wExt, wPop, wSetI, wNever, rd, rds, cl, cls, sv, ret, toS, items, rII, rIIC, rPlus, rMinus, rAddI, rTimes, rFdivW, rMod, rPowW, rNeg, rLt, rLe, rGt, rGe, rEqq, rNeq, rIsN, rNotN, rIxD, rSlD, cLen, cTuple, cList, cII, cMin, cMax, cAbs, cInt, List.getElem?_cons_zero, List.getElem?_cons_succ, List.set_cons_zero, List.set_cons_succ, List.replicate, List.cons_append, List.nil_append, Option.some.injEq, Option.map_some, exists_eq_left', exists_eq_left, exists_and_left, exists_const, ite_true, ite_false, if_true, if_false, reduceCtorEq, decide_eq_true_eq, Bool.not_eq_true', Bool.not_eq_true, Bool.false_eq_true, Bool.true_eq_false, false_and, and_false, exists_false, not_true_eq_false, not_false_eq_true, Bool.not_true, Bool.not_false, DV.c.injEq, D.int.injEq, D.bl.injEq, D.tup.injEq, D.lst.injEq, DV.f.injEq, S.val.injEq, S.own.injEq, List.cons.injEq, and_true, true_and, okD_int, okD_bl, eqD_int, eqD_bl, Prod.mk.injEq, and_assoc]
      simp only [post__law_ends, unI_tI]
      congr 1
      apply List.ext_getElem?
      intro k
      rw [List.getElem?_map, List.getElem?_map]
      by_cases hk : k < ns.length
      · rw [hes k (by omega) hk, List.getElem?_range hk]
        rfl
      · rw [List.getElem?_eq_none (by omega), List.getElem?_eq_none (by simp; omega)]
        rfl
  · exact hp.elim
end Dl
namespace Dl
open PySem L2 Km
def pr (p : Int × Int) : D := .tup [.int p.1, .int p.2]
theorem plains_pr : ∀ l : List (Int × Int), plains (l.map pr) = true
  | [] => by rw [List.map_nil, plains]
  | p :: l => by rw [List.map_cons, plains, plains_pr l, pr, plain, plains, plains, plain, plains, plain]; rfl
def ppr (p : Int × Int) : PyData := .tuple [.int p.1, .int p.2]
theorem pys_pr : ∀ l : List (Int × Int), pys (l.map pr) = l.map ppr
  | [] => by rw [List.map_nil, pys]; rfl
  | p :: l => by rw [List.map_cons, pys, pys_pr l, pr, py, pys, pys, py, pys, py]; rfl
theorem lay_pr : ∀ l : List (Int × Int), PyData.canLayAll0 (l.map ppr) = true
  | [] => by rw [List.map_nil, PyData.canLayAll0]
  | p :: l => by rw [List.map_cons, PyData.canLayAll0, lay_pr l, ppr, PyData.canLay0, PyData.canLayAll0, PyData.canLayAll0, PyData.canLay0, PyData.canLayAll0, PyData.canLay0]; rfl
theorem depth_pr : ∀ l : List (Int × Int), PyData.depthAll (l.map ppr) ≤ 1
  | [] => by rw [List.map_nil, PyData.depthAll]; decide
  | p :: l => by
    have := depth_pr l
    rw [List.map_cons, PyData.depthAll, ppr, PyData.depth, PyData.depthAll, PyData.depthAll, PyData.depth, PyData.depthAll, PyData.depth]
    omega
theorem okD_prs (l : List (Int × Int)) : okD (.lst (l.map pr)) := by
  refine ⟨by rw [plain, plains_pr], ?_⟩
  rw [py, pys_pr]
  unfold SeqAt.shaped
  have := depth_pr l
  rw [PyData.canLay0, lay_pr, PyData.depth, decide_eq_true (by omega)]
  rfl
theorem okD_nil : okD (.lst []) := okD_prs []
theorem eqD_prs (l : List (Int × Int)) : eqD (.lst (l.map pr)) (.lst []) = l.isEmpty := by
  unfold eqD
  rw [py, py, pys_pr, pys, PyData.eqv]
  cases l with
  | nil => rw [List.map_nil, PyData.eqvAll]; rfl
  | cons p l => rw [List.map_cons, PyData.eqvAll]; rfl
/-- how many ints a place still makes at most -/
def cst (o : Int) (p : Int × Int) : Nat := if p.2 + o = 0 then 3 * (max p.1 1).toNat else (max p.1 1).toNat
def csts (o : Int) (l : List (Int × Int)) : Nat := (l.map (cst o)).sum
theorem csts_app (o : Int) (l m : List (Int × Int)) : csts o (l ++ m) = csts o l + csts o m := by
  unfold csts; rw [List.map_append, List.sum_append]
theorem csts_one (o : Int) (p : Int × Int) : csts o [p] = cst o p := by simp [csts]
theorem csts_two (o : Int) (p q : Int × Int) : csts o [p, q] = cst o p + cst o q := by simp [csts]
structure Drawn (n o : Int) (found : List Int) (todo : List (Int × Int)) : Prop where
  dp : ∀ p ∈ todo, 0 ≤ p.1 ∧ 0 ≤ p.2 ∧ p.2 ≤ found.length ∧ (1 ≤ p.1 ∨ 0 < p.2 + o)
  rng : ∀ c ∈ found, -1 ≤ c ∧ c ≤ 1000
  jd : ∀ l, jI 1 (found ++ l) = jI todo.length l
  len : ((found.length + csts o todo : Nat) : Int) ≤ 3 * n
theorem csts_len (o : Int) : ∀ t : List (Int × Int), t.length ≤ csts o t
  | [] => by simp
  | a :: r => by
    have h : 1 ≤ cst o a := by unfold cst; split <;> omega
    have := csts_len o r
    unfold csts at this ⊢
    simp only [List.length_cons, List.map_cons, List.sum_cons]; omega
theorem Drawn.step {n o : Int} {found : List Int} {t : List (Int × Int)} {p : Int × Int} (inv : Drawn n o found (t ++ [p])) (add : List Int) (new : List (Int × Int)) (hadd : ∀ c ∈ add, -1 ≤ c ∧ c ≤ 1000)
    (hj : ∀ (v : Nat) (l : List Int), jI (v + 1) (add ++ l) = jI (v + new.length) l) (hdp : ∀ q ∈ new, 0 ≤ q.1 ∧ 0 ≤ q.2 ∧ q.2 ≤ found.length + add.length ∧ (1 ≤ q.1 ∨ 0 < q.2 + o)) (hc : add.length + csts o new ≤ cst o p) : Drawn n o (found ++ add) (t ++ new) := by
  refine ⟨fun q hq => ?_, fun c hc => ?_, fun l => ?_, ?_⟩
  · rcases List.mem_append.mp hq with h | h
    · have := inv.dp q (List.mem_append_left _ h)
      rw [List.length_append]
      omega
    · have := hdp q h
      rw [List.length_append]
      omega
  · rcases List.mem_append.mp hc with h | h
    · exact inv.rng c h
    · exact hadd c h
  · rw [List.append_assoc, inv.jd, List.length_append, List.length_append]
    exact hj _ _
  · have := inv.len
    rw [csts_app, csts_one] at this
    rw [csts_app, List.length_append]
    omega
def inv_drawn (n o : Int) (m : Nat) (δ : List S) : Prop := ∃ (found : List Int) (todo : List (Int × Int)) (s5 s6 s7 s8 : S), δ = [.dice, .val (.int n), .val (.int o), .own (found.map .int), .own (todo.map pr), s5, s6, s7, s8] ∧ Drawn n o found todo ∧ m = csts o todo
theorem last_app {α : Type} (xs : List α) (x : α) : (xs ++ [x])[(xs ++ [x]).length - 1]? = some x := by simp
theorem goal__law_term_drawn : Goal w__law_term_drawn ["dice", "size", "open_count", "found", "todo", "left", "depth", "known", "inner"] 3 pre__law_term_drawn post__law_term_drawn := by
  intro xs hl hp
  unfold pre__law_term_drawn at hp
  split at hp
  · rename_i n o
    obtain ⟨n1, n2, o1, o2⟩ := hp
    unfold w__law_term_drawn
    simp only [List.length_cons, List.length_nil]
    simp only [wSeq, wSet, wOp, wVar, wC, wUn, wChain, wAnd, wOr, wNot, wB, wAndT, wOrT, wNotT, wIf, wIfS, wRet, wDrop, wTup, wLst, wEmp, wSl, woNone, woSome, wCB, waNil, waCons, wgName, wgNil, wgCons, wgTup, wAug, wPar, wAsgG, wApp, wExt, wPop, wSetI, wNever, rd, rds, cl, cls, sv, ret, toS, items, rII, rIIC, rPlus, rMinus, rAddI, rTimes, rFdivW, rMod, rPowW, rNeg, rLt, rLe, rGt, rGe, rEqq, rNeq, rIsN, rNotN, rIxD, rSlD, cLen, cTuple, cList, cII, cMin, cMax, cAbs, cInt, List.getElem?_cons_zero, List.getElem?_cons_succ, List.set_cons_zero, List.set_cons_succ, List.replicate, List.cons_append, List.nil_append, Option.some.injEq, Option.map_some, exists_eq_left', exists_eq_left, exists_and_left, exists_const, ite_true, ite_false, if_true, if_false, reduceCtorEq, decide_eq_true_eq, Bool.not_eq_true', Bool.not_eq_true, Bool.false_eq_true, Bool.true_eq_false, false_and, and_false, exists_false, not_true_eq_false, not_false_eq_true, Bool.not_true, Bool.not_false, DV.c.injEq, D.int.injEq, D.bl.injEq, D.tup.injEq, D.lst.injEq, DV.f.injEq, S.val.injEq, S.own.injEq, List.cons.injEq, and_true, true_and, okD_int, okD_bl, eqD_int, eqD_bl, Prod.mk.injEq, and_assoc]
    (repeat (refine And.intro ?_ ?_; · (first | rfl | decide | omega | (simp; done) | (simp; omega))))
    unfold w__law_term_drawn_19 wWhile
    simp only [wSeq, wSet, wOp, wVar, wC, wUn, wChain, wAnd, wOr, wNot, wB, wAndT, wOrT, wNotT, wIf, wIfS, wRet, wDrop, wTup, wLst, wEmp, wSl, woNone, woSome, wCB, waNil, waCons, wgName, wgNil, wgCons, wgTup, wAug, wPar, wAsgG, wApp, wExt, wPop, wSetI, wNever, rd, rds, cl, cls, sv, ret, toS, items, rII, rIIC, rPlus, rMinus, rAddI, rTimes, rFdivW, rMod, rPowW, rNeg, rLt, rLe, rGt, rGe, rEqq, rNeq, rIsN, rNotN, rIxD, rSlD, cLen, cTuple, cList, cII, cMin, cMax, cAbs, cInt, List.getElem?_cons_zero, List.getElem?_cons_succ, List.set_cons_zero, List.set_cons_succ, List.replicate, List.cons_append, List.nil_append, Option.some.injEq, Option.map_some, exists_eq_left', exists_eq_left, exists_and_left, exists_const, ite_true, ite_false, if_true, if_false, reduceCtorEq, decide_eq_true_eq, Bool.not_eq_true', Bool.not_eq_true, Bool.false_eq_true, Bool.true_eq_false, false_and, and_false, exists_false, not_true_eq_false, not_false_eq_true, Bool.not_true, Bool.not_false, DV.c.injEq, D.int.injEq, D.bl.injEq, D.tup.injEq, D.lst.injEq, DV.f.injEq, S.val.injEq, S.own.injEq, List.cons.injEq, and_true, true_and, okD_int, okD_bl, eqD_int, eqD_bl, Prod.mk.injEq, and_assoc]
    refine ⟨inv_drawn n o, ⟨csts o [(n, 0)], [], [(n, 0)], .no, .no, .no, .no, rfl, ⟨?_, ?_, ?_, ?_⟩, rfl⟩, ?_⟩
    · intro p hp
      simp at hp; subst hp
      simp; omega
    · simp
    · intro l; rfl
    · rw [csts_one]
      unfold cst
      simp only [List.length_nil]
      split <;> omega
    rintro m δ ⟨found, todo, s5, s6, s7, s8, rfl, inv, rfl⟩
    simp only [wSeq, wSet, wOp, wVar, wC, wUn, wChain, wAnd, wOr, wNot, wB, wAndT, wOrT, wNotT, wIf, wIfS, wRet, wDrop, wTup, wLst, wEmp, wSl, woNone, woSome, wCB, waNil, waCons, wgName, wgNil, wgCons, wgTup, wAug, wPar, wAsgG, wApp, wExt, wPop, wSetI, wNever, rd, rds, cl, cls, sv, ret, toS, items, rII, rIIC, rPlus, rMinus, rAddI, rTimes, rFdivW, rMod, rPowW, rNeg, rLt, rLe, rGt, rGe, rEqq, rNeq, rIsN, rNotN, rIxD, rSlD, cLen, cTuple, cList, cII, cMin, cMax, cAbs, cInt, List.getElem?_cons_zero, List.getElem?_cons_succ, List.set_cons_zero, List.set_cons_succ, List.replicate, List.cons_append, List.nil_append, Option.some.injEq, Option.map_some, exists_eq_left', exists_eq_left, exists_and_left, exists_const, ite_true, ite_false, if_true, if_false, reduceCtorEq, decide_eq_true_eq, Bool.not_eq_true', Bool.not_eq_true, Bool.false_eq_true, Bool.true_eq_false, false_and, and_false, exists_false, not_true_eq_false, not_false_eq_true, Bool.not_true, Bool.not_false, DV.c.injEq, D.int.injEq, D.bl.injEq, D.tup.injEq, D.lst.injEq, DV.f.injEq, S.val.injEq, S.own.injEq, List.cons.injEq, and_true, true_and, okD_int, okD_bl, eqD_int, eqD_bl, Prod.mk.injEq, and_assoc]
    refine ⟨by simp, okD_prs _, okD_nil, ?_⟩
    rw [eqD_prs]
    rcases List.eq_nil_or_concat todo with rfl | ⟨t, p, rfl⟩
    · rw [if_neg (by simp)]
      unfold w__law_term_drawn_18
      simp only [wSeq, wSet, wOp, wVar, wC, wUn, wChain, wAnd, wOr, wNot, wB, wAndT, wOrT, wNotT, wIf, wIfS, wRet, wDrop, wTup, wLst, wEmp, wSl, woNone, woSome, wCB, waNil, waCons, wgName, wgNil, wgCons, wgTup, wAug, wPar, wAsgG, wApp, wExt, wPop, wSetI, wNever, rd, rds, cl, cls, sv, ret, toS, items, rII, rIIC, rPlus, rMinus, rAddI, rTimes, rFdivW, rMod, rPowW, rNeg, rLt, rLe, rGt, rGe, rEqq, rNeq, rIsN, rNotN, rIxD, rSlD, cLen, cTuple, cList, cII, cMin, cMax, cAbs, cInt, List.getElem?_cons_zero, List.getElem?_cons_succ, List.set_cons_zero, List.set_cons_succ, List.replicate, List.cons_append, List.nil_append, Option.some.injEq, Option.map_some, exists_eq_left', exists_eq_left, exists_and_left, exists_const, ite_true, ite_false, if_true, if_false, reduceCtorEq, decide_eq_true_eq, Bool.not_eq_true', Bool.not_eq_true, Bool.false_eq_true, Bool.true_eq_false, false_and, and_false, exists_false, not_true_eq_false, not_false_eq_true, Bool.not_true, Bool.not_false, DV.c.injEq, D.int.injEq, D.bl.injEq, D.tup.injEq, D.lst.injEq, DV.f.injEq, S.val.injEq, S.own.injEq, List.cons.injEq, and_true, true_and, okD_int, okD_bl, eqD_int, eqD_bl, Prod.mk.injEq, and_assoc]
      refine ⟨found, rfl, ⟨?_, inv.rng, ?_⟩, ?_⟩
      · have := inv.len
        omega
      · have := inv.jd []
        rw [List.append_nil] at this
        rw [this]
        rfl
      · have := inv.len
        omega
    · rw [if_pos (by simp)]
      rw [List.concat_eq_append] at inv ⊢
      obtain ⟨l, d⟩ := p
      obtain ⟨l0, d0, d1, ld⟩ := inv.dp (l, d) (by simp)
      simp only at l0 d0 d1 ld
      have fl := inv.len
      -- where a turn may end
      have fin : ∀ (add : List Int) (new : List (Int × Int)) (s5 s6 s7 s8 : S), (∀ c ∈ add, -1 ≤ c ∧ c ≤ 1000) → (∀ (v : Nat) (l : List Int), jI (v + 1) (add ++ l) = jI (v + new.length) l) → (∀ q ∈ new, 0 ≤ q.1 ∧ 0 ≤ q.2 ∧ q.2 ≤ found.length + add.length ∧ (1 ≤ q.1 ∨ 0 < q.2 + o)) →
          0 < add.length → add.length + csts o new ≤ cst o (l, d) → ∃ m', m' < csts o (t ++ [(l, d)]) ∧ inv_drawn n o m' [.dice, .val (.int n), .val (.int o), .own (found.map .int ++ add.map .int), .own (t.map pr ++ new.map pr), s5, s6, s7, s8] := by
        intro add new s5 s6 s7 s8 h1 h2 h3 h4 h5
        refine ⟨csts o (t ++ new), by rw [csts_app, csts_app, csts_one]; omega, found ++ add, t ++ new, s5, s6, s7, s8, by rw [List.map_append, List.map_append], inv.step add new h1 h2 h3 h5, rfl⟩
      have hc : cst o (l, d) = if d + o = 0 then 3 * (max l 1).toNat else (max l 1).toNat := rfl
      have hcost : ∀ a b : Int, cst o (a, b) = if b + o = 0 then 3 * (max a 1).toNat else (max a 1).toNat := fun _ _ => rfl
      have lup : l ≤ 1000 := by
        have := fl
        rw [csts_app, csts_one, hc] at this
        split at this <;> omega
      unfold w__law_term_drawn_17
      rw [List.map_append]
      simp only [List.map_cons, List.map_nil]
      simp only [wSeq, wSet, wOp, wVar, wC, wUn, wChain, wAnd, wOr, wNot, wB, wAndT, wOrT, wNotT, wIf, wIfS, wRet, wDrop, wTup, wLst, wEmp, wSl, woNone, woSome, wCB, waNil, waCons, wgName, wgNil, wgCons, wgTup, wAug, wPar, wAsgG, wApp, wExt, wPop, wSetI, wNever, rd, rds, cl, cls, sv, ret, toS, items, rII, rIIC, rPlus, rMinus, rAddI, rTimes, rFdivW, rMod, rPowW, rNeg, rLt, rLe, rGt, rGe, rEqq, rNeq, rIsN, rNotN, rIxD, rSlD, cLen, cTuple, cList, cII, cMin, cMax, cAbs, cInt, List.getElem?_cons_zero, List.getElem?_cons_succ, List.set_cons_zero, List.set_cons_succ, List.replicate, List.cons_append, List.nil_append, Option.some.injEq, Option.map_some, exists_eq_left', exists_eq_left, exists_and_left, exists_const, ite_true, ite_false, if_true, if_false, reduceCtorEq, decide_eq_true_eq, Bool.not_eq_true', Bool.not_eq_true, Bool.false_eq_true, Bool.true_eq_false, false_and, and_false, exists_false, not_true_eq_false, not_false_eq_true, Bool.not_true, Bool.not_false, DV.c.injEq, D.int.injEq, D.bl.injEq, D.tup.injEq, D.lst.injEq, DV.f.injEq, S.val.injEq, S.own.injEq, List.cons.injEq, and_true, true_and, okD_int, okD_bl, eqD_int, eqD_bl, Prod.mk.injEq, and_assoc]
      simp only [last_app, List.dropLast_concat, pr]
      simp only [wSeq, wSet, wOp, wVar, wC, wUn, wChain, wAnd, wOr, wNot, wB, wAndT, wOrT, wNotT, wIf, wIfS, wRet, wDrop, wTup, wLst, wEmp, wSl, woNone, woSome, wCB, waNil, waCons, wgName, wgNil, wgCons, wgTup, wAug, wPar, wAsgG, wApp, wExt, wPop, wSetI, wNever, rd, rds, cl, cls, sv, ret, toS, items, rII, rIIC, rPlus, rMinus, rAddI, rTimes, rFdivW, rMod, rPowW, rNeg, rLt, rLe, rGt, rGe, rEqq, rNeq, rIsN, rNotN, rIxD, rSlD, cLen, cTuple, cList, cII, cMin, cMax, cAbs, cInt, List.getElem?_cons_zero, List.getElem?_cons_succ, List.set_cons_zero, List.set_cons_succ, List.replicate, List.cons_append, List.nil_append, Option.some.injEq, Option.map_some, exists_eq_left', exists_eq_left, exists_and_left, exists_const, ite_true, ite_false, if_true, if_false, reduceCtorEq, decide_eq_true_eq, Bool.not_eq_true', Bool.not_eq_true, Bool.false_eq_true, Bool.true_eq_false, false_and, and_false, exists_false, not_true_eq_false, not_false_eq_true, Bool.not_true, Bool.not_false, DV.c.injEq, D.int.injEq, D.bl.injEq, D.tup.injEq, D.lst.injEq, DV.f.injEq, S.val.injEq, S.own.injEq, List.cons.injEq, and_true, true_and, okD_int, okD_bl, eqD_int, eqD_bl, Prod.mk.injEq, and_assoc]
      refine ⟨rfl, ?_⟩
      suffices H : ∀ R : DEnds, (∀ δ', (∃ m', m' < csts o (t ++ [(l, d)]) ∧ inv_drawn n o m' δ') → R.nx δ') →
          w__law_term_drawn_16 R [.dice, .val (.int n), .val (.int o), .own (found.map .int), .own (t.map pr), .val (.int l), .val (.int d), s7, s8] from H _ fun _ h => h
      intro R hR
      have flen : (found.map D.int).length < 100000 := by rw [List.length_map]; omega
      have tlen : (t.map pr).length + 2 ≤ 100000 := by
        have h1 := csts_len o t
        rw [csts_app] at fl
        rw [List.length_map]; omega
      have one : ∀ (q : Int × Int) (s7 s8 : S), 0 ≤ q.1 → 0 ≤ q.2 → q.2 ≤ found.length + 1 → (1 ≤ q.1 ∨ 0 < q.2 + o) → 1 + cst o q ≤ cst o (l, d) → R.nx [.dice, .val (.int n), .val (.int o), .own (found.map .int ++ [.int (-1)]), .own (t.map pr ++ [pr q]), .val (.int l), .val (.int d), s7, s8] := by
        intro q s7 s8 h1 h2 h3 h5 h4
        refine hR _ (fin [-1] [q] _ _ _ _ (by simp) (fun v l => rfl) (fun q' hq => ?_) (by simp) (by rw [csts_one]; exact h4))
        have : q' = q := by simpa using hq
        subst this
        exact ⟨h1, h2, by simpa using h3, h5⟩
      have two : ∀ (add : List Int) (q q' : Int × Int) (s7 s8 : S), (∀ c ∈ add, -1 ≤ c ∧ c ≤ 0) → (∀ (v : Nat) (l : List Int), jI (v + 1) (add ++ l) = jI (v + 2) l) → 0 < add.length → 1 ≤ q.1 → 1 ≤ q'.1 → 0 ≤ q.2 → 0 ≤ q'.2 → q.2 ≤ found.length + add.length → q'.2 ≤ found.length + add.length →
          add.length + (cst o q + cst o q') ≤ cst o (l, d) → R.nx [.dice, .val (.int n), .val (.int o), .own (found.map .int ++ add.map .int), .own (t.map pr ++ [pr q, pr q']), .val (.int l), .val (.int d), s7, s8] := by
        intro add q q' s7 s8 h1 h2 h3 h4 h5 h6 h7 h8 h9 h10
        refine hR _ (fin add [q, q'] _ _ _ _ (fun c hc => ⟨(h1 c hc).1, by have := (h1 c hc).2; omega⟩) h2 (fun z hz => ?_) h3 (by rw [csts_two]; exact h10))
        have : z = q ∨ z = q' := by simpa using hz
        rcases this with rfl | rfl
        · exact ⟨by omega, h6, h8, .inl h4⟩
        · exact ⟨by omega, h7, h9, .inl h5⟩
      unfold w__law_term_drawn_16
      simp only [wSeq, wSet, wOp, wVar, wC, wUn, wChain, wAnd, wOr, wNot, wB, wAndT, wOrT, wNotT, wIf, wIfS, wRet, wDrop, wTup, wLst, wEmp, wSl, woNone, woSome, wCB, waNil, waCons, wgName, wgNil, wgCons, wgTup, wAug, wPar, wAsgG, wApp, wExt, wPop, wSetI, wNever, rd, rds, cl, cls, sv, ret, toS, items, rII, rIIC, rPlus, rMinus, rAddI, rTimes, rFdivW, rMod, rPowW, rNeg, rLt, rLe, rGt, rGe, rEqq, rNeq, rIsN, rNotN, rIxD, rSlD, cLen, cTuple, cList, cII, cMin, cMax, cAbs, cInt, List.getElem?_cons_zero, List.getElem?_cons_succ, List.set_cons_zero, List.set_cons_succ, List.replicate, List.cons_append, List.nil_append, Option.some.injEq, Option.map_some, exists_eq_left', exists_eq_left, exists_and_left, exists_const, ite_true, ite_false, if_true, if_false, reduceCtorEq, decide_eq_true_eq, Bool.not_eq_true', Bool.not_eq_true, Bool.false_eq_true, Bool.true_eq_false, false_and, and_false, exists_false, not_true_eq_false, not_false_eq_true, Bool.not_true, Bool.not_false, DV.c.injEq, D.int.injEq, D.bl.injEq, D.tup.injEq, D.lst.injEq, DV.f.injEq, S.val.injEq, S.own.injEq, List.cons.injEq, and_true, true_and, okD_int, okD_bl, eqD_int, eqD_bl, Prod.mk.injEq, and_assoc]
      unfold w__law_term_drawn_15
      simp only [wSeq, wSet, wOp, wVar, wC, wUn, wChain, wAnd, wOr, wNot, wB, wAndT, wOrT, wNotT, wIf, wIfS, wRet, wDrop, wTup, wLst, wEmp, wSl, woNone, woSome, wCB, waNil, waCons, wgName, wgNil, wgCons, wgTup, wAug, wPar, wAsgG, wApp, wExt, wPop, wSetI, wNever, rd, rds, cl, cls, sv, ret, toS, items, rII, rIIC, rPlus, rMinus, rAddI, rTimes, rFdivW, rMod, rPowW, rNeg, rLt, rLe, rGt, rGe, rEqq, rNeq, rIsN, rNotN, rIxD, rSlD, cLen, cTuple, cList, cII, cMin, cMax, cAbs, cInt, List.getElem?_cons_zero, List.getElem?_cons_succ, List.set_cons_zero, List.set_cons_succ, List.replicate, List.cons_append, List.nil_append, Option.some.injEq, Option.map_some, exists_eq_left', exists_eq_left, exists_and_left, exists_const, ite_true, ite_false, if_true, if_false, reduceCtorEq, decide_eq_true_eq, Bool.not_eq_true', Bool.not_eq_true, Bool.false_eq_true, Bool.true_eq_false, false_and, and_false, exists_false, not_true_eq_false, not_false_eq_true, Bool.not_true, Bool.not_false, DV.c.injEq, D.int.injEq, D.bl.injEq, D.tup.injEq, D.lst.injEq, DV.f.injEq, S.val.injEq, S.own.injEq, List.cons.injEq, and_true, true_and, okD_int, okD_bl, eqD_int, eqD_bl, Prod.mk.injEq, and_assoc]
      by_cases c1 : l ≤ 1 ∧ 0 < d + o
      · rw [if_pos c1.1, if_pos c1.2]
        unfold w__law_term_drawn_1
        simp only [wSeq, wSet, wOp, wVar, wC, wUn, wChain, wAnd, wOr, wNot, wB, wAndT, wOrT, wNotT, wIf, wIfS, wRet, wDrop, wTup, wLst, wEmp, wSl, woNone, woSome, wCB, waNil, waCons, wgName, wgNil, wgCons, wgTup, wAug, wPar, wAsgG, wApp, wExt, wPop, wSetI, wNever, rd, rds, cl, cls, sv, ret, toS, items, rII, rIIC, rPlus, rMinus, rAddI, rTimes, rFdivW, rMod, rPowW, rNeg, rLt, rLe, rGt, rGe, rEqq, rNeq, rIsN, rNotN, rIxD, rSlD, cLen, cTuple, cList, cII, cMin, cMax, cAbs, cInt, List.getElem?_cons_zero, List.getElem?_cons_succ, List.set_cons_zero, List.set_cons_succ, List.replicate, List.cons_append, List.nil_append, Option.some.injEq, Option.map_some, exists_eq_left', exists_eq_left, exists_and_left, exists_const, ite_true, ite_false, if_true, if_false, reduceCtorEq, decide_eq_true_eq, Bool.not_eq_true', Bool.not_eq_true, Bool.false_eq_true, Bool.true_eq_false, false_and, and_false, exists_false, not_true_eq_false, not_false_eq_true, Bool.not_true, Bool.not_false, DV.c.injEq, D.int.injEq, D.bl.injEq, D.tup.injEq, D.lst.injEq, DV.f.injEq, S.val.injEq, S.own.injEq, List.cons.injEq, and_true, true_and, okD_int, okD_bl, eqD_int, eqD_bl, Prod.mk.injEq, and_assoc]
        simp only [wCall]
        (try simp only [wSeq, wSet, wOp, wVar, wC, wUn, wChain, wAnd, wOr, wNot, wB, wAndT, wOrT, wNotT, wIf, wIfS, wRet, wDrop, wTup, wLst, wEmp, wSl, woNone, woSome, wCB, waNil, waCons, wgName, wgNil, wgCons, wgTup, wAug, wPar, wAsgG, wApp, wExt, wPop, wSetI, wNever, rd, rds, cl, cls, sv, ret, toS, items, rII, rIIC, rPlus, rMinus, rAddI, rTimes, rFdivW, rMod, rPowW, rNeg, rLt, rLe, rGt, rGe, rEqq, rNeq, rIsN, rNotN, rIxD, rSlD, cLen, cTuple, cList, cII, cMin, cMax, cAbs, cInt, List.getElem?_cons_zero, List.getElem?_cons_succ, List.set_cons_zero, List.set_cons_succ, List.replicate, List.cons_append, List.nil_append, Option.some.injEq, Option.map_some, exists_eq_left', exists_eq_left, exists_and_left, exists_const, ite_true, ite_false, if_true, if_false, reduceCtorEq, decide_eq_true_eq, Bool.not_eq_true', Bool.not_eq_true, Bool.false_eq_true, Bool.true_eq_false, false_and, and_false, exists_false, not_true_eq_false, not_false_eq_true, Bool.not_true, Bool.not_false, DV.c.injEq, D.int.injEq, D.bl.injEq, D.tup.injEq, D.lst.injEq, DV.f.injEq, S.val.injEq, S.own.injEq, List.cons.injEq, and_true, true_and, okD_int, okD_bl, eqD_int, eqD_bl, Prod.mk.injEq, and_assoc])
        refine ⟨flen, roll_go c1.2 (by omega) fun i i0 i1 => roll_go c1.2 (by omega) fun j j0 j1 => ?_⟩
        (try simp only [wSeq, wSet, wOp, wVar, wC, wUn, wChain, wAnd, wOr, wNot, wB, wAndT, wOrT, wNotT, wIf, wIfS, wRet, wDrop, wTup, wLst, wEmp, wSl, woNone, woSome, wCB, waNil, waCons, wgName, wgNil, wgCons, wgTup, wAug, wPar, wAsgG, wApp, wExt, wPop, wSetI, wNever, rd, rds, cl, cls, sv, ret, toS, items, rII, rIIC, rPlus, rMinus, rAddI, rTimes, rFdivW, rMod, rPowW, rNeg, rLt, rLe, rGt, rGe, rEqq, rNeq, rIsN, rNotN, rIxD, rSlD, cLen, cTuple, cList, cII, cMin, cMax, cAbs, cInt, List.getElem?_cons_zero, List.getElem?_cons_succ, List.set_cons_zero, List.set_cons_succ, List.replicate, List.cons_append, List.nil_append, Option.some.injEq, Option.map_some, exists_eq_left', exists_eq_left, exists_and_left, exists_const, ite_true, ite_false, if_true, if_false, reduceCtorEq, decide_eq_true_eq, Bool.not_eq_true', Bool.not_eq_true, Bool.false_eq_true, Bool.true_eq_false, false_and, and_false, exists_false, not_true_eq_false, not_false_eq_true, Bool.not_true, Bool.not_false, DV.c.injEq, D.int.injEq, D.bl.injEq, D.tup.injEq, D.lst.injEq, DV.f.injEq, S.val.injEq, S.own.injEq, List.cons.injEq, and_true, true_and, okD_int, okD_bl, eqD_int, eqD_bl, Prod.mk.injEq, and_assoc])
        have hf := fin [1 + (if j < i then j else i)] [] (.val (.int l)) (.val (.int d)) (.val (.int (d + o))) s8 ?_ ?_ (by simp) (by simp) ?_
        · rw [List.map_nil, List.append_nil] at hf
          exact hR _ hf
        · simp only [List.mem_singleton, forall_eq]
          split <;> omega
        · intro v r
          show jI (v + 1) ((1 + if j < i then j else i) :: r) = jI v r
          rw [jI, if_neg (by omega)]
          unfold up
          rw [if_neg (by split <;> omega), if_pos (by split <;> omega)]
          rfl
        · rw [hc]
          simp only [csts, List.map_nil, List.sum_nil, List.length_singleton]
          split <;> omega
      · have go : w__law_term_drawn_14 R [.dice, .val (.int n), .val (.int o), .own (found.map .int), .own (t.map pr), .val (.int l), .val (.int d), .val (.int (d + o)), s8] := by
          unfold w__law_term_drawn_14
          simp only [wSeq, wSet, wOp, wVar, wC, wUn, wChain, wAnd, wOr, wNot, wB, wAndT, wOrT, wNotT, wIf, wIfS, wRet, wDrop, wTup, wLst, wEmp, wSl, woNone, woSome, wCB, waNil, waCons, wgName, wgNil, wgCons, wgTup, wAug, wPar, wAsgG, wApp, wExt, wPop, wSetI, wNever, rd, rds, cl, cls, sv, ret, toS, items, rII, rIIC, rPlus, rMinus, rAddI, rTimes, rFdivW, rMod, rPowW, rNeg, rLt, rLe, rGt, rGe, rEqq, rNeq, rIsN, rNotN, rIxD, rSlD, cLen, cTuple, cList, cII, cMin, cMax, cAbs, cInt, List.getElem?_cons_zero, List.getElem?_cons_succ, List.set_cons_zero, List.set_cons_succ, List.replicate, List.cons_append, List.nil_append, Option.some.injEq, Option.map_some, exists_eq_left', exists_eq_left, exists_and_left, exists_const, ite_true, ite_false, if_true, if_false, reduceCtorEq, decide_eq_true_eq, Bool.not_eq_true', Bool.not_eq_true, Bool.false_eq_true, Bool.true_eq_false, false_and, and_false, exists_false, not_true_eq_false, not_false_eq_true, Bool.not_true, Bool.not_false, DV.c.injEq, D.int.injEq, D.bl.injEq, D.tup.injEq, D.lst.injEq, DV.f.injEq, S.val.injEq, S.own.injEq, List.cons.injEq, and_true, true_and, okD_int, okD_bl, eqD_int, eqD_bl, Prod.mk.injEq, and_assoc]
          have b3 : (l ≤ 2 ∨ (d + o = 0 ∧ l < 4)) → w__law_term_drawn_3 R [.dice, .val (.int n), .val (.int o), .own (found.map .int), .own (t.map pr), .val (.int l), .val (.int d), .val (.int (d + o)), s8] := by
            intro c2
            unfold w__law_term_drawn_3
            simp only [wSeq, wSet, wOp, wVar, wC, wUn, wChain, wAnd, wOr, wNot, wB, wAndT, wOrT, wNotT, wIf, wIfS, wRet, wDrop, wTup, wLst, wEmp, wSl, woNone, woSome, wCB, waNil, waCons, wgName, wgNil, wgCons, wgTup, wAug, wPar, wAsgG, wApp, wExt, wPop, wSetI, wNever, rd, rds, cl, cls, sv, ret, toS, items, rII, rIIC, rPlus, rMinus, rAddI, rTimes, rFdivW, rMod, rPowW, rNeg, rLt, rLe, rGt, rGe, rEqq, rNeq, rIsN, rNotN, rIxD, rSlD, cLen, cTuple, cList, cII, cMin, cMax, cAbs, cInt, List.getElem?_cons_zero, List.getElem?_cons_succ, List.set_cons_zero, List.set_cons_succ, List.replicate, List.cons_append, List.nil_append, Option.some.injEq, Option.map_some, exists_eq_left', exists_eq_left, exists_and_left, exists_const, ite_true, ite_false, if_true, if_false, reduceCtorEq, decide_eq_true_eq, Bool.not_eq_true', Bool.not_eq_true, Bool.false_eq_true, Bool.true_eq_false, false_and, and_false, exists_false, not_true_eq_false, not_false_eq_true, Bool.not_true, Bool.not_false, DV.c.injEq, D.int.injEq, D.bl.injEq, D.tup.injEq, D.lst.injEq, DV.f.injEq, S.val.injEq, S.own.injEq, List.cons.injEq, and_true, true_and, okD_int, okD_bl, eqD_int, eqD_bl, Prod.mk.injEq, and_assoc]
            refine ⟨flen, ?_⟩
            unfold w__law_term_drawn_2
            simp only [wSeq, wSet, wOp, wVar, wC, wUn, wChain, wAnd, wOr, wNot, wB, wAndT, wOrT, wNotT, wIf, wIfS, wRet, wDrop, wTup, wLst, wEmp, wSl, woNone, woSome, wCB, waNil, waCons, wgName, wgNil, wgCons, wgTup, wAug, wPar, wAsgG, wApp, wExt, wPop, wSetI, wNever, rd, rds, cl, cls, sv, ret, toS, items, rII, rIIC, rPlus, rMinus, rAddI, rTimes, rFdivW, rMod, rPowW, rNeg, rLt, rLe, rGt, rGe, rEqq, rNeq, rIsN, rNotN, rIxD, rSlD, cLen, cTuple, cList, cII, cMin, cMax, cAbs, cInt, List.getElem?_cons_zero, List.getElem?_cons_succ, List.set_cons_zero, List.set_cons_succ, List.replicate, List.cons_append, List.nil_append, Option.some.injEq, Option.map_some, exists_eq_left', exists_eq_left, exists_and_left, exists_const, ite_true, ite_false, if_true, if_false, reduceCtorEq, decide_eq_true_eq, Bool.not_eq_true', Bool.not_eq_true, Bool.false_eq_true, Bool.true_eq_false, false_and, and_false, exists_false, not_true_eq_false, not_false_eq_true, Bool.not_true, Bool.not_false, DV.c.injEq, D.int.injEq, D.bl.injEq, D.tup.injEq, D.lst.injEq, DV.f.injEq, S.val.injEq, S.own.injEq, List.cons.injEq, and_true, true_and, okD_int, okD_bl, eqD_int, eqD_bl, Prod.mk.injEq, and_assoc]
            (repeat (refine And.intro ?_ ?_; · (first | rfl | decide | omega | (simp; done) | (simp; omega))))
            refine one (l - 1, d + 1) _ _ ?_ (by simp; omega) (by simp; omega) (.inr (by simp; omega)) ?_
            · simp only; omega
            · rw [hc, hcost]
              rw [if_neg (by omega)]
              split <;> omega
          have b13 : ¬ (l ≤ 2 ∨ (d + o = 0 ∧ l < 4)) → w__law_term_drawn_13 R [.dice, .val (.int n), .val (.int o), .own (found.map .int), .own (t.map pr), .val (.int l), .val (.int d), .val (.int (d + o)), s8] := by
            intro c2
            have b12 : w__law_term_drawn_12 R [.dice, .val (.int n), .val (.int o), .own (found.map .int), .own (t.map pr), .val (.int l), .val (.int d), .val (.int (d + o)), s8] := by
              unfold w__law_term_drawn_12
              simp only [wSeq, wSet, wOp, wVar, wC, wUn, wChain, wAnd, wOr, wNot, wB, wAndT, wOrT, wNotT, wIf, wIfS, wRet, wDrop, wTup, wLst, wEmp, wSl, woNone, woSome, wCB, waNil, waCons, wgName, wgNil, wgCons, wgTup, wAug, wPar, wAsgG, wApp, wExt, wPop, wSetI, wNever, rd, rds, cl, cls, sv, ret, toS, items, rII, rIIC, rPlus, rMinus, rAddI, rTimes, rFdivW, rMod, rPowW, rNeg, rLt, rLe, rGt, rGe, rEqq, rNeq, rIsN, rNotN, rIxD, rSlD, cLen, cTuple, cList, cII, cMin, cMax, cAbs, cInt, List.getElem?_cons_zero, List.getElem?_cons_succ, List.set_cons_zero, List.set_cons_succ, List.replicate, List.cons_append, List.nil_append, Option.some.injEq, Option.map_some, exists_eq_left', exists_eq_left, exists_and_left, exists_const, ite_true, ite_false, if_true, if_false, reduceCtorEq, decide_eq_true_eq, Bool.not_eq_true', Bool.not_eq_true, Bool.false_eq_true, Bool.true_eq_false, false_and, and_false, exists_false, not_true_eq_false, not_false_eq_true, Bool.not_true, Bool.not_false, DV.c.injEq, D.int.injEq, D.bl.injEq, D.tup.injEq, D.lst.injEq, DV.f.injEq, S.val.injEq, S.own.injEq, List.cons.injEq, and_true, true_and, okD_int, okD_bl, eqD_int, eqD_bl, Prod.mk.injEq, and_assoc]
              simp only [wCall]
              (try simp only [wSeq, wSet, wOp, wVar, wC, wUn, wChain, wAnd, wOr, wNot, wB, wAndT, wOrT, wNotT, wIf, wIfS, wRet, wDrop, wTup, wLst, wEmp, wSl, woNone, woSome, wCB, waNil, waCons, wgName, wgNil, wgCons, wgTup, wAug, wPar, wAsgG, wApp, wExt, wPop, wSetI, wNever, rd, rds, cl, cls, sv, ret, toS, items, rII, rIIC, rPlus, rMinus, rAddI, rTimes, rFdivW, rMod, rPowW, rNeg, rLt, rLe, rGt, rGe, rEqq, rNeq, rIsN, rNotN, rIxD, rSlD, cLen, cTuple, cList, cII, cMin, cMax, cAbs, cInt, List.getElem?_cons_zero, List.getElem?_cons_succ, List.set_cons_zero, List.set_cons_succ, List.replicate, List.cons_append, List.nil_append, Option.some.injEq, Option.map_some, exists_eq_left', exists_eq_left, exists_and_left, exists_const, ite_true, ite_false, if_true, if_false, reduceCtorEq, decide_eq_true_eq, Bool.not_eq_true', Bool.not_eq_true, Bool.false_eq_true, Bool.true_eq_false, false_and, and_false, exists_false, not_true_eq_false, not_false_eq_true, Bool.not_true, Bool.not_false, DV.c.injEq, D.int.injEq, D.bl.injEq, D.tup.injEq, D.lst.injEq, DV.f.injEq, S.val.injEq, S.own.injEq, List.cons.injEq, and_true, true_and, okD_int, okD_bl, eqD_int, eqD_bl, Prod.mk.injEq, and_assoc])
              refine roll_go (by omega) (by omega) fun i i0 i1 => ?_
              (try simp only [wSeq, wSet, wOp, wVar, wC, wUn, wChain, wAnd, wOr, wNot, wB, wAndT, wOrT, wNotT, wIf, wIfS, wRet, wDrop, wTup, wLst, wEmp, wSl, woNone, woSome, wCB, waNil, waCons, wgName, wgNil, wgCons, wgTup, wAug, wPar, wAsgG, wApp, wExt, wPop, wSetI, wNever, rd, rds, cl, cls, sv, ret, toS, items, rII, rIIC, rPlus, rMinus, rAddI, rTimes, rFdivW, rMod, rPowW, rNeg, rLt, rLe, rGt, rGe, rEqq, rNeq, rIsN, rNotN, rIxD, rSlD, cLen, cTuple, cList, cII, cMin, cMax, cAbs, cInt, List.getElem?_cons_zero, List.getElem?_cons_succ, List.set_cons_zero, List.set_cons_succ, List.replicate, List.cons_append, List.nil_append, Option.some.injEq, Option.map_some, exists_eq_left', exists_eq_left, exists_and_left, exists_const, ite_true, ite_false, if_true, if_false, reduceCtorEq, decide_eq_true_eq, Bool.not_eq_true', Bool.not_eq_true, Bool.false_eq_true, Bool.true_eq_false, false_and, and_false, exists_false, not_true_eq_false, not_false_eq_true, Bool.not_true, Bool.not_false, DV.c.injEq, D.int.injEq, D.bl.injEq, D.tup.injEq, D.lst.injEq, DV.f.injEq, S.val.injEq, S.own.injEq, List.cons.injEq, and_true, true_and, okD_int, okD_bl, eqD_int, eqD_bl, Prod.mk.injEq, and_assoc])
              by_cases hi : i = 0
              · rw [if_pos hi]
                unfold w__law_term_drawn_8
                simp only [wSeq, wSet, wOp, wVar, wC, wUn, wChain, wAnd, wOr, wNot, wB, wAndT, wOrT, wNotT, wIf, wIfS, wRet, wDrop, wTup, wLst, wEmp, wSl, woNone, woSome, wCB, waNil, waCons, wgName, wgNil, wgCons, wgTup, wAug, wPar, wAsgG, wApp, wExt, wPop, wSetI, wNever, rd, rds, cl, cls, sv, ret, toS, items, rII, rIIC, rPlus, rMinus, rAddI, rTimes, rFdivW, rMod, rPowW, rNeg, rLt, rLe, rGt, rGe, rEqq, rNeq, rIsN, rNotN, rIxD, rSlD, cLen, cTuple, cList, cII, cMin, cMax, cAbs, cInt, List.getElem?_cons_zero, List.getElem?_cons_succ, List.set_cons_zero, List.set_cons_succ, List.replicate, List.cons_append, List.nil_append, Option.some.injEq, Option.map_some, exists_eq_left', exists_eq_left, exists_and_left, exists_const, ite_true, ite_false, if_true, if_false, reduceCtorEq, decide_eq_true_eq, Bool.not_eq_true', Bool.not_eq_true, Bool.false_eq_true, Bool.true_eq_false, false_and, and_false, exists_false, not_true_eq_false, not_false_eq_true, Bool.not_true, Bool.not_false, DV.c.injEq, D.int.injEq, D.bl.injEq, D.tup.injEq, D.lst.injEq, DV.f.injEq, S.val.injEq, S.own.injEq, List.cons.injEq, and_true, true_and, okD_int, okD_bl, eqD_int, eqD_bl, Prod.mk.injEq, and_assoc]
                refine ⟨flen, ?_⟩
                unfold w__law_term_drawn_7
                simp only [wSeq, wSet, wOp, wVar, wC, wUn, wChain, wAnd, wOr, wNot, wB, wAndT, wOrT, wNotT, wIf, wIfS, wRet, wDrop, wTup, wLst, wEmp, wSl, woNone, woSome, wCB, waNil, waCons, wgName, wgNil, wgCons, wgTup, wAug, wPar, wAsgG, wApp, wExt, wPop, wSetI, wNever, rd, rds, cl, cls, sv, ret, toS, items, rII, rIIC, rPlus, rMinus, rAddI, rTimes, rFdivW, rMod, rPowW, rNeg, rLt, rLe, rGt, rGe, rEqq, rNeq, rIsN, rNotN, rIxD, rSlD, cLen, cTuple, cList, cII, cMin, cMax, cAbs, cInt, List.getElem?_cons_zero, List.getElem?_cons_succ, List.set_cons_zero, List.set_cons_succ, List.replicate, List.cons_append, List.nil_append, Option.some.injEq, Option.map_some, exists_eq_left', exists_eq_left, exists_and_left, exists_const, ite_true, ite_false, if_true, if_false, reduceCtorEq, decide_eq_true_eq, Bool.not_eq_true', Bool.not_eq_true, Bool.false_eq_true, Bool.true_eq_false, false_and, and_false, exists_false, not_true_eq_false, not_false_eq_true, Bool.not_true, Bool.not_false, DV.c.injEq, D.int.injEq, D.bl.injEq, D.tup.injEq, D.lst.injEq, DV.f.injEq, S.val.injEq, S.own.injEq, List.cons.injEq, and_true, true_and, okD_int, okD_bl, eqD_int, eqD_bl, Prod.mk.injEq, and_assoc]
                (repeat (refine And.intro ?_ ?_; · (first | rfl | decide | omega | (simp; done) | (simp; omega))))
                refine one (l - 1, d + 1) _ _ (by simp; omega) (by simp; omega) (by simp; omega) (.inr (by simp; omega)) ?_
                rw [hc, hcost]
                rw [if_neg (by omega)]
                split <;> omega
              · rw [if_neg hi]
                unfold w__law_term_drawn_11
                simp only [wSeq, wSet, wOp, wVar, wC, wUn, wChain, wAnd, wOr, wNot, wB, wAndT, wOrT, wNotT, wIf, wIfS, wRet, wDrop, wTup, wLst, wEmp, wSl, woNone, woSome, wCB, waNil, waCons, wgName, wgNil, wgCons, wgTup, wAug, wPar, wAsgG, wApp, wExt, wPop, wSetI, wNever, rd, rds, cl, cls, sv, ret, toS, items, rII, rIIC, rPlus, rMinus, rAddI, rTimes, rFdivW, rMod, rPowW, rNeg, rLt, rLe, rGt, rGe, rEqq, rNeq, rIsN, rNotN, rIxD, rSlD, cLen, cTuple, cList, cII, cMin, cMax, cAbs, cInt, List.getElem?_cons_zero, List.getElem?_cons_succ, List.set_cons_zero, List.set_cons_succ, List.replicate, List.cons_append, List.nil_append, Option.some.injEq, Option.map_some, exists_eq_left', exists_eq_left, exists_and_left, exists_const, ite_true, ite_false, if_true, if_false, reduceCtorEq, decide_eq_true_eq, Bool.not_eq_true', Bool.not_eq_true, Bool.false_eq_true, Bool.true_eq_false, false_and, and_false, exists_false, not_true_eq_false, not_false_eq_true, Bool.not_true, Bool.not_false, DV.c.injEq, D.int.injEq, D.bl.injEq, D.tup.injEq, D.lst.injEq, DV.f.injEq, S.val.injEq, S.own.injEq, List.cons.injEq, and_true, true_and, okD_int, okD_bl, eqD_int, eqD_bl, Prod.mk.injEq, and_assoc]
                simp only [wCall]
                (try simp only [wSeq, wSet, wOp, wVar, wC, wUn, wChain, wAnd, wOr, wNot, wB, wAndT, wOrT, wNotT, wIf, wIfS, wRet, wDrop, wTup, wLst, wEmp, wSl, woNone, woSome, wCB, waNil, waCons, wgName, wgNil, wgCons, wgTup, wAug, wPar, wAsgG, wApp, wExt, wPop, wSetI, wNever, rd, rds, cl, cls, sv, ret, toS, items, rII, rIIC, rPlus, rMinus, rAddI, rTimes, rFdivW, rMod, rPowW, rNeg, rLt, rLe, rGt, rGe, rEqq, rNeq, rIsN, rNotN, rIxD, rSlD, cLen, cTuple, cList, cII, cMin, cMax, cAbs, cInt, List.getElem?_cons_zero, List.getElem?_cons_succ, List.set_cons_zero, List.set_cons_succ, List.replicate, List.cons_append, List.nil_append, Option.some.injEq, Option.map_some, exists_eq_left', exists_eq_left, exists_and_left, exists_const, ite_true, ite_false, if_true, if_false, reduceCtorEq, decide_eq_true_eq, Bool.not_eq_true', Bool.not_eq_true, Bool.false_eq_true, Bool.true_eq_false, false_and, and_false, exists_false, not_true_eq_false, not_false_eq_true, Bool.not_true, Bool.not_false, DV.c.injEq, D.int.injEq, D.bl.injEq, D.tup.injEq, D.lst.injEq, DV.f.injEq, S.val.injEq, S.own.injEq, List.cons.injEq, and_true, true_and, okD_int, okD_bl, eqD_int, eqD_bl, Prod.mk.injEq, and_assoc])
                refine roll_go (by omega) (by omega) fun j j0 j1 => ?_
                (try simp only [wSeq, wSet, wOp, wVar, wC, wUn, wChain, wAnd, wOr, wNot, wB, wAndT, wOrT, wNotT, wIf, wIfS, wRet, wDrop, wTup, wLst, wEmp, wSl, woNone, woSome, wCB, waNil, waCons, wgName, wgNil, wgCons, wgTup, wAug, wPar, wAsgG, wApp, wExt, wPop, wSetI, wNever, rd, rds, cl, cls, sv, ret, toS, items, rII, rIIC, rPlus, rMinus, rAddI, rTimes, rFdivW, rMod, rPowW, rNeg, rLt, rLe, rGt, rGe, rEqq, rNeq, rIsN, rNotN, rIxD, rSlD, cLen, cTuple, cList, cII, cMin, cMax, cAbs, cInt, List.getElem?_cons_zero, List.getElem?_cons_succ, List.set_cons_zero, List.set_cons_succ, List.replicate, List.cons_append, List.nil_append, Option.some.injEq, Option.map_some, exists_eq_left', exists_eq_left, exists_and_left, exists_const, ite_true, ite_false, if_true, if_false, reduceCtorEq, decide_eq_true_eq, Bool.not_eq_true', Bool.not_eq_true, Bool.false_eq_true, Bool.true_eq_false, false_and, and_false, exists_false, not_true_eq_false, not_false_eq_true, Bool.not_true, Bool.not_false, DV.c.injEq, D.int.injEq, D.bl.injEq, D.tup.injEq, D.lst.injEq, DV.f.injEq, S.val.injEq, S.own.injEq, List.cons.injEq, and_true, true_and, okD_int, okD_bl, eqD_int, eqD_bl, Prod.mk.injEq, and_assoc])
                unfold w__law_term_drawn_10
                simp only [wSeq, wSet, wOp, wVar, wC, wUn, wChain, wAnd, wOr, wNot, wB, wAndT, wOrT, wNotT, wIf, wIfS, wRet, wDrop, wTup, wLst, wEmp, wSl, woNone, woSome, wCB, waNil, waCons, wgName, wgNil, wgCons, wgTup, wAug, wPar, wAsgG, wApp, wExt, wPop, wSetI, wNever, rd, rds, cl, cls, sv, ret, toS, items, rII, rIIC, rPlus, rMinus, rAddI, rTimes, rFdivW, rMod, rPowW, rNeg, rLt, rLe, rGt, rGe, rEqq, rNeq, rIsN, rNotN, rIxD, rSlD, cLen, cTuple, cList, cII, cMin, cMax, cAbs, cInt, List.getElem?_cons_zero, List.getElem?_cons_succ, List.set_cons_zero, List.set_cons_succ, List.replicate, List.cons_append, List.nil_append, Option.some.injEq, Option.map_some, exists_eq_left', exists_eq_left, exists_and_left, exists_const, ite_true, ite_false, if_true, if_false, reduceCtorEq, decide_eq_true_eq, Bool.not_eq_true', Bool.not_eq_true, Bool.false_eq_true, Bool.true_eq_false, false_and, and_false, exists_false, not_true_eq_false, not_false_eq_true, Bool.not_true, Bool.not_false, DV.c.injEq, D.int.injEq, D.bl.injEq, D.tup.injEq, D.lst.injEq, DV.f.injEq, S.val.injEq, S.own.injEq, List.cons.injEq, and_true, true_and, okD_int, okD_bl, eqD_int, eqD_bl, Prod.mk.injEq, and_assoc]
                refine ⟨flen, ?_⟩
                unfold w__law_term_drawn_9
                simp only [wSeq, wSet, wOp, wVar, wC, wUn, wChain, wAnd, wOr, wNot, wB, wAndT, wOrT, wNotT, wIf, wIfS, wRet, wDrop, wTup, wLst, wEmp, wSl, woNone, woSome, wCB, waNil, waCons, wgName, wgNil, wgCons, wgTup, wAug, wPar, wAsgG, wApp, wExt, wPop, wSetI, wNever, rd, rds, cl, cls, sv, ret, toS, items, rII, rIIC, rPlus, rMinus, rAddI, rTimes, rFdivW, rMod, rPowW, rNeg, rLt, rLe, rGt, rGe, rEqq, rNeq, rIsN, rNotN, rIxD, rSlD, cLen, cTuple, cList, cII, cMin, cMax, cAbs, cInt, List.getElem?_cons_zero, List.getElem?_cons_succ, List.set_cons_zero, List.set_cons_succ, List.replicate, List.cons_append, List.nil_append, Option.some.injEq, Option.map_some, exists_eq_left', exists_eq_left, exists_and_left, exists_const, ite_true, ite_false, if_true, if_false, reduceCtorEq, decide_eq_true_eq, Bool.not_eq_true', Bool.not_eq_true, Bool.false_eq_true, Bool.true_eq_false, false_and, and_false, exists_false, not_true_eq_false, not_false_eq_true, Bool.not_true, Bool.not_false, DV.c.injEq, D.int.injEq, D.bl.injEq, D.tup.injEq, D.lst.injEq, DV.f.injEq, S.val.injEq, S.own.injEq, List.cons.injEq, and_true, true_and, okD_int, okD_bl, eqD_int, eqD_bl, Prod.mk.injEq, and_assoc]
                (repeat (refine And.intro ?_ ?_; · (first | rfl | decide | omega | (simp; done) | (simp; omega))))
                refine two [0] (l - 1 - (1 + j), d) (1 + j, d) _ _ (by simp) (fun v l => rfl) (by simp) (by simp; omega) (by simp; omega) (by simp; omega) (by simp; omega) (by simp; omega) (by simp; omega) ?_
                rw [hc, hcost, hcost]
                simp only [List.length_singleton]
                split <;> omega
            unfold w__law_term_drawn_13
            simp only [wSeq, wSet, wOp, wVar, wC, wUn, wChain, wAnd, wOr, wNot, wB, wAndT, wOrT, wNotT, wIf, wIfS, wRet, wDrop, wTup, wLst, wEmp, wSl, woNone, woSome, wCB, waNil, waCons, wgName, wgNil, wgCons, wgTup, wAug, wPar, wAsgG, wApp, wExt, wPop, wSetI, wNever, rd, rds, cl, cls, sv, ret, toS, items, rII, rIIC, rPlus, rMinus, rAddI, rTimes, rFdivW, rMod, rPowW, rNeg, rLt, rLe, rGt, rGe, rEqq, rNeq, rIsN, rNotN, rIxD, rSlD, cLen, cTuple, cList, cII, cMin, cMax, cAbs, cInt, List.getElem?_cons_zero, List.getElem?_cons_succ, List.set_cons_zero, List.set_cons_succ, List.replicate, List.cons_append, List.nil_append, Option.some.injEq, Option.map_some, exists_eq_left', exists_eq_left, exists_and_left, exists_const, ite_true, ite_false, if_true, if_false, reduceCtorEq, decide_eq_true_eq, Bool.not_eq_true', Bool.not_eq_true, Bool.false_eq_true, Bool.true_eq_false, false_and, and_false, exists_false, not_true_eq_false, not_false_eq_true, Bool.not_true, Bool.not_false, DV.c.injEq, D.int.injEq, D.bl.injEq, D.tup.injEq, D.lst.injEq, DV.f.injEq, S.val.injEq, S.own.injEq, List.cons.injEq, and_true, true_and, okD_int, okD_bl, eqD_int, eqD_bl, Prod.mk.injEq, and_assoc]
            simp only [wCall]
            (try simp only [wSeq, wSet, wOp, wVar, wC, wUn, wChain, wAnd, wOr, wNot, wB, wAndT, wOrT, wNotT, wIf, wIfS, wRet, wDrop, wTup, wLst, wEmp, wSl, woNone, woSome, wCB, waNil, waCons, wgName, wgNil, wgCons, wgTup, wAug, wPar, wAsgG, wApp, wExt, wPop, wSetI, wNever, rd, rds, cl, cls, sv, ret, toS, items, rII, rIIC, rPlus, rMinus, rAddI, rTimes, rFdivW, rMod, rPowW, rNeg, rLt, rLe, rGt, rGe, rEqq, rNeq, rIsN, rNotN, rIxD, rSlD, cLen, cTuple, cList, cII, cMin, cMax, cAbs, cInt, List.getElem?_cons_zero, List.getElem?_cons_succ, List.set_cons_zero, List.set_cons_succ, List.replicate, List.cons_append, List.nil_append, Option.some.injEq, Option.map_some, exists_eq_left', exists_eq_left, exists_and_left, exists_const, ite_true, ite_false, if_true, if_false, reduceCtorEq, decide_eq_true_eq, Bool.not_eq_true', Bool.not_eq_true, Bool.false_eq_true, Bool.true_eq_false, false_and, and_false, exists_false, not_true_eq_false, not_false_eq_true, Bool.not_true, Bool.not_false, DV.c.injEq, D.int.injEq, D.bl.injEq, D.tup.injEq, D.lst.injEq, DV.f.injEq, S.val.injEq, S.own.injEq, List.cons.injEq, and_true, true_and, okD_int, okD_bl, eqD_int, eqD_bl, Prod.mk.injEq, and_assoc])
            by_cases h4 : 4 ≤ l
            · rw [if_pos h4]
              refine roll_go (by omega) (by omega) fun i i0 i1 => ?_
              (try simp only [wSeq, wSet, wOp, wVar, wC, wUn, wChain, wAnd, wOr, wNot, wB, wAndT, wOrT, wNotT, wIf, wIfS, wRet, wDrop, wTup, wLst, wEmp, wSl, woNone, woSome, wCB, waNil, waCons, wgName, wgNil, wgCons, wgTup, wAug, wPar, wAsgG, wApp, wExt, wPop, wSetI, wNever, rd, rds, cl, cls, sv, ret, toS, items, rII, rIIC, rPlus, rMinus, rAddI, rTimes, rFdivW, rMod, rPowW, rNeg, rLt, rLe, rGt, rGe, rEqq, rNeq, rIsN, rNotN, rIxD, rSlD, cLen, cTuple, cList, cII, cMin, cMax, cAbs, cInt, List.getElem?_cons_zero, List.getElem?_cons_succ, List.set_cons_zero, List.set_cons_succ, List.replicate, List.cons_append, List.nil_append, Option.some.injEq, Option.map_some, exists_eq_left', exists_eq_left, exists_and_left, exists_const, ite_true, ite_false, if_true, if_false, reduceCtorEq, decide_eq_true_eq, Bool.not_eq_true', Bool.not_eq_true, Bool.false_eq_true, Bool.true_eq_false, false_and, and_false, exists_false, not_true_eq_false, not_false_eq_true, Bool.not_true, Bool.not_false, DV.c.injEq, D.int.injEq, D.bl.injEq, D.tup.injEq, D.lst.injEq, DV.f.injEq, S.val.injEq, S.own.injEq, List.cons.injEq, and_true, true_and, okD_int, okD_bl, eqD_int, eqD_bl, Prod.mk.injEq, and_assoc])
              by_cases hi : i < 4
              · rw [if_pos hi]
                unfold w__law_term_drawn_6
                simp only [wSeq, wSet, wOp, wVar, wC, wUn, wChain, wAnd, wOr, wNot, wB, wAndT, wOrT, wNotT, wIf, wIfS, wRet, wDrop, wTup, wLst, wEmp, wSl, woNone, woSome, wCB, waNil, waCons, wgName, wgNil, wgCons, wgTup, wAug, wPar, wAsgG, wApp, wExt, wPop, wSetI, wNever, rd, rds, cl, cls, sv, ret, toS, items, rII, rIIC, rPlus, rMinus, rAddI, rTimes, rFdivW, rMod, rPowW, rNeg, rLt, rLe, rGt, rGe, rEqq, rNeq, rIsN, rNotN, rIxD, rSlD, cLen, cTuple, cList, cII, cMin, cMax, cAbs, cInt, List.getElem?_cons_zero, List.getElem?_cons_succ, List.set_cons_zero, List.set_cons_succ, List.replicate, List.cons_append, List.nil_append, Option.some.injEq, Option.map_some, exists_eq_left', exists_eq_left, exists_and_left, exists_const, ite_true, ite_false, if_true, if_false, reduceCtorEq, decide_eq_true_eq, Bool.not_eq_true', Bool.not_eq_true, Bool.false_eq_true, Bool.true_eq_false, false_and, and_false, exists_false, not_true_eq_false, not_false_eq_true, Bool.not_true, Bool.not_false, DV.c.injEq, D.int.injEq, D.bl.injEq, D.tup.injEq, D.lst.injEq, DV.f.injEq, S.val.injEq, S.own.injEq, List.cons.injEq, and_true, true_and, okD_int, okD_bl, eqD_int, eqD_bl, Prod.mk.injEq, and_assoc]
                simp only [wCall]
                (try simp only [wSeq, wSet, wOp, wVar, wC, wUn, wChain, wAnd, wOr, wNot, wB, wAndT, wOrT, wNotT, wIf, wIfS, wRet, wDrop, wTup, wLst, wEmp, wSl, woNone, woSome, wCB, waNil, waCons, wgName, wgNil, wgCons, wgTup, wAug, wPar, wAsgG, wApp, wExt, wPop, wSetI, wNever, rd, rds, cl, cls, sv, ret, toS, items, rII, rIIC, rPlus, rMinus, rAddI, rTimes, rFdivW, rMod, rPowW, rNeg, rLt, rLe, rGt, rGe, rEqq, rNeq, rIsN, rNotN, rIxD, rSlD, cLen, cTuple, cList, cII, cMin, cMax, cAbs, cInt, List.getElem?_cons_zero, List.getElem?_cons_succ, List.set_cons_zero, List.set_cons_succ, List.replicate, List.cons_append, List.nil_append, Option.some.injEq, Option.map_some, exists_eq_left', exists_eq_left, exists_and_left, exists_const, ite_true, ite_false, if_true, if_false, reduceCtorEq, decide_eq_true_eq, Bool.not_eq_true', Bool.not_eq_true, Bool.false_eq_true, Bool.true_eq_false, false_and, and_false, exists_false, not_true_eq_false, not_false_eq_true, Bool.not_true, Bool.not_false, DV.c.injEq, D.int.injEq, D.bl.injEq, D.tup.injEq, D.lst.injEq, DV.f.injEq, S.val.injEq, S.own.injEq, List.cons.injEq, and_true, true_and, okD_int, okD_bl, eqD_int, eqD_bl, Prod.mk.injEq, and_assoc])
                refine roll_go (by omega) (by omega) fun j j0 j1 => ?_
                (try simp only [wSeq, wSet, wOp, wVar, wC, wUn, wChain, wAnd, wOr, wNot, wB, wAndT, wOrT, wNotT, wIf, wIfS, wRet, wDrop, wTup, wLst, wEmp, wSl, woNone, woSome, wCB, waNil, waCons, wgName, wgNil, wgCons, wgTup, wAug, wPar, wAsgG, wApp, wExt, wPop, wSetI, wNever, rd, rds, cl, cls, sv, ret, toS, items, rII, rIIC, rPlus, rMinus, rAddI, rTimes, rFdivW, rMod, rPowW, rNeg, rLt, rLe, rGt, rGe, rEqq, rNeq, rIsN, rNotN, rIxD, rSlD, cLen, cTuple, cList, cII, cMin, cMax, cAbs, cInt, List.getElem?_cons_zero, List.getElem?_cons_succ, List.set_cons_zero, List.set_cons_succ, List.replicate, List.cons_append, List.nil_append, Option.some.injEq, Option.map_some, exists_eq_left', exists_eq_left, exists_and_left, exists_const, ite_true, ite_false, if_true, if_false, reduceCtorEq, decide_eq_true_eq, Bool.not_eq_true', Bool.not_eq_true, Bool.false_eq_true, Bool.true_eq_false, false_and, and_false, exists_false, not_true_eq_false, not_false_eq_true, Bool.not_true, Bool.not_false, DV.c.injEq, D.int.injEq, D.bl.injEq, D.tup.injEq, D.lst.injEq, DV.f.injEq, S.val.injEq, S.own.injEq, List.cons.injEq, and_true, true_and, okD_int, okD_bl, eqD_int, eqD_bl, Prod.mk.injEq, and_assoc])
                unfold w__law_term_drawn_5
                simp only [wSeq, wSet, wOp, wVar, wC, wUn, wChain, wAnd, wOr, wNot, wB, wAndT, wOrT, wNotT, wIf, wIfS, wRet, wDrop, wTup, wLst, wEmp, wSl, woNone, woSome, wCB, waNil, waCons, wgName, wgNil, wgCons, wgTup, wAug, wPar, wAsgG, wApp, wExt, wPop, wSetI, wNever, rd, rds, cl, cls, sv, ret, toS, items, rII, rIIC, rPlus, rMinus, rAddI, rTimes, rFdivW, rMod, rPowW, rNeg, rLt, rLe, rGt, rGe, rEqq, rNeq, rIsN, rNotN, rIxD, rSlD, cLen, cTuple, cList, cII, cMin, cMax, cAbs, cInt, List.getElem?_cons_zero, List.getElem?_cons_succ, List.set_cons_zero, List.set_cons_succ, List.replicate, List.cons_append, List.nil_append, Option.some.injEq, Option.map_some, exists_eq_left', exists_eq_left, exists_and_left, exists_const, ite_true, ite_false, if_true, if_false, reduceCtorEq, decide_eq_true_eq, Bool.not_eq_true', Bool.not_eq_true, Bool.false_eq_true, Bool.true_eq_false, false_and, and_false, exists_false, not_true_eq_false, not_false_eq_true, Bool.not_true, Bool.not_false, DV.c.injEq, D.int.injEq, D.bl.injEq, D.tup.injEq, D.lst.injEq, DV.f.injEq, S.val.injEq, S.own.injEq, List.cons.injEq, and_true, true_and, okD_int, okD_bl, eqD_int, eqD_bl, Prod.mk.injEq, and_assoc]
                rw [List.length_map] at flen ⊢
                (repeat (refine And.intro ?_ ?_; · (first | rfl | decide | omega | (simp; done) | (simp; omega))))
                unfold w__law_term_drawn_4
                simp only [wSeq, wSet, wOp, wVar, wC, wUn, wChain, wAnd, wOr, wNot, wB, wAndT, wOrT, wNotT, wIf, wIfS, wRet, wDrop, wTup, wLst, wEmp, wSl, woNone, woSome, wCB, waNil, waCons, wgName, wgNil, wgCons, wgTup, wAug, wPar, wAsgG, wApp, wExt, wPop, wSetI, wNever, rd, rds, cl, cls, sv, ret, toS, items, rII, rIIC, rPlus, rMinus, rAddI, rTimes, rFdivW, rMod, rPowW, rNeg, rLt, rLe, rGt, rGe, rEqq, rNeq, rIsN, rNotN, rIxD, rSlD, cLen, cTuple, cList, cII, cMin, cMax, cAbs, cInt, List.getElem?_cons_zero, List.getElem?_cons_succ, List.set_cons_zero, List.set_cons_succ, List.replicate, List.cons_append, List.nil_append, Option.some.injEq, Option.map_some, exists_eq_left', exists_eq_left, exists_and_left, exists_const, ite_true, ite_false, if_true, if_false, reduceCtorEq, decide_eq_true_eq, Bool.not_eq_true', Bool.not_eq_true, Bool.false_eq_true, Bool.true_eq_false, false_and, and_false, exists_false, not_true_eq_false, not_false_eq_true, Bool.not_true, Bool.not_false, DV.c.injEq, D.int.injEq, D.bl.injEq, D.tup.injEq, D.lst.injEq, DV.f.injEq, S.val.injEq, S.own.injEq, List.cons.injEq, and_true, true_and, okD_int, okD_bl, eqD_int, eqD_bl, Prod.mk.injEq, and_assoc]
                (repeat (refine And.intro ?_ ?_; · (first | rfl | decide | omega | (simp; done) | (simp; omega))))
                refine two [0, -1] (l - 2 - (1 + j), d) (1 + j, d + 1) _ _ (by simp) (fun v l => rfl) (by simp) (by simp; omega) (by simp; omega) (by simp; omega) (by simp; omega) (by simp; omega) (by simp; omega) ?_
                rw [hc, hcost, hcost]
                simp only [List.length_cons, List.length_nil]
                rw [if_neg (show ¬ d + 1 + o = 0 by omega)]
                split <;> omega
              · rw [if_neg hi]
                exact b12
            · rw [if_neg h4]
              exact b12
          by_cases h2 : l ≤ 2
          · rw [if_pos h2]
            exact b3 (.inl h2)
          · rw [if_neg h2]
            by_cases h3 : d + o = 0
            · rw [if_pos h3]
              by_cases h4 : l < 4
              · rw [if_pos h4]
                exact b3 (.inr ⟨h3, h4⟩)
              · rw [if_neg h4]
                exact b13 (by omega)
            · rw [if_neg h3]
              exact b13 (by omega)
        by_cases cl : l ≤ 1
        · rw [if_pos cl, if_neg (fun h => c1 ⟨cl, h⟩)]
          exact go
        · rw [if_neg cl]
          exact go
  · exact hp.elim
end Dl
namespace Dl
open PySem L2 Km
def inv_lit (ds : List D) (i : Nat) (δ : List S) : Prop := ∃ (w : Nat) (s : S), δ = [.val (.tup ds), .val (.int w), s] ∧ jD 1 ds = jD w (ds.drop i)
theorem goal__law_is_term : Goal w__law_is_term ["value", "due", "code"] 1 pre__law_is_term post__law_is_term := by
  intro xs hl hp
  unfold pre__law_is_term pre_is_term at hp
  split at hp
  · rename_i d
    obtain ⟨h1, h2⟩ := hp
    unfold w__law_is_term
    simp only [List.length_cons, List.length_nil]
    simp only [wSeq, wSet, wOp, wVar, wC, wUn, wChain, wAnd, wOr, wNot, wB, wAndT, wOrT, wNotT, wIf, wIfS, wRet, wDrop, wTup, wLst, wEmp, wSl, woNone, woSome, wCB, waNil, waCons, wgName, wgNil, wgCons, wgTup, wAug, wPar, wAsgG, wApp, wExt, wPop, wSetI, wNever, rd, rds, cl, cls, sv, ret, toS, items, rII, rIIC, rPlus, rMinus, rAddI, rTimes, rFdivW, rMod, rPowW, rNeg, rLt, rLe, rGt, rGe, rEqq, rNeq, rIsN, rNotN, rIxD, rSlD, cLen, cTuple, cList, cII, cMin, cMax, cAbs, cInt, List.getElem?_cons_zero, List.getElem?_cons_succ, List.set_cons_zero, List.set_cons_succ, List.replicate, List.cons_append, List.nil_append, Option.some.injEq, Option.map_some, exists_eq_left', exists_eq_left, exists_and_left, exists_const, ite_true, ite_false, if_true, if_false, reduceCtorEq, decide_eq_true_eq, Bool.not_eq_true', Bool.not_eq_true, Bool.false_eq_true, Bool.true_eq_false, false_and, and_false, exists_false, not_true_eq_false, not_false_eq_true, Bool.not_true, Bool.not_false, DV.c.injEq, D.int.injEq, D.bl.injEq, D.tup.injEq, D.lst.injEq, DV.f.injEq, S.val.injEq, S.own.injEq, List.cons.injEq, and_true, true_and, okD_int, okD_bl, eqD_int, eqD_bl, Prod.mk.injEq, and_assoc]
    refine isi_tup h1 ?_
    (try simp only [wSeq, wSet, wOp, wVar, wC, wUn, wChain, wAnd, wOr, wNot, wB, wAndT, wOrT, wNotT, wIf, wIfS, wRet, wDrop, wTup, wLst, wEmp, wSl, woNone, woSome, wCB, waNil, waCons, wgName, wgNil, wgCons, wgTup, wAug, wPar, wAsgG, wApp, wExt, wPop, wSetI, wNever, rd, rds, cl, cls, sv, ret, toS, items, rII, rIIC, rPlus, rMinus, rAddI, rTimes, rFdivW, rMod, rPowW, rNeg, rLt, rLe, rGt, rGe, rEqq, rNeq, rIsN, rNotN, rIxD, rSlD, cLen, cTuple, cList, cII, cMin, cMax, cAbs, cInt, List.getElem?_cons_zero, List.getElem?_cons_succ, List.set_cons_zero, List.set_cons_succ, List.replicate, List.cons_append, List.nil_append, Option.some.injEq, Option.map_some, exists_eq_left', exists_eq_left, exists_and_left, exists_const, ite_true, ite_false, if_true, if_false, reduceCtorEq, decide_eq_true_eq, Bool.not_eq_true', Bool.not_eq_true, Bool.false_eq_true, Bool.true_eq_false, false_and, and_false, exists_false, not_true_eq_false, not_false_eq_true, Bool.not_true, Bool.not_false, DV.c.injEq, D.int.injEq, D.bl.injEq, D.tup.injEq, D.lst.injEq, DV.f.injEq, S.val.injEq, S.own.injEq, List.cons.injEq, and_true, true_and, okD_int, okD_bl, eqD_int, eqD_bl, Prod.mk.injEq, and_assoc])
    cases d with
    | tup ds =>
      simp only [isTup]
      (try simp only [wSeq, wSet, wOp, wVar, wC, wUn, wChain, wAnd, wOr, wNot, wB, wAndT, wOrT, wNotT, wIf, wIfS, wRet, wDrop, wTup, wLst, wEmp, wSl, woNone, woSome, wCB, waNil, waCons, wgName, wgNil, wgCons, wgTup, wAug, wPar, wAsgG, wApp, wExt, wPop, wSetI, wNever, rd, rds, cl, cls, sv, ret, toS, items, rII, rIIC, rPlus, rMinus, rAddI, rTimes, rFdivW, rMod, rPowW, rNeg, rLt, rLe, rGt, rGe, rEqq, rNeq, rIsN, rNotN, rIxD, rSlD, cLen, cTuple, cList, cII, cMin, cMax, cAbs, cInt, List.getElem?_cons_zero, List.getElem?_cons_succ, List.set_cons_zero, List.set_cons_succ, List.replicate, List.cons_append, List.nil_append, Option.some.injEq, Option.map_some, exists_eq_left', exists_eq_left, exists_and_left, exists_const, ite_true, ite_false, if_true, if_false, reduceCtorEq, decide_eq_true_eq, Bool.not_eq_true', Bool.not_eq_true, Bool.false_eq_true, Bool.true_eq_false, false_and, and_false, exists_false, not_true_eq_false, not_false_eq_true, Bool.not_true, Bool.not_false, DV.c.injEq, D.int.injEq, D.bl.injEq, D.tup.injEq, D.lst.injEq, DV.f.injEq, S.val.injEq, S.own.injEq, List.cons.injEq, and_true, true_and, okD_int, okD_bl, eqD_int, eqD_bl, Prod.mk.injEq, and_assoc])
      have hjt : isTermD (.tup ds) = (decide (ds.length ≤ 400) && jD 1 ds) := rfl
      by_cases hl1 : (1 : Int) ≤ (ds.length : Int)
      · rw [if_pos hl1]
        (try simp only [wSeq, wSet, wOp, wVar, wC, wUn, wChain, wAnd, wOr, wNot, wB, wAndT, wOrT, wNotT, wIf, wIfS, wRet, wDrop, wTup, wLst, wEmp, wSl, woNone, woSome, wCB, waNil, waCons, wgName, wgNil, wgCons, wgTup, wAug, wPar, wAsgG, wApp, wExt, wPop, wSetI, wNever, rd, rds, cl, cls, sv, ret, toS, items, rII, rIIC, rPlus, rMinus, rAddI, rTimes, rFdivW, rMod, rPowW, rNeg, rLt, rLe, rGt, rGe, rEqq, rNeq, rIsN, rNotN, rIxD, rSlD, cLen, cTuple, cList, cII, cMin, cMax, cAbs, cInt, List.getElem?_cons_zero, List.getElem?_cons_succ, List.set_cons_zero, List.set_cons_succ, List.replicate, List.cons_append, List.nil_append, Option.some.injEq, Option.map_some, exists_eq_left', exists_eq_left, exists_and_left, exists_const, ite_true, ite_false, if_true, if_false, reduceCtorEq, decide_eq_true_eq, Bool.not_eq_true', Bool.not_eq_true, Bool.false_eq_true, Bool.true_eq_false, false_and, and_false, exists_false, not_true_eq_false, not_false_eq_true, Bool.not_true, Bool.not_false, DV.c.injEq, D.int.injEq, D.bl.injEq, D.tup.injEq, D.lst.injEq, DV.f.injEq, S.val.injEq, S.own.injEq, List.cons.injEq, and_true, true_and, okD_int, okD_bl, eqD_int, eqD_bl, Prod.mk.injEq, and_assoc])
        by_cases hl2 : (ds.length : Int) ≤ 400
        · rw [if_neg (by simp [hl2])]
          rw [decide_eq_true (by omega), Bool.true_and] at hjt
          unfold w__law_is_term_8
          simp only [wSeq, wSet, wOp, wVar, wC, wUn, wChain, wAnd, wOr, wNot, wB, wAndT, wOrT, wNotT, wIf, wIfS, wRet, wDrop, wTup, wLst, wEmp, wSl, woNone, woSome, wCB, waNil, waCons, wgName, wgNil, wgCons, wgTup, wAug, wPar, wAsgG, wApp, wExt, wPop, wSetI, wNever, rd, rds, cl, cls, sv, ret, toS, items, rII, rIIC, rPlus, rMinus, rAddI, rTimes, rFdivW, rMod, rPowW, rNeg, rLt, rLe, rGt, rGe, rEqq, rNeq, rIsN, rNotN, rIxD, rSlD, cLen, cTuple, cList, cII, cMin, cMax, cAbs, cInt, List.getElem?_cons_zero, List.getElem?_cons_succ, List.set_cons_zero, List.set_cons_succ, List.replicate, List.cons_append, List.nil_append, Option.some.injEq, Option.map_some, exists_eq_left', exists_eq_left, exists_and_left, exists_const, ite_true, ite_false, if_true, if_false, reduceCtorEq, decide_eq_true_eq, Bool.not_eq_true', Bool.not_eq_true, Bool.false_eq_true, Bool.true_eq_false, false_and, and_false, exists_false, not_true_eq_false, not_false_eq_true, Bool.not_true, Bool.not_false, DV.c.injEq, D.int.injEq, D.bl.injEq, D.tup.injEq, D.lst.injEq, DV.f.injEq, S.val.injEq, S.own.injEq, List.cons.injEq, and_true, true_and, okD_int, okD_bl, eqD_int, eqD_bl, Prod.mk.injEq, and_assoc]
          unfold w__law_is_term_7 wFor
          simp only [wSeq, wSet, wOp, wVar, wC, wUn, wChain, wAnd, wOr, wNot, wB, wAndT, wOrT, wNotT, wIf, wIfS, wRet, wDrop, wTup, wLst, wEmp, wSl, woNone, woSome, wCB, waNil, waCons, wgName, wgNil, wgCons, wgTup, wAug, wPar, wAsgG, wApp, wExt, wPop, wSetI, wNever, rd, rds, cl, cls, sv, ret, toS, items, rII, rIIC, rPlus, rMinus, rAddI, rTimes, rFdivW, rMod, rPowW, rNeg, rLt, rLe, rGt, rGe, rEqq, rNeq, rIsN, rNotN, rIxD, rSlD, cLen, cTuple, cList, cII, cMin, cMax, cAbs, cInt, List.getElem?_cons_zero, List.getElem?_cons_succ, List.set_cons_zero, List.set_cons_succ, List.replicate, List.cons_append, List.nil_append, Option.some.injEq, Option.map_some, exists_eq_left', exists_eq_left, exists_and_left, exists_const, ite_true, ite_false, if_true, if_false, reduceCtorEq, decide_eq_true_eq, Bool.not_eq_true', Bool.not_eq_true, Bool.false_eq_true, Bool.true_eq_false, false_and, and_false, exists_false, not_true_eq_false, not_false_eq_true, Bool.not_true, Bool.not_false, DV.c.injEq, D.int.injEq, D.bl.injEq, D.tup.injEq, D.lst.injEq, DV.f.injEq, S.val.injEq, S.own.injEq, List.cons.injEq, and_true, true_and, okD_int, okD_bl, eqD_int, eqD_bl, Prod.mk.injEq, and_assoc]
          refine ⟨inv_lit ds, ⟨1, _, rfl, rfl⟩, ?_, ?_⟩
          · rintro i d δ hi ⟨w, s, rfl, hj⟩
            have hlt := (List.getElem?_eq_some_iff.mp hi).1
            have hd : ds.drop i = d :: ds.drop (i + 1) := by
              rw [List.drop_eq_getElem_cons hlt]
              congr 1
              exact (List.getElem?_eq_some_iff.mp hi).2
            rw [hd, jD] at hj
            have hn : noTy d = true := h2 ds rfl d (List.mem_of_getElem? hi)
            have wi : isWhole d = isWhole d := rfl
            unfold w__law_is_term_5
            simp only [wSeq, wSet, wOp, wVar, wC, wUn, wChain, wAnd, wOr, wNot, wB, wAndT, wOrT, wNotT, wIf, wIfS, wRet, wDrop, wTup, wLst, wEmp, wSl, woNone, woSome, wCB, waNil, waCons, wgName, wgNil, wgCons, wgTup, wAug, wPar, wAsgG, wApp, wExt, wPop, wSetI, wNever, rd, rds, cl, cls, sv, ret, toS, items, rII, rIIC, rPlus, rMinus, rAddI, rTimes, rFdivW, rMod, rPowW, rNeg, rLt, rLe, rGt, rGe, rEqq, rNeq, rIsN, rNotN, rIxD, rSlD, cLen, cTuple, cList, cII, cMin, cMax, cAbs, cInt, List.getElem?_cons_zero, List.getElem?_cons_succ, List.set_cons_zero, List.set_cons_succ, List.replicate, List.cons_append, List.nil_append, Option.some.injEq, Option.map_some, exists_eq_left', exists_eq_left, exists_and_left, exists_const, ite_true, ite_false, if_true, if_false, reduceCtorEq, decide_eq_true_eq, Bool.not_eq_true', Bool.not_eq_true, Bool.false_eq_true, Bool.true_eq_false, false_and, and_false, exists_false, not_true_eq_false, not_false_eq_true, Bool.not_true, Bool.not_false, DV.c.injEq, D.int.injEq, D.bl.injEq, D.tup.injEq, D.lst.injEq, DV.f.injEq, S.val.injEq, S.own.injEq, List.cons.injEq, and_true, true_and, okD_int, okD_bl, eqD_int, eqD_bl, Prod.mk.injEq, and_assoc]
            refine isi_int hn ?_
            simp only [wSeq, wSet, wOp, wVar, wC, wUn, wChain, wAnd, wOr, wNot, wB, wAndT, wOrT, wNotT, wIf, wIfS, wRet, wDrop, wTup, wLst, wEmp, wSl, woNone, woSome, wCB, waNil, waCons, wgName, wgNil, wgCons, wgTup, wAug, wPar, wAsgG, wApp, wExt, wPop, wSetI, wNever, rd, rds, cl, cls, sv, ret, toS, items, rII, rIIC, rPlus, rMinus, rAddI, rTimes, rFdivW, rMod, rPowW, rNeg, rLt, rLe, rGt, rGe, rEqq, rNeq, rIsN, rNotN, rIxD, rSlD, cLen, cTuple, cList, cII, cMin, cMax, cAbs, cInt, List.getElem?_cons_zero, List.getElem?_cons_succ, List.set_cons_zero, List.set_cons_succ, List.replicate, List.cons_append, List.nil_append, Option.some.injEq, Option.map_some, exists_eq_left', exists_eq_left, exists_and_left, exists_const, ite_true, ite_false, if_true, if_false, reduceCtorEq, decide_eq_true_eq, Bool.not_eq_true', Bool.not_eq_true, Bool.false_eq_true, Bool.true_eq_false, false_and, and_false, exists_false, not_true_eq_false, not_false_eq_true, Bool.not_true, Bool.not_false, DV.c.injEq, D.int.injEq, D.bl.injEq, D.tup.injEq, D.lst.injEq, DV.f.injEq, S.val.injEq, S.own.injEq, List.cons.injEq, and_true, true_and, okD_int, okD_bl, eqD_int, eqD_bl, Prod.mk.injEq, and_assoc]
            have no : within d (-1) 1000 = false → post__law_is_term [.val (.tup ds)] (.c (.bl false)) := by
              intro hw
              rw [if_pos (.inr hw)] at hj
              show _ = _
              rw [hjt, hj]
            cases d <;> simp only [isInt] <;> (try simp only [wSeq, wSet, wOp, wVar, wC, wUn, wChain, wAnd, wOr, wNot, wB, wAndT, wOrT, wNotT, wIf, wIfS, wRet, wDrop, wTup, wLst, wEmp, wSl, woNone, woSome, wCB, waNil, waCons, wgName, wgNil, wgCons, wgTup, wAug, wPar, wAsgG, wApp, wExt, wPop, wSetI, wNever, rd, rds, cl, cls, sv, ret, toS, items, rII, rIIC, rPlus, rMinus, rAddI, rTimes, rFdivW, rMod, rPowW, rNeg, rLt, rLe, rGt, rGe, rEqq, rNeq, rIsN, rNotN, rIxD, rSlD, cLen, cTuple, cList, cII, cMin, cMax, cAbs, cInt, List.getElem?_cons_zero, List.getElem?_cons_succ, List.set_cons_zero, List.set_cons_succ, List.replicate, List.cons_append, List.nil_append, Option.some.injEq, Option.map_some, exists_eq_left', exists_eq_left, exists_and_left, exists_const, ite_true, ite_false, if_true, if_false, reduceCtorEq, decide_eq_true_eq, Bool.not_eq_true', Bool.not_eq_true, Bool.false_eq_true, Bool.true_eq_false, false_and, and_false, exists_false, not_true_eq_false, not_false_eq_true, Bool.not_true, Bool.not_false, DV.c.injEq, D.int.injEq, D.bl.injEq, D.tup.injEq, D.lst.injEq, DV.f.injEq, S.val.injEq, S.own.injEq, List.cons.injEq, and_true, true_and, okD_int, okD_bl, eqD_int, eqD_bl, Prod.mk.injEq, and_assoc]) <;> try exact no rfl
            case bl b =>
              refine isi_bl rfl ?_
              simp only [isBl]
              simp only [wSeq, wSet, wOp, wVar, wC, wUn, wChain, wAnd, wOr, wNot, wB, wAndT, wOrT, wNotT, wIf, wIfS, wRet, wDrop, wTup, wLst, wEmp, wSl, woNone, woSome, wCB, waNil, waCons, wgName, wgNil, wgCons, wgTup, wAug, wPar, wAsgG, wApp, wExt, wPop, wSetI, wNever, rd, rds, cl, cls, sv, ret, toS, items, rII, rIIC, rPlus, rMinus, rAddI, rTimes, rFdivW, rMod, rPowW, rNeg, rLt, rLe, rGt, rGe, rEqq, rNeq, rIsN, rNotN, rIxD, rSlD, cLen, cTuple, cList, cII, cMin, cMax, cAbs, cInt, List.getElem?_cons_zero, List.getElem?_cons_succ, List.set_cons_zero, List.set_cons_succ, List.replicate, List.cons_append, List.nil_append, Option.some.injEq, Option.map_some, exists_eq_left', exists_eq_left, exists_and_left, exists_const, ite_true, ite_false, if_true, if_false, reduceCtorEq, decide_eq_true_eq, Bool.not_eq_true', Bool.not_eq_true, Bool.false_eq_true, Bool.true_eq_false, false_and, and_false, exists_false, not_true_eq_false, not_false_eq_true, Bool.not_true, Bool.not_false, DV.c.injEq, D.int.injEq, D.bl.injEq, D.tup.injEq, D.lst.injEq, DV.f.injEq, S.val.injEq, S.own.injEq, List.cons.injEq, and_true, true_and, okD_int, okD_bl, eqD_int, eqD_bl, Prod.mk.injEq, and_assoc]
              exact no rfl
            case int c =>
              refine isi_bl rfl ?_
              simp only [isBl]
              simp only [wSeq, wSet, wOp, wVar, wC, wUn, wChain, wAnd, wOr, wNot, wB, wAndT, wOrT, wNotT, wIf, wIfS, wRet, wDrop, wTup, wLst, wEmp, wSl, woNone, woSome, wCB, waNil, waCons, wgName, wgNil, wgCons, wgTup, wAug, wPar, wAsgG, wApp, wExt, wPop, wSetI, wNever, rd, rds, cl, cls, sv, ret, toS, items, rII, rIIC, rPlus, rMinus, rAddI, rTimes, rFdivW, rMod, rPowW, rNeg, rLt, rLe, rGt, rGe, rEqq, rNeq, rIsN, rNotN, rIxD, rSlD, cLen, cTuple, cList, cII, cMin, cMax, cAbs, cInt, List.getElem?_cons_zero, List.getElem?_cons_succ, List.set_cons_zero, List.set_cons_succ, List.replicate, List.cons_append, List.nil_append, Option.some.injEq, Option.map_some, exists_eq_left', exists_eq_left, exists_and_left, exists_const, ite_true, ite_false, if_true, if_false, reduceCtorEq, decide_eq_true_eq, Bool.not_eq_true', Bool.not_eq_true, Bool.false_eq_true, Bool.true_eq_false, false_and, and_false, exists_false, not_true_eq_false, not_false_eq_true, Bool.not_true, Bool.not_false, DV.c.injEq, D.int.injEq, D.bl.injEq, D.tup.injEq, D.lst.injEq, DV.f.injEq, S.val.injEq, S.own.injEq, List.cons.injEq, and_true, true_and, okD_int, okD_bl, eqD_int, eqD_bl, Prod.mk.injEq, and_assoc]
              by_cases c1 : -1 ≤ c
              · rw [if_pos c1]
                by_cases c2 : c ≤ 1000
                · have hw : within (.int c) (-1) 1000 = true := by
                    unfold within
                    simp [WE]; omega
                  rw [if_neg (by simp [c2])]
                  by_cases hw0 : (w : Int) = 0
                  · rw [if_pos hw0]
                    rw [if_pos (.inl (by omega))] at hj
                    show _ = _
                    rw [hjt, hj]
                  · rw [if_neg hw0]
                    rw [if_neg (by rw [hw]; simp; omega)] at hj
                    simp only [toI] at hj
                    unfold w__law_is_term_4 w__law_is_term_2
                    simp only [wSeq, wSet, wOp, wVar, wC, wUn, wChain, wAnd, wOr, wNot, wB, wAndT, wOrT, wNotT, wIf, wIfS, wRet, wDrop, wTup, wLst, wEmp, wSl, woNone, woSome, wCB, waNil, waCons, wgName, wgNil, wgCons, wgTup, wAug, wPar, wAsgG, wApp, wExt, wPop, wSetI, wNever, rd, rds, cl, cls, sv, ret, toS, items, rII, rIIC, rPlus, rMinus, rAddI, rTimes, rFdivW, rMod, rPowW, rNeg, rLt, rLe, rGt, rGe, rEqq, rNeq, rIsN, rNotN, rIxD, rSlD, cLen, cTuple, cList, cII, cMin, cMax, cAbs, cInt, List.getElem?_cons_zero, List.getElem?_cons_succ, List.set_cons_zero, List.set_cons_succ, List.replicate, List.cons_append, List.nil_append, Option.some.injEq, Option.map_some, exists_eq_left', exists_eq_left, exists_and_left, exists_const, ite_true, ite_false, if_true, if_false, reduceCtorEq, decide_eq_true_eq, Bool.not_eq_true', Bool.not_eq_true, Bool.false_eq_true, Bool.true_eq_false, false_and, and_false, exists_false, not_true_eq_false, not_false_eq_true, Bool.not_true, Bool.not_false, DV.c.injEq, D.int.injEq, D.bl.injEq, D.tup.injEq, D.lst.injEq, DV.f.injEq, S.val.injEq, S.own.injEq, List.cons.injEq, and_true, true_and, okD_int, okD_bl, eqD_int, eqD_bl, Prod.mk.injEq, and_assoc]
                    unfold w__law_is_term_3 w__law_is_term_1
                    simp only [wSeq, wSet, wOp, wVar, wC, wUn, wChain, wAnd, wOr, wNot, wB, wAndT, wOrT, wNotT, wIf, wIfS, wRet, wDrop, wTup, wLst, wEmp, wSl, woNone, woSome, wCB, waNil, waCons, wgName, wgNil, wgCons, wgTup, wAug, wPar, wAsgG, wApp, wExt, wPop, wSetI, wNever, rd, rds, cl, cls, sv, ret, toS, items, rII, rIIC, rPlus, rMinus, rAddI, rTimes, rFdivW, rMod, rPowW, rNeg, rLt, rLe, rGt, rGe, rEqq, rNeq, rIsN, rNotN, rIxD, rSlD, cLen, cTuple, cList, cII, cMin, cMax, cAbs, cInt, List.getElem?_cons_zero, List.getElem?_cons_succ, List.set_cons_zero, List.set_cons_succ, List.replicate, List.cons_append, List.nil_append, Option.some.injEq, Option.map_some, exists_eq_left', exists_eq_left, exists_and_left, exists_const, ite_true, ite_false, if_true, if_false, reduceCtorEq, decide_eq_true_eq, Bool.not_eq_true', Bool.not_eq_true, Bool.false_eq_true, Bool.true_eq_false, false_and, and_false, exists_false, not_true_eq_false, not_false_eq_true, Bool.not_true, Bool.not_false, DV.c.injEq, D.int.injEq, D.bl.injEq, D.tup.injEq, D.lst.injEq, DV.f.injEq, S.val.injEq, S.own.injEq, List.cons.injEq, and_true, true_and, okD_int, okD_bl, eqD_int, eqD_bl, Prod.mk.injEq, and_assoc]
                    by_cases h0 : c = 0
                    · subst h0
                      rw [if_pos rfl, if_neg (by decide)]
                      refine ⟨w + 1, .val (.int 0), by simp, hj⟩
                    · rw [if_neg h0]
                      by_cases hc : 0 < c
                      · rw [if_pos hc]
                        refine ⟨w - 1, .val (.int c), by rw [show ((w - 1 : Nat) : Int) = (w : Int) - 1 by omega], ?_⟩
                        rw [hj]; unfold up; rw [if_neg h0, if_pos hc]
                      · rw [if_neg hc]
                        refine ⟨w, .val (.int c), rfl, ?_⟩
                        rw [hj]; unfold up; rw [if_neg h0, if_neg hc]
                · rw [if_pos (by simp; omega)]
                  exact no (by unfold within; simp; omega)
              · rw [if_neg c1]
                (try simp only [wSeq, wSet, wOp, wVar, wC, wUn, wChain, wAnd, wOr, wNot, wB, wAndT, wOrT, wNotT, wIf, wIfS, wRet, wDrop, wTup, wLst, wEmp, wSl, woNone, woSome, wCB, waNil, waCons, wgName, wgNil, wgCons, wgTup, wAug, wPar, wAsgG, wApp, wExt, wPop, wSetI, wNever, rd, rds, cl, cls, sv, ret, toS, items, rII, rIIC, rPlus, rMinus, rAddI, rTimes, rFdivW, rMod, rPowW, rNeg, rLt, rLe, rGt, rGe, rEqq, rNeq, rIsN, rNotN, rIxD, rSlD, cLen, cTuple, cList, cII, cMin, cMax, cAbs, cInt, List.getElem?_cons_zero, List.getElem?_cons_succ, List.set_cons_zero, List.set_cons_succ, List.replicate, List.cons_append, List.nil_append, Option.some.injEq, Option.map_some, exists_eq_left', exists_eq_left, exists_and_left, exists_const, ite_true, ite_false, if_true, if_false, reduceCtorEq, decide_eq_true_eq, Bool.not_eq_true', Bool.not_eq_true, Bool.false_eq_true, Bool.true_eq_false, false_and, and_false, exists_false, not_true_eq_false, not_false_eq_true, Bool.not_true, Bool.not_false, DV.c.injEq, D.int.injEq, D.bl.injEq, D.tup.injEq, D.lst.injEq, DV.f.injEq, S.val.injEq, S.own.injEq, List.cons.injEq, and_true, true_and, okD_int, okD_bl, eqD_int, eqD_bl, Prod.mk.injEq, and_assoc])
                exact no (by unfold within; simp; omega)
          · rintro δ ⟨w, s, rfl, hj⟩
            unfold w__law_is_term_6
            simp only [wSeq, wSet, wOp, wVar, wC, wUn, wChain, wAnd, wOr, wNot, wB, wAndT, wOrT, wNotT, wIf, wIfS, wRet, wDrop, wTup, wLst, wEmp, wSl, woNone, woSome, wCB, waNil, waCons, wgName, wgNil, wgCons, wgTup, wAug, wPar, wAsgG, wApp, wExt, wPop, wSetI, wNever, rd, rds, cl, cls, sv, ret, toS, items, rII, rIIC, rPlus, rMinus, rAddI, rTimes, rFdivW, rMod, rPowW, rNeg, rLt, rLe, rGt, rGe, rEqq, rNeq, rIsN, rNotN, rIxD, rSlD, cLen, cTuple, cList, cII, cMin, cMax, cAbs, cInt, List.getElem?_cons_zero, List.getElem?_cons_succ, List.set_cons_zero, List.set_cons_succ, List.replicate, List.cons_append, List.nil_append, Option.some.injEq, Option.map_some, exists_eq_left', exists_eq_left, exists_and_left, exists_const, ite_true, ite_false, if_true, if_false, reduceCtorEq, decide_eq_true_eq, Bool.not_eq_true', Bool.not_eq_true, Bool.false_eq_true, Bool.true_eq_false, false_and, and_false, exists_false, not_true_eq_false, not_false_eq_true, Bool.not_true, Bool.not_false, DV.c.injEq, D.int.injEq, D.bl.injEq, D.tup.injEq, D.lst.injEq, DV.f.injEq, S.val.injEq, S.own.injEq, List.cons.injEq, and_true, true_and, okD_int, okD_bl, eqD_int, eqD_bl, Prod.mk.injEq, and_assoc]
            show _ = _
            rw [hjt, hj, List.drop_eq_nil_of_le (Nat.le_refl _), jD]
            simp
        · rw [if_pos (by simp; omega)]
          rw [decide_eq_false (by omega), Bool.false_and] at hjt
          show _ = _
          rw [hjt]
      · rw [if_neg hl1]
        (try simp only [wSeq, wSet, wOp, wVar, wC, wUn, wChain, wAnd, wOr, wNot, wB, wAndT, wOrT, wNotT, wIf, wIfS, wRet, wDrop, wTup, wLst, wEmp, wSl, woNone, woSome, wCB, waNil, waCons, wgName, wgNil, wgCons, wgTup, wAug, wPar, wAsgG, wApp, wExt, wPop, wSetI, wNever, rd, rds, cl, cls, sv, ret, toS, items, rII, rIIC, rPlus, rMinus, rAddI, rTimes, rFdivW, rMod, rPowW, rNeg, rLt, rLe, rGt, rGe, rEqq, rNeq, rIsN, rNotN, rIxD, rSlD, cLen, cTuple, cList, cII, cMin, cMax, cAbs, cInt, List.getElem?_cons_zero, List.getElem?_cons_succ, List.set_cons_zero, List.set_cons_succ, List.replicate, List.cons_append, List.nil_append, Option.some.injEq, Option.map_some, exists_eq_left', exists_eq_left, exists_and_left, exists_const, ite_true, ite_false, if_true, if_false, reduceCtorEq, decide_eq_true_eq, Bool.not_eq_true', Bool.not_eq_true, Bool.false_eq_true, Bool.true_eq_false, false_and, and_false, exists_false, not_true_eq_false, not_false_eq_true, Bool.not_true, Bool.not_false, DV.c.injEq, D.int.injEq, D.bl.injEq, D.tup.injEq, D.lst.injEq, DV.f.injEq, S.val.injEq, S.own.injEq, List.cons.injEq, and_true, true_and, okD_int, okD_bl, eqD_int, eqD_bl, Prod.mk.injEq, and_assoc])
        have : ds = [] := List.eq_nil_of_length_eq_zero (by omega)
        subst this
        show _ = _
        rw [hjt, jD]
        rfl
    | _ =>
      simp only [isTup]
      (try simp only [wSeq, wSet, wOp, wVar, wC, wUn, wChain, wAnd, wOr, wNot, wB, wAndT, wOrT, wNotT, wIf, wIfS, wRet, wDrop, wTup, wLst, wEmp, wSl, woNone, woSome, wCB, waNil, waCons, wgName, wgNil, wgCons, wgTup, wAug, wPar, wAsgG, wApp, wExt, wPop, wSetI, wNever, rd, rds, cl, cls, sv, ret, toS, items, rII, rIIC, rPlus, rMinus, rAddI, rTimes, rFdivW, rMod, rPowW, rNeg, rLt, rLe, rGt, rGe, rEqq, rNeq, rIsN, rNotN, rIxD, rSlD, cLen, cTuple, cList, cII, cMin, cMax, cAbs, cInt, List.getElem?_cons_zero, List.getElem?_cons_succ, List.set_cons_zero, List.set_cons_succ, List.replicate, List.cons_append, List.nil_append, Option.some.injEq, Option.map_some, exists_eq_left', exists_eq_left, exists_and_left, exists_const, ite_true, ite_false, if_true, if_false, reduceCtorEq, decide_eq_true_eq, Bool.not_eq_true', Bool.not_eq_true, Bool.false_eq_true, Bool.true_eq_false, false_and, and_false, exists_false, not_true_eq_false, not_false_eq_true, Bool.not_true, Bool.not_false, DV.c.injEq, D.int.injEq, D.bl.injEq, D.tup.injEq, D.lst.injEq, DV.f.injEq, S.val.injEq, S.own.injEq, List.cons.injEq, and_true, true_and, okD_int, okD_bl, eqD_int, eqD_bl, Prod.mk.injEq, and_assoc])
      show _ = _
      rfl
  · exact hp.elim
end Dl
namespace Dl
open PySem L2 Km
theorem okV {d : D} (h : noTy d = true) (nt : ∀ ds, d ≠ .tup ds) : okVal d := ⟨h, fun ds e => absurd e (nt ds)⟩
theorem okT {ds : List D} (h : ∀ x ∈ ds, noTy x = true) : okVal (.tup ds) := ⟨rfl, fun es e x hx => by cases e; exact h x hx⟩
theorem noI (ns : List Int) : ∀ x ∈ ns.map D.int, noTy x = true := fun x hx => by
  obtain ⟨c, _, rfl⟩ := List.mem_map.mp hx
  rfl
theorem noA {a b : List D} (ha : ∀ x ∈ a, noTy x = true) (hb : ∀ x ∈ b, noTy x = true) : ∀ x ∈ a ++ b, noTy x = true := fun x hx => (List.mem_append.mp hx).elim (ha x) (hb x)
theorem noC {a : List D} (ha : ∀ x ∈ a, noTy x = true) (lo hi : Option Int) : ∀ x ∈ cutD a lo hi, noTy x = true := fun x hx => ha x (List.mem_of_mem_drop (List.mem_of_mem_take hx))
theorem noR {a : List D} (ha : ∀ x ∈ a, noTy x = true) (n : Nat) : ∀ x ∈ (List.replicate n a).flatten, noTy x = true := fun x hx => by
  obtain ⟨l, hl, hx⟩ := List.mem_flatten.mp hx
  rw [(List.eq_of_mem_replicate hl)] at hx
  exact ha x hx
theorem no1 {d : D} (h : noTy d = true) : ∀ x ∈ [d], noTy x = true := fun x hx => by
  have : x = d := by simpa using hx
  rw [this]; exact h
theorem cut_len (ds : List D) (lo hi : Option Int) : (cutD ds lo hi).length ≤ ds.length := by
  unfold cutD
  rw [List.length_take, List.length_drop]
  omega
theorem cpow_61 : CPowW 10 61 := ⟨by decide, by decide +kernel⟩
def inv_near (t : D) (i : Int) (m : Nat) (δ : List S) : Prop := ∃ (ds : List D) (s : S), δ = [.dice, .val t, .val (.int i), .own ds, s] ∧ ds.length = 7 + m ∧ ∀ d ∈ ds, okVal d
theorem all_app {a b : List D} (ha : ∀ d ∈ a, okVal d) (hb : ∀ d ∈ b, okVal d) : ∀ d ∈ a ++ b, okVal d := fun x hx => (List.mem_append.mp hx).elim (ha x) (hb x)
theorem all_cons {a : D} {b : List D} (ha : okVal a) (hb : ∀ d ∈ b, okVal d) : ∀ d ∈ a :: b, okVal d := fun x hx => by
  rcases List.mem_cons.mp hx with rfl | hx
  · exact ha
  · exact hb x hx
theorem all_nil : ∀ d ∈ ([] : List D), okVal d := fun _ h => nomatch h
theorem goal__law_near_values : Goal w__law_near_values ["dice", "term", "at", "found", "code"] 2 pre__law_near_values post__law_near_values := by
  intro xs hl hp
  unfold pre__law_near_values at hp
  split at hp
  · rename_i t
    obtain ⟨ns, rfl, tm⟩ := hp
    have tl := tm.len
    have tp := tm.pos
    have c1 := cut_len (ns.map D.int) (some 1) none
    have c2 := cut_len (ns.map D.int) none (some (-1))
    rw [List.length_map] at c1 c2
    unfold w__law_near_values
    simp only [List.length_cons, List.length_nil]
    simp only [wSeq, wSet, wOp, wVar, wC, wUn, wChain, wAnd, wOr, wNot, wB, wAndT, wOrT, wNotT, wIf, wIfS, wRet, wDrop, wTup, wLst, wEmp, wSl, woNone, woSome, wCB, waNil, waCons, wgName, wgNil, wgCons, wgTup, wAug, wPar, wAsgG, wApp, wExt, wPop, wSetI, wNever, rd, rds, cl, cls, sv, ret, toS, items, rII, rIIC, rPlus, rMinus, rAddI, rTimes, rFdivW, rMod, rPowW, rNeg, rLt, rLe, rGt, rGe, rEqq, rNeq, rIsN, rNotN, rIxD, rSlD, cLen, cTuple, cList, cII, cMin, cMax, cAbs, cInt, List.getElem?_cons_zero, List.getElem?_cons_succ, List.set_cons_zero, List.set_cons_succ, List.replicate, List.cons_append, List.nil_append, Option.some.injEq, Option.map_some, exists_eq_left', exists_eq_left, exists_and_left, exists_const, ite_true, ite_false, if_true, if_false, reduceCtorEq, decide_eq_true_eq, Bool.not_eq_true', Bool.not_eq_true, Bool.false_eq_true, Bool.true_eq_false, false_and, and_false, exists_false, not_true_eq_false, not_false_eq_true, Bool.not_true, Bool.not_false, DV.c.injEq, D.int.injEq, D.bl.injEq, D.tup.injEq, D.lst.injEq, DV.f.injEq, S.val.injEq, S.own.injEq, List.cons.injEq, and_true, true_and, okD_int, okD_bl, eqD_int, eqD_bl, Prod.mk.injEq, and_assoc]
    simp only [wCall]
    (try simp only [wSeq, wSet, wOp, wVar, wC, wUn, wChain, wAnd, wOr, wNot, wB, wAndT, wOrT, wNotT, wIf, wIfS, wRet, wDrop, wTup, wLst, wEmp, wSl, woNone, woSome, wCB, waNil, waCons, wgName, wgNil, wgCons, wgTup, wAug, wPar, wAsgG, wApp, wExt, wPop, wSetI, wNever, rd, rds, cl, cls, sv, ret, toS, items, rII, rIIC, rPlus, rMinus, rAddI, rTimes, rFdivW, rMod, rPowW, rNeg, rLt, rLe, rGt, rGe, rEqq, rNeq, rIsN, rNotN, rIxD, rSlD, cLen, cTuple, cList, cII, cMin, cMax, cAbs, cInt, List.getElem?_cons_zero, List.getElem?_cons_succ, List.set_cons_zero, List.set_cons_succ, List.replicate, List.cons_append, List.nil_append, Option.some.injEq, Option.map_some, exists_eq_left', exists_eq_left, exists_and_left, exists_const, ite_true, ite_false, if_true, if_false, reduceCtorEq, decide_eq_true_eq, Bool.not_eq_true', Bool.not_eq_true, Bool.false_eq_true, Bool.true_eq_false, false_and, and_false, exists_false, not_true_eq_false, not_false_eq_true, Bool.not_true, Bool.not_false, DV.c.injEq, D.int.injEq, D.bl.injEq, D.tup.injEq, D.lst.injEq, DV.f.injEq, S.val.injEq, S.own.injEq, List.cons.injEq, and_true, true_and, okD_int, okD_bl, eqD_int, eqD_bl, Prod.mk.injEq, and_assoc])
    refine roll_go (by rw [List.length_map]; omega) (by rw [List.length_map]; omega) fun i i0 i1 => ?_
    (try simp only [wSeq, wSet, wOp, wVar, wC, wUn, wChain, wAnd, wOr, wNot, wB, wAndT, wOrT, wNotT, wIf, wIfS, wRet, wDrop, wTup, wLst, wEmp, wSl, woNone, woSome, wCB, waNil, waCons, wgName, wgNil, wgCons, wgTup, wAug, wPar, wAsgG, wApp, wExt, wPop, wSetI, wNever, rd, rds, cl, cls, sv, ret, toS, items, rII, rIIC, rPlus, rMinus, rAddI, rTimes, rFdivW, rMod, rPowW, rNeg, rLt, rLe, rGt, rGe, rEqq, rNeq, rIsN, rNotN, rIxD, rSlD, cLen, cTuple, cList, cII, cMin, cMax, cAbs, cInt, List.getElem?_cons_zero, List.getElem?_cons_succ, List.set_cons_zero, List.set_cons_succ, List.replicate, List.cons_append, List.nil_append, Option.some.injEq, Option.map_some, exists_eq_left', exists_eq_left, exists_and_left, exists_const, ite_true, ite_false, if_true, if_false, reduceCtorEq, decide_eq_true_eq, Bool.not_eq_true', Bool.not_eq_true, Bool.false_eq_true, Bool.true_eq_false, false_and, and_false, exists_false, not_true_eq_false, not_false_eq_true, Bool.not_true, Bool.not_false, DV.c.injEq, D.int.injEq, D.bl.injEq, D.tup.injEq, D.lst.injEq, DV.f.injEq, S.val.injEq, S.own.injEq, List.cons.injEq, and_true, true_and, okD_int, okD_bl, eqD_int, eqD_bl, Prod.mk.injEq, and_assoc])
    (repeat (refine And.intro ?_ ?_; · (first | rfl | decide | omega | (simp; done) | (simp; omega))))
    have c3 := cut_len (ns.map D.int) none (some i)
    have c4 := cut_len (ns.map D.int) (some (i + 1)) none
    have c5 := cut_len (ns.map D.int) (some i) none
    rw [List.length_map] at c3 c4 c5
    unfold w__law_near_values_5 wFor
    simp only [wSeq, wSet, wOp, wVar, wC, wUn, wChain, wAnd, wOr, wNot, wB, wAndT, wOrT, wNotT, wIf, wIfS, wRet, wDrop, wTup, wLst, wEmp, wSl, woNone, woSome, wCB, waNil, waCons, wgName, wgNil, wgCons, wgTup, wAug, wPar, wAsgG, wApp, wExt, wPop, wSetI, wNever, rd, rds, cl, cls, sv, ret, toS, items, rII, rIIC, rPlus, rMinus, rAddI, rTimes, rFdivW, rMod, rPowW, rNeg, rLt, rLe, rGt, rGe, rEqq, rNeq, rIsN, rNotN, rIxD, rSlD, cLen, cTuple, cList, cII, cMin, cMax, cAbs, cInt, List.getElem?_cons_zero, List.getElem?_cons_succ, List.set_cons_zero, List.set_cons_succ, List.replicate, List.cons_append, List.nil_append, Option.some.injEq, Option.map_some, exists_eq_left', exists_eq_left, exists_and_left, exists_const, ite_true, ite_false, if_true, if_false, reduceCtorEq, decide_eq_true_eq, Bool.not_eq_true', Bool.not_eq_true, Bool.false_eq_true, Bool.true_eq_false, false_and, and_false, exists_false, not_true_eq_false, not_false_eq_true, Bool.not_true, Bool.not_false, DV.c.injEq, D.int.injEq, D.bl.injEq, D.tup.injEq, D.lst.injEq, DV.f.injEq, S.val.injEq, S.own.injEq, List.cons.injEq, and_true, true_and, okD_int, okD_bl, eqD_int, eqD_bl, Prod.mk.injEq, and_assoc]
    simp only [wCall]
    (try simp only [wSeq, wSet, wOp, wVar, wC, wUn, wChain, wAnd, wOr, wNot, wB, wAndT, wOrT, wNotT, wIf, wIfS, wRet, wDrop, wTup, wLst, wEmp, wSl, woNone, woSome, wCB, waNil, waCons, wgName, wgNil, wgCons, wgTup, wAug, wPar, wAsgG, wApp, wExt, wPop, wSetI, wNever, rd, rds, cl, cls, sv, ret, toS, items, rII, rIIC, rPlus, rMinus, rAddI, rTimes, rFdivW, rMod, rPowW, rNeg, rLt, rLe, rGt, rGe, rEqq, rNeq, rIsN, rNotN, rIxD, rSlD, cLen, cTuple, cList, cII, cMin, cMax, cAbs, cInt, List.getElem?_cons_zero, List.getElem?_cons_succ, List.set_cons_zero, List.set_cons_succ, List.replicate, List.cons_append, List.nil_append, Option.some.injEq, Option.map_some, exists_eq_left', exists_eq_left, exists_and_left, exists_const, ite_true, ite_false, if_true, if_false, reduceCtorEq, decide_eq_true_eq, Bool.not_eq_true', Bool.not_eq_true, Bool.false_eq_true, Bool.true_eq_false, false_and, and_false, exists_false, not_true_eq_false, not_false_eq_true, Bool.not_true, Bool.not_false, DV.c.injEq, D.int.injEq, D.bl.injEq, D.tup.injEq, D.lst.injEq, DV.f.injEq, S.val.injEq, S.own.injEq, List.cons.injEq, and_true, true_and, okD_int, okD_bl, eqD_int, eqD_bl, Prod.mk.injEq, and_assoc])
    rw [List.length_map] at i1
    refine ⟨cpow_61, by simp, roll_go (by omega) (by omega) fun j j0 j1 => ?_⟩
    (try simp only [wSeq, wSet, wOp, wVar, wC, wUn, wChain, wAnd, wOr, wNot, wB, wAndT, wOrT, wNotT, wIf, wIfS, wRet, wDrop, wTup, wLst, wEmp, wSl, woNone, woSome, wCB, waNil, waCons, wgName, wgNil, wgCons, wgTup, wAug, wPar, wAsgG, wApp, wExt, wPop, wSetI, wNever, rd, rds, cl, cls, sv, ret, toS, items, rII, rIIC, rPlus, rMinus, rAddI, rTimes, rFdivW, rMod, rPowW, rNeg, rLt, rLe, rGt, rGe, rEqq, rNeq, rIsN, rNotN, rIxD, rSlD, cLen, cTuple, cList, cII, cMin, cMax, cAbs, cInt, List.getElem?_cons_zero, List.getElem?_cons_succ, List.set_cons_zero, List.set_cons_succ, List.replicate, List.cons_append, List.nil_append, Option.some.injEq, Option.map_some, exists_eq_left', exists_eq_left, exists_and_left, exists_const, ite_true, ite_false, if_true, if_false, reduceCtorEq, decide_eq_true_eq, Bool.not_eq_true', Bool.not_eq_true, Bool.false_eq_true, Bool.true_eq_false, false_and, and_false, exists_false, not_true_eq_false, not_false_eq_true, Bool.not_true, Bool.not_false, DV.c.injEq, D.int.injEq, D.bl.injEq, D.tup.injEq, D.lst.injEq, DV.f.injEq, S.val.injEq, S.own.injEq, List.cons.injEq, and_true, true_and, okD_int, okD_bl, eqD_int, eqD_bl, Prod.mk.injEq, and_assoc])
    (repeat (refine And.intro ?_ ?_; · (first | rfl | decide | omega | (simp; done) | (simp; omega))))
    refine ⟨inv_near (tI ns) i, ⟨_, _, rfl, rfl, ?_⟩, ?_, ?_⟩
    · refine all_cons (okVal_ints ns) (all_cons (okV rfl (by simp)) (all_cons (okT (no1 rfl)) (all_cons (okT (noC (noI ns) _ _)) (all_cons (okT (noC (noI ns) _ _)) (all_cons (okT (noA (noI ns) (no1 rfl))) (all_cons (okT (noA (no1 rfl) (noI ns))) all_nil))))))
    · rintro m d δ hm ⟨ds, s, rfl, hlen, hok⟩
      have hmlt := (List.getElem?_eq_some_iff.mp hm).1
      have hd : noTy d = true := by
        have := List.mem_of_getElem? hm
        simp only [List.mem_cons, List.not_mem_nil, or_false] at this
        rcases this with rfl | rfl | rfl | rfl | rfl | rfl | rfl | rfl | rfl | rfl | rfl | rfl | rfl <;> rfl
      simp only [List.length_cons, List.length_nil] at hmlt
      unfold w__law_near_values_3
      simp only [wSeq, wSet, wOp, wVar, wC, wUn, wChain, wAnd, wOr, wNot, wB, wAndT, wOrT, wNotT, wIf, wIfS, wRet, wDrop, wTup, wLst, wEmp, wSl, woNone, woSome, wCB, waNil, waCons, wgName, wgNil, wgCons, wgTup, wAug, wPar, wAsgG, wApp, wExt, wPop, wSetI, wNever, rd, rds, cl, cls, sv, ret, toS, items, rII, rIIC, rPlus, rMinus, rAddI, rTimes, rFdivW, rMod, rPowW, rNeg, rLt, rLe, rGt, rGe, rEqq, rNeq, rIsN, rNotN, rIxD, rSlD, cLen, cTuple, cList, cII, cMin, cMax, cAbs, cInt, List.getElem?_cons_zero, List.getElem?_cons_succ, List.set_cons_zero, List.set_cons_succ, List.replicate, List.cons_append, List.nil_append, Option.some.injEq, Option.map_some, exists_eq_left', exists_eq_left, exists_and_left, exists_const, ite_true, ite_false, if_true, if_false, reduceCtorEq, decide_eq_true_eq, Bool.not_eq_true', Bool.not_eq_true, Bool.false_eq_true, Bool.true_eq_false, false_and, and_false, exists_false, not_true_eq_false, not_false_eq_true, Bool.not_true, Bool.not_false, DV.c.injEq, D.int.injEq, D.bl.injEq, D.tup.injEq, D.lst.injEq, DV.f.injEq, S.val.injEq, S.own.injEq, List.cons.injEq, and_true, true_and, okD_int, okD_bl, eqD_int, eqD_bl, Prod.mk.injEq, and_assoc]
      (repeat (refine And.intro ?_ ?_; · (first | rfl | decide | omega | (simp; done) | (simp; omega))))
      refine ⟨_, _, rfl, by rw [List.length_append]; simp; omega, all_app hok (all_cons (okT (noA (noA (noC (noI ns) _ _) (no1 hd)) (noC (noI ns) _ _))) all_nil)⟩
    · rintro δ ⟨ds, s, rfl, hlen, hok⟩
      simp only [List.length_cons, List.length_nil] at hlen
      unfold w__law_near_values_4
      simp only [wSeq, wSet, wOp, wVar, wC, wUn, wChain, wAnd, wOr, wNot, wB, wAndT, wOrT, wNotT, wIf, wIfS, wRet, wDrop, wTup, wLst, wEmp, wSl, woNone, woSome, wCB, waNil, waCons, wgName, wgNil, wgCons, wgTup, wAug, wPar, wAsgG, wApp, wExt, wPop, wSetI, wNever, rd, rds, cl, cls, sv, ret, toS, items, rII, rIIC, rPlus, rMinus, rAddI, rTimes, rFdivW, rMod, rPowW, rNeg, rLt, rLe, rGt, rGe, rEqq, rNeq, rIsN, rNotN, rIxD, rSlD, cLen, cTuple, cList, cII, cMin, cMax, cAbs, cInt, List.getElem?_cons_zero, List.getElem?_cons_succ, List.set_cons_zero, List.set_cons_succ, List.replicate, List.cons_append, List.nil_append, Option.some.injEq, Option.map_some, exists_eq_left', exists_eq_left, exists_and_left, exists_const, ite_true, ite_false, if_true, if_false, reduceCtorEq, decide_eq_true_eq, Bool.not_eq_true', Bool.not_eq_true, Bool.false_eq_true, Bool.true_eq_false, false_and, and_false, exists_false, not_true_eq_false, not_false_eq_true, Bool.not_true, Bool.not_false, DV.c.injEq, D.int.injEq, D.bl.injEq, D.tup.injEq, D.lst.injEq, DV.f.injEq, S.val.injEq, S.own.injEq, List.cons.injEq, and_true, true_and, okD_int, okD_bl, eqD_int, eqD_bl, Prod.mk.injEq, and_assoc]
      (repeat (refine And.intro ?_ ?_; · (first | rfl | decide | omega | (simp; done) | (simp; omega))))
      unfold w__law_near_values_2
      simp only [wSeq, wSet, wOp, wVar, wC, wUn, wChain, wAnd, wOr, wNot, wB, wAndT, wOrT, wNotT, wIf, wIfS, wRet, wDrop, wTup, wLst, wEmp, wSl, woNone, woSome, wCB, waNil, waCons, wgName, wgNil, wgCons, wgTup, wAug, wPar, wAsgG, wApp, wExt, wPop, wSetI, wNever, rd, rds, cl, cls, sv, ret, toS, items, rII, rIIC, rPlus, rMinus, rAddI, rTimes, rFdivW, rMod, rPowW, rNeg, rLt, rLe, rGt, rGe, rEqq, rNeq, rIsN, rNotN, rIxD, rSlD, cLen, cTuple, cList, cII, cMin, cMax, cAbs, cInt, List.getElem?_cons_zero, List.getElem?_cons_succ, List.set_cons_zero, List.set_cons_succ, List.replicate, List.cons_append, List.nil_append, Option.some.injEq, Option.map_some, exists_eq_left', exists_eq_left, exists_and_left, exists_const, ite_true, ite_false, if_true, if_false, reduceCtorEq, decide_eq_true_eq, Bool.not_eq_true', Bool.not_eq_true, Bool.false_eq_true, Bool.true_eq_false, false_and, and_false, exists_false, not_true_eq_false, not_false_eq_true, Bool.not_true, Bool.not_false, DV.c.injEq, D.int.injEq, D.bl.injEq, D.tup.injEq, D.lst.injEq, DV.f.injEq, S.val.injEq, S.own.injEq, List.cons.injEq, and_true, true_and, okD_int, okD_bl, eqD_int, eqD_bl, Prod.mk.injEq, and_assoc]
      (repeat (refine And.intro ?_ ?_; · (first | rfl | decide | omega | (simp; done) | (simp; omega))))
      unfold w__law_near_values_1
      simp only [wSeq, wSet, wOp, wVar, wC, wUn, wChain, wAnd, wOr, wNot, wB, wAndT, wOrT, wNotT, wIf, wIfS, wRet, wDrop, wTup, wLst, wEmp, wSl, woNone, woSome, wCB, waNil, waCons, wgName, wgNil, wgCons, wgTup, wAug, wPar, wAsgG, wApp, wExt, wPop, wSetI, wNever, rd, rds, cl, cls, sv, ret, toS, items, rII, rIIC, rPlus, rMinus, rAddI, rTimes, rFdivW, rMod, rPowW, rNeg, rLt, rLe, rGt, rGe, rEqq, rNeq, rIsN, rNotN, rIxD, rSlD, cLen, cTuple, cList, cII, cMin, cMax, cAbs, cInt, List.getElem?_cons_zero, List.getElem?_cons_succ, List.set_cons_zero, List.set_cons_succ, List.replicate, List.cons_append, List.nil_append, Option.some.injEq, Option.map_some, exists_eq_left', exists_eq_left, exists_and_left, exists_const, ite_true, ite_false, if_true, if_false, reduceCtorEq, decide_eq_true_eq, Bool.not_eq_true', Bool.not_eq_true, Bool.false_eq_true, Bool.true_eq_false, false_and, and_false, exists_false, not_true_eq_false, not_false_eq_true, Bool.not_true, Bool.not_false, DV.c.injEq, D.int.injEq, D.bl.injEq, D.tup.injEq, D.lst.injEq, DV.f.injEq, S.val.injEq, S.own.injEq, List.cons.injEq, and_true, true_and, okD_int, okD_bl, eqD_int, eqD_bl, Prod.mk.injEq, and_assoc]
      (repeat (refine And.intro ?_ ?_; · (first | rfl | decide | omega | (simp; done) | (simp; omega))))
      refine ⟨_, rfl, by simp; omega, ?_⟩
      refine all_app (all_app (all_app hok (all_cons (okT (noA (noC (noI ns) _ _) (noC (noI ns) _ _))) (all_cons (okT (noA (noA (noC (noI ns) _ _) (no1 rfl)) (noC (noI ns) _ _))) (all_cons (okT (noA (no1 rfl) (noI ns))) (all_cons (okT (noA (noI ns) (noI ns))) all_nil))))) (all_cons (okT (noA (noA (no1 rfl) (noI ns)) (noI ns))) all_nil)) ?_
      refine all_cons (okT (fun _ h => nomatch h)) (all_cons (okV rfl (by simp)) (all_cons (okV rfl (by simp)) (all_cons (okV rfl (by simp)) (all_cons (okV rfl (by simp)) (all_cons (okV rfl (by simp)) (all_cons (okT (no1 rfl)) (all_cons (okT (no1 rfl)) (all_cons (okT (no1 rfl)) (all_cons (okT (noI [0, 1])) all_nil)))))))))
  · exact hp.elim
end Dl
namespace Dl
open PySem L2 Km
theorem rep_len (n : Nat) (a : List D) : ((List.replicate n a).flatten).length = n * a.length := by
  induction n with
  | zero => simp
  | succ n ih => rw [List.replicate_succ, List.flatten_cons, List.length_append, ih, Nat.succ_mul]; omega
theorem cdiv2 (i : Int) : CDivW i 2 := ⟨by decide, by decide⟩
theorem cdiv3 (i : Int) : CDivW i 3 := ⟨by decide, by decide⟩
theorem goal__law_long_values : Goal w__law_long_values ["dice", "more", "found"] 1 pre__law_long_values post__law_long_values := by
  intro xs hl hp
  unfold pre__law_long_values at hp
  split at hp
  · unfold w__law_long_values
    simp only [List.length_cons, List.length_nil]
    simp only [wSeq, wSet, wOp, wVar, wC, wUn, wChain, wAnd, wOr, wNot, wB, wAndT, wOrT, wNotT, wIf, wIfS, wRet, wDrop, wTup, wLst, wEmp, wSl, woNone, woSome, wCB, waNil, waCons, wgName, wgNil, wgCons, wgTup, wAug, wPar, wAsgG, wApp, wExt, wPop, wSetI, wNever, rd, rds, cl, cls, sv, ret, toS, items, rII, rIIC, rPlus, rMinus, rAddI, rTimes, rFdivW, rMod, rPowW, rNeg, rLt, rLe, rGt, rGe, rEqq, rNeq, rIsN, rNotN, rIxD, rSlD, cLen, cTuple, cList, cII, cMin, cMax, cAbs, cInt, List.getElem?_cons_zero, List.getElem?_cons_succ, List.set_cons_zero, List.set_cons_succ, List.replicate, List.cons_append, List.nil_append, Option.some.injEq, Option.map_some, exists_eq_left', exists_eq_left, exists_and_left, exists_const, ite_true, ite_false, if_true, if_false, reduceCtorEq, decide_eq_true_eq, Bool.not_eq_true', Bool.not_eq_true, Bool.false_eq_true, Bool.true_eq_false, false_and, and_false, exists_false, not_true_eq_false, not_false_eq_true, Bool.not_true, Bool.not_false, DV.c.injEq, D.int.injEq, D.bl.injEq, D.tup.injEq, D.lst.injEq, DV.f.injEq, S.val.injEq, S.own.injEq, List.cons.injEq, and_true, true_and, okD_int, okD_bl, eqD_int, eqD_bl, Prod.mk.injEq, and_assoc]
    simp only [wCall]
    (try simp only [wSeq, wSet, wOp, wVar, wC, wUn, wChain, wAnd, wOr, wNot, wB, wAndT, wOrT, wNotT, wIf, wIfS, wRet, wDrop, wTup, wLst, wEmp, wSl, woNone, woSome, wCB, waNil, waCons, wgName, wgNil, wgCons, wgTup, wAug, wPar, wAsgG, wApp, wExt, wPop, wSetI, wNever, rd, rds, cl, cls, sv, ret, toS, items, rII, rIIC, rPlus, rMinus, rAddI, rTimes, rFdivW, rMod, rPowW, rNeg, rLt, rLe, rGt, rGe, rEqq, rNeq, rIsN, rNotN, rIxD, rSlD, cLen, cTuple, cList, cII, cMin, cMax, cAbs, cInt, List.getElem?_cons_zero, List.getElem?_cons_succ, List.set_cons_zero, List.set_cons_succ, List.replicate, List.cons_append, List.nil_append, Option.some.injEq, Option.map_some, exists_eq_left', exists_eq_left, exists_and_left, exists_const, ite_true, ite_false, if_true, if_false, reduceCtorEq, decide_eq_true_eq, Bool.not_eq_true', Bool.not_eq_true, Bool.false_eq_true, Bool.true_eq_false, false_and, and_false, exists_false, not_true_eq_false, not_false_eq_true, Bool.not_true, Bool.not_false, DV.c.injEq, D.int.injEq, D.bl.injEq, D.tup.injEq, D.lst.injEq, DV.f.injEq, S.val.injEq, S.own.injEq, List.cons.injEq, and_true, true_and, okD_int, okD_bl, eqD_int, eqD_bl, Prod.mk.injEq, and_assoc])
    refine roll_go (by omega) (by omega) fun i i0 i1 => ?_
    (try simp only [wSeq, wSet, wOp, wVar, wC, wUn, wChain, wAnd, wOr, wNot, wB, wAndT, wOrT, wNotT, wIf, wIfS, wRet, wDrop, wTup, wLst, wEmp, wSl, woNone, woSome, wCB, waNil, waCons, wgName, wgNil, wgCons, wgTup, wAug, wPar, wAsgG, wApp, wExt, wPop, wSetI, wNever, rd, rds, cl, cls, sv, ret, toS, items, rII, rIIC, rPlus, rMinus, rAddI, rTimes, rFdivW, rMod, rPowW, rNeg, rLt, rLe, rGt, rGe, rEqq, rNeq, rIsN, rNotN, rIxD, rSlD, cLen, cTuple, cList, cII, cMin, cMax, cAbs, cInt, List.getElem?_cons_zero, List.getElem?_cons_succ, List.set_cons_zero, List.set_cons_succ, List.replicate, List.cons_append, List.nil_append, Option.some.injEq, Option.map_some, exists_eq_left', exists_eq_left, exists_and_left, exists_const, ite_true, ite_false, if_true, if_false, reduceCtorEq, decide_eq_true_eq, Bool.not_eq_true', Bool.not_eq_true, Bool.false_eq_true, Bool.true_eq_false, false_and, and_false, exists_false, not_true_eq_false, not_false_eq_true, Bool.not_true, Bool.not_false, DV.c.injEq, D.int.injEq, D.bl.injEq, D.tup.injEq, D.lst.injEq, DV.f.injEq, S.val.injEq, S.own.injEq, List.cons.injEq, and_true, true_and, okD_int, okD_bl, eqD_int, eqD_bl, Prod.mk.injEq, and_assoc])
    obtain ⟨m, hm⟩ : ∃ m, m = 397 + i := ⟨_, rfl⟩
    rw [← hm]
    unfold w__law_long_values_3
    simp only [wSeq, wSet, wOp, wVar, wC, wUn, wChain, wAnd, wOr, wNot, wB, wAndT, wOrT, wNotT, wIf, wIfS, wRet, wDrop, wTup, wLst, wEmp, wSl, woNone, woSome, wCB, waNil, waCons, wgName, wgNil, wgCons, wgTup, wAug, wPar, wAsgG, wApp, wExt, wPop, wSetI, wNever, rd, rds, cl, cls, sv, ret, toS, items, rII, rIIC, rPlus, rMinus, rAddI, rTimes, rFdivW, rMod, rPowW, rNeg, rLt, rLe, rGt, rGe, rEqq, rNeq, rIsN, rNotN, rIxD, rSlD, cLen, cTuple, cList, cII, cMin, cMax, cAbs, cInt, List.getElem?_cons_zero, List.getElem?_cons_succ, List.set_cons_zero, List.set_cons_succ, List.replicate, List.cons_append, List.nil_append, Option.some.injEq, Option.map_some, exists_eq_left', exists_eq_left, exists_and_left, exists_const, ite_true, ite_false, if_true, if_false, reduceCtorEq, decide_eq_true_eq, Bool.not_eq_true', Bool.not_eq_true, Bool.false_eq_true, Bool.true_eq_false, false_and, and_false, exists_false, not_true_eq_false, not_false_eq_true, Bool.not_true, Bool.not_false, DV.c.injEq, D.int.injEq, D.bl.injEq, D.tup.injEq, D.lst.injEq, DV.f.injEq, S.val.injEq, S.own.injEq, List.cons.injEq, and_true, true_and, okD_int, okD_bl, eqD_int, eqD_bl, Prod.mk.injEq, and_assoc]
    simp only [rep_len, List.length_append, List.length_cons, List.length_nil]
    have e2 := cdiv2 m
    have e3 := cdiv3 m
    simp only [e2, e3, true_and, ne_eq, reduceCtorEq, not_false_eq_true]
    (repeat (refine And.intro ?_ ?_; · (first | rfl | decide | omega | (simp; done) | (simp; omega))))
    unfold w__law_long_values_2
    simp only [wSeq, wSet, wOp, wVar, wC, wUn, wChain, wAnd, wOr, wNot, wB, wAndT, wOrT, wNotT, wIf, wIfS, wRet, wDrop, wTup, wLst, wEmp, wSl, woNone, woSome, wCB, waNil, waCons, wgName, wgNil, wgCons, wgTup, wAug, wPar, wAsgG, wApp, wExt, wPop, wSetI, wNever, rd, rds, cl, cls, sv, ret, toS, items, rII, rIIC, rPlus, rMinus, rAddI, rTimes, rFdivW, rMod, rPowW, rNeg, rLt, rLe, rGt, rGe, rEqq, rNeq, rIsN, rNotN, rIxD, rSlD, cLen, cTuple, cList, cII, cMin, cMax, cAbs, cInt, List.getElem?_cons_zero, List.getElem?_cons_succ, List.set_cons_zero, List.set_cons_succ, List.replicate, List.cons_append, List.nil_append, Option.some.injEq, Option.map_some, exists_eq_left', exists_eq_left, exists_and_left, exists_const, ite_true, ite_false, if_true, if_false, reduceCtorEq, decide_eq_true_eq, Bool.not_eq_true', Bool.not_eq_true, Bool.false_eq_true, Bool.true_eq_false, false_and, and_false, exists_false, not_true_eq_false, not_false_eq_true, Bool.not_true, Bool.not_false, DV.c.injEq, D.int.injEq, D.bl.injEq, D.tup.injEq, D.lst.injEq, DV.f.injEq, S.val.injEq, S.own.injEq, List.cons.injEq, and_true, true_and, okD_int, okD_bl, eqD_int, eqD_bl, Prod.mk.injEq, and_assoc]
    simp only [rep_len, List.length_append, List.length_cons, List.length_nil, e2, e3, true_and, ne_eq, reduceCtorEq, not_false_eq_true]
    (repeat (refine And.intro ?_ ?_; · (first | rfl | decide | omega | (simp; done) | (simp; omega))))
    unfold w__law_long_values_1
    simp only [wSeq, wSet, wOp, wVar, wC, wUn, wChain, wAnd, wOr, wNot, wB, wAndT, wOrT, wNotT, wIf, wIfS, wRet, wDrop, wTup, wLst, wEmp, wSl, woNone, woSome, wCB, waNil, waCons, wgName, wgNil, wgCons, wgTup, wAug, wPar, wAsgG, wApp, wExt, wPop, wSetI, wNever, rd, rds, cl, cls, sv, ret, toS, items, rII, rIIC, rPlus, rMinus, rAddI, rTimes, rFdivW, rMod, rPowW, rNeg, rLt, rLe, rGt, rGe, rEqq, rNeq, rIsN, rNotN, rIxD, rSlD, cLen, cTuple, cList, cII, cMin, cMax, cAbs, cInt, List.getElem?_cons_zero, List.getElem?_cons_succ, List.set_cons_zero, List.set_cons_succ, List.replicate, List.cons_append, List.nil_append, Option.some.injEq, Option.map_some, exists_eq_left', exists_eq_left, exists_and_left, exists_const, ite_true, ite_false, if_true, if_false, reduceCtorEq, decide_eq_true_eq, Bool.not_eq_true', Bool.not_eq_true, Bool.false_eq_true, Bool.true_eq_false, false_and, and_false, exists_false, not_true_eq_false, not_false_eq_true, Bool.not_true, Bool.not_false, DV.c.injEq, D.int.injEq, D.bl.injEq, D.tup.injEq, D.lst.injEq, DV.f.injEq, S.val.injEq, S.own.injEq, List.cons.injEq, and_true, true_and, okD_int, okD_bl, eqD_int, eqD_bl, Prod.mk.injEq, and_assoc]
    simp only [rep_len, List.length_append, List.length_cons, List.length_nil, e2, e3, true_and, ne_eq, reduceCtorEq, not_false_eq_true]
    (repeat (refine And.intro ?_ ?_; · (first | rfl | decide | omega | (simp; done) | (simp; omega))))
    refine ⟨_, rfl, by simp, ?_⟩
    have r1 : ∀ (n : Nat) (c : Int), ∀ x ∈ (List.replicate n [D.int c]).flatten, noTy x = true := fun n c => noR (no1 rfl) n
    have r2 : ∀ (n : Nat) (c d : Int), ∀ x ∈ (List.replicate n [D.int c, D.int d]).flatten, noTy x = true := fun n c d => noR (noI [c, d]) n
    have r3 : ∀ (n : Nat) (c d e : Int), ∀ x ∈ (List.replicate n [D.int c, D.int d, D.int e]).flatten, noTy x = true := fun n c d e => noR (noI [c, d, e]) n
    refine all_cons (okT (noA (r1 _ _) (no1 rfl))) (all_cons (okT (noA (r1 _ _) (r1 _ _))) (all_cons (okT (noA (r2 _ _ _) (r1 _ _))) (all_cons (okT (noA (r2 _ _ _) (no1 rfl))) (all_cons (okT (noA (r2 _ _ _) (no1 rfl))) (all_cons (okT (noA (r3 _ _ _ _) (no1 rfl))) (all_cons (okT (noA (r3 _ _ _ _) (noI [-1, 5]))) all_nil))))))
  · exact hp.elim
end Dl
namespace Dl
open PySem L2 Km
theorem inner_part {ns : List Int} {k n q : Nat} (t : Tm ns) (hk : k < ns.length) (hn : scn 1 (ns.drop k) = some n) (h1 : k ≤ q) (h2 : q < k + n) :
    ∃ m, scn 1 (ns.drop q) = some m ∧ 0 < m ∧ q + m ≤ k + n ∧ scn 1 (((ns.drop k).take n).drop (q - k)) = some m ∧ ((((ns.drop k).take n).drop (q - k)).take m) = (ns.drop q).take m := by
  obtain ⟨n', e1, _, e3, e4⟩ := part_at t.jd hk
  rw [hn] at e1; cases e1
  have lp : ((ns.drop k).take n).length = n := by rw [List.length_take, List.length_drop]; omega
  obtain ⟨m, f1, f2, f3, _⟩ := part_at e4 (k := q - k) (by rw [lp]; omega)
  rw [lp] at f3
  have sp : ns.drop q = (((ns.drop k).take n).drop (q - k)) ++ ns.drop (k + n) := by
    have h : ns.drop k = (ns.drop k).take n ++ ns.drop (k + n) := by
      rw [← List.drop_drop, List.take_append_drop]
    have h' := congrArg (List.drop (q - k)) h
    rw [List.drop_drop, List.drop_append_of_le_length (by rw [lp]; omega)] at h'
    rw [← h']
    congr 1
    omega
  refine ⟨m, ?_, f2, by omega, f1, ?_⟩
  · rw [sp]; exact scn_app f1
  · rw [sp, List.take_append_of_le_length (by rw [List.length_drop, lp]; omega)]
def endsD (ns : List Int) : List D := (List.range ns.length).map fun k => .int ((k + sz ns k : Nat) : Int)
theorem endsD_at {ns : List Int} {k : Nat} (h : k < ns.length) : atI (endsD ns) (k : Int) = some (.int ((k + sz ns k : Nat) : Int)) := by
  refine atI_of (j := k) rfl ?_
  unfold endsD
  rw [List.getElem?_map, List.getElem?_range h]
  rfl
def inv_right1 (ns : List Int) (_ : Nat) (δ : List S) : Prop := ∃ s : S, δ = [.dice, .val (tI ns), s, .no, .no, .no, .no, .no]
def inv_right2 (ns : List Int) (_ : Nat) (δ : List S) : Prop := ∃ s2 s4 s5 s6 s7 : S, δ = [.dice, .val (tI ns), s2, .own (endsD ns), s4, s5, s6, s7]
theorem part_of_val {ns : List Int} {k n : Nat} (hn : scn 1 (ns.drop k) = some n) {r : DV} (q : post_part_of [.val (tI ns), .val (.int (k : Int))] r) : r = .c (tI ((ns.drop k).take n)) := by
  simpa only [post_part_of, unI_tI, Int.toNat_natCast, sz_of hn] using q
theorem part_end_val {ns : List Int} {k n : Nat} (hn : scn 1 (ns.drop k) = some n) {r : DV} (q : post_part_end [.val (tI ns), .val (.int (k : Int))] r) : r = .c (.int ((k + n : Nat) : Int)) := by
  have q : r = .c (.int ((k : Int) + sz (unI (tI ns)) (k : Int).toNat)) := q
  rw [q, unI_tI, Int.toNat_natCast, sz_of hn]
  congr 2
theorem goal__law_right : Goal w__law_right ["dice", "term", "value", "ends", "turn", "place", "part", "inner"] 1 pre__law_right post__law_right := by
  intro xs hl hp
  unfold pre__law_right at hp
  split at hp
  · unfold w__law_right
    simp only [List.length_cons, List.length_nil]
    simp only [wSeq, wSet, wOp, wVar, wC, wUn, wChain, wAnd, wOr, wNot, wB, wAndT, wOrT, wNotT, wIf, wIfS, wRet, wDrop, wTup, wLst, wEmp, wSl, woNone, woSome, wCB, waNil, waCons, wgName, wgNil, wgCons, wgTup, wAug, wPar, wAsgG, wApp, wExt, wPop, wSetI, wNever, rd, rds, cl, cls, sv, ret, toS, items, rII, rIIC, rPlus, rMinus, rAddI, rTimes, rFdivW, rMod, rPowW, rNeg, rLt, rLe, rGt, rGe, rEqq, rNeq, rIsN, rNotN, rIxD, rSlD, cLen, cTuple, cList, cII, cMin, cMax, cAbs, cInt, List.getElem?_cons_zero, List.getElem?_cons_succ, List.set_cons_zero, List.set_cons_succ, List.replicate, List.cons_append, List.nil_append, Option.some.injEq, Option.map_some, exists_eq_left', exists_eq_left, exists_and_left, exists_const, ite_true, ite_false, if_true, if_false, reduceCtorEq, decide_eq_true_eq, Bool.not_eq_true', Bool.not_eq_true, Bool.false_eq_true, Bool.true_eq_false, false_and, and_false, exists_false, not_true_eq_false, not_false_eq_true, Bool.not_true, Bool.not_false, DV.c.injEq, D.int.injEq, D.bl.injEq, D.tup.injEq, D.lst.injEq, DV.f.injEq, S.val.injEq, S.own.injEq, List.cons.injEq, and_true, true_and, okD_int, okD_bl, eqD_int, eqD_bl, Prod.mk.injEq, and_assoc]
    simp only [wCall, wCallF, wSeq, wSet, wOp, wVar, wC, wUn, wChain, wAnd, wOr, wNot, wB, wAndT, wOrT, wNotT, wIf, wIfS, wRet, wDrop, wTup, wLst, wEmp, wSl, woNone, woSome, wCB, waNil, waCons, wgName, wgNil, wgCons, wgTup, wAug, wPar, wAsgG, wApp, wExt, wPop, wSetI, wNever, rd, rds, cl, cls, sv, ret, toS, items, rII, rIIC, rPlus, rMinus, rAddI, rTimes, rFdivW, rMod, rPowW, rNeg, rLt, rLe, rGt, rGe, rEqq, rNeq, rIsN, rNotN, rIxD, rSlD, cLen, cTuple, cList, cII, cMin, cMax, cAbs, cInt, List.getElem?_cons_zero, List.getElem?_cons_succ, List.set_cons_zero, List.set_cons_succ, List.replicate, List.cons_append, List.nil_append, Option.some.injEq, Option.map_some, exists_eq_left', exists_eq_left, exists_and_left, exists_const, ite_true, ite_false, if_true, if_false, reduceCtorEq, decide_eq_true_eq, Bool.not_eq_true', Bool.not_eq_true, Bool.false_eq_true, Bool.true_eq_false, false_and, and_false, exists_false, not_true_eq_false, not_false_eq_true, Bool.not_true, Bool.not_false, DV.c.injEq, D.int.injEq, D.bl.injEq, D.tup.injEq, D.lst.injEq, DV.f.injEq, S.val.injEq, S.own.injEq, List.cons.injEq, and_true, true_and, okD_int, okD_bl, eqD_int, eqD_bl, Prod.mk.injEq, and_assoc]
    refine roll_go (by omega) (by omega) fun i i0 i1 => ?_
    (try simp only [wSeq, wSet, wOp, wVar, wC, wUn, wChain, wAnd, wOr, wNot, wB, wAndT, wOrT, wNotT, wIf, wIfS, wRet, wDrop, wTup, wLst, wEmp, wSl, woNone, woSome, wCB, waNil, waCons, wgName, wgNil, wgCons, wgTup, wAug, wPar, wAsgG, wApp, wExt, wPop, wSetI, wNever, rd, rds, cl, cls, sv, ret, toS, items, rII, rIIC, rPlus, rMinus, rAddI, rTimes, rFdivW, rMod, rPowW, rNeg, rLt, rLe, rGt, rGe, rEqq, rNeq, rIsN, rNotN, rIxD, rSlD, cLen, cTuple, cList, cII, cMin, cMax, cAbs, cInt, List.getElem?_cons_zero, List.getElem?_cons_succ, List.set_cons_zero, List.set_cons_succ, List.replicate, List.cons_append, List.nil_append, Option.some.injEq, Option.map_some, exists_eq_left', exists_eq_left, exists_and_left, exists_const, ite_true, ite_false, if_true, if_false, reduceCtorEq, decide_eq_true_eq, Bool.not_eq_true', Bool.not_eq_true, Bool.false_eq_true, Bool.true_eq_false, false_and, and_false, exists_false, not_true_eq_false, not_false_eq_true, Bool.not_true, Bool.not_false, DV.c.injEq, D.int.injEq, D.bl.injEq, D.tup.injEq, D.lst.injEq, DV.f.injEq, S.val.injEq, S.own.injEq, List.cons.injEq, and_true, true_and, okD_int, okD_bl, eqD_int, eqD_bl, Prod.mk.injEq, and_assoc])
    refine roll_go (by omega) (by omega) fun j j0 j1 => ?_
    (try simp only [wSeq, wSet, wOp, wVar, wC, wUn, wChain, wAnd, wOr, wNot, wB, wAndT, wOrT, wNotT, wIf, wIfS, wRet, wDrop, wTup, wLst, wEmp, wSl, woNone, woSome, wCB, waNil, waCons, wgName, wgNil, wgCons, wgTup, wAug, wPar, wAsgG, wApp, wExt, wPop, wSetI, wNever, rd, rds, cl, cls, sv, ret, toS, items, rII, rIIC, rPlus, rMinus, rAddI, rTimes, rFdivW, rMod, rPowW, rNeg, rLt, rLe, rGt, rGe, rEqq, rNeq, rIsN, rNotN, rIxD, rSlD, cLen, cTuple, cList, cII, cMin, cMax, cAbs, cInt, List.getElem?_cons_zero, List.getElem?_cons_succ, List.set_cons_zero, List.set_cons_succ, List.replicate, List.cons_append, List.nil_append, Option.some.injEq, Option.map_some, exists_eq_left', exists_eq_left, exists_and_left, exists_const, ite_true, ite_false, if_true, if_false, reduceCtorEq, decide_eq_true_eq, Bool.not_eq_true', Bool.not_eq_true, Bool.false_eq_true, Bool.true_eq_false, false_and, and_false, exists_false, not_true_eq_false, not_false_eq_true, Bool.not_true, Bool.not_false, DV.c.injEq, D.int.injEq, D.bl.injEq, D.tup.injEq, D.lst.injEq, DV.f.injEq, S.val.injEq, S.own.injEq, List.cons.injEq, and_true, true_and, okD_int, okD_bl, eqD_int, eqD_bl, Prod.mk.injEq, and_assoc])
    refine ⟨rfl, ⟨by omega, by omega, by omega, by omega⟩, fun r hr => ?_⟩
    obtain ⟨ns, rfl, tm, hlen⟩ := hr
    refine ⟨by simp, ?_⟩
    (try simp only [wSeq, wSet, wOp, wVar, wC, wUn, wChain, wAnd, wOr, wNot, wB, wAndT, wOrT, wNotT, wIf, wIfS, wRet, wDrop, wTup, wLst, wEmp, wSl, woNone, woSome, wCB, waNil, waCons, wgName, wgNil, wgCons, wgTup, wAug, wPar, wAsgG, wApp, wExt, wPop, wSetI, wNever, rd, rds, cl, cls, sv, ret, toS, items, rII, rIIC, rPlus, rMinus, rAddI, rTimes, rFdivW, rMod, rPowW, rNeg, rLt, rLe, rGt, rGe, rEqq, rNeq, rIsN, rNotN, rIxD, rSlD, cLen, cTuple, cList, cII, cMin, cMax, cAbs, cInt, List.getElem?_cons_zero, List.getElem?_cons_succ, List.set_cons_zero, List.set_cons_succ, List.replicate, List.cons_append, List.nil_append, Option.some.injEq, Option.map_some, exists_eq_left', exists_eq_left, exists_and_left, exists_const, ite_true, ite_false, if_true, if_false, reduceCtorEq, decide_eq_true_eq, Bool.not_eq_true', Bool.not_eq_true, Bool.false_eq_true, Bool.true_eq_false, false_and, and_false, exists_false, not_true_eq_false, not_false_eq_true, Bool.not_true, Bool.not_false, DV.c.injEq, D.int.injEq, D.bl.injEq, D.tup.injEq, D.lst.injEq, DV.f.injEq, S.val.injEq, S.own.injEq, List.cons.injEq, and_true, true_and, okD_int, okD_bl, eqD_int, eqD_bl, Prod.mk.injEq, and_assoc])
    have tl := tm.len
    have tp := tm.pos
    unfold w__law_right_11 wFor
    simp only [wSeq, wSet, wOp, wVar, wC, wUn, wChain, wAnd, wOr, wNot, wB, wAndT, wOrT, wNotT, wIf, wIfS, wRet, wDrop, wTup, wLst, wEmp, wSl, woNone, woSome, wCB, waNil, waCons, wgName, wgNil, wgCons, wgTup, wAug, wPar, wAsgG, wApp, wExt, wPop, wSetI, wNever, rd, rds, cl, cls, sv, ret, toS, items, rII, rIIC, rPlus, rMinus, rAddI, rTimes, rFdivW, rMod, rPowW, rNeg, rLt, rLe, rGt, rGe, rEqq, rNeq, rIsN, rNotN, rIxD, rSlD, cLen, cTuple, cList, cII, cMin, cMax, cAbs, cInt, List.getElem?_cons_zero, List.getElem?_cons_succ, List.set_cons_zero, List.set_cons_succ, List.replicate, List.cons_append, List.nil_append, Option.some.injEq, Option.map_some, exists_eq_left', exists_eq_left, exists_and_left, exists_const, ite_true, ite_false, if_true, if_false, reduceCtorEq, decide_eq_true_eq, Bool.not_eq_true', Bool.not_eq_true, Bool.false_eq_true, Bool.true_eq_false, false_and, and_false, exists_false, not_true_eq_false, not_false_eq_true, Bool.not_true, Bool.not_false, DV.c.injEq, D.int.injEq, D.bl.injEq, D.tup.injEq, D.lst.injEq, DV.f.injEq, S.val.injEq, S.own.injEq, List.cons.injEq, and_true, true_and, okD_int, okD_bl, eqD_int, eqD_bl, Prod.mk.injEq, and_assoc]
    simp only [wCall, wCallF, wSeq, wSet, wOp, wVar, wC, wUn, wChain, wAnd, wOr, wNot, wB, wAndT, wOrT, wNotT, wIf, wIfS, wRet, wDrop, wTup, wLst, wEmp, wSl, woNone, woSome, wCB, waNil, waCons, wgName, wgNil, wgCons, wgTup, wAug, wPar, wAsgG, wApp, wExt, wPop, wSetI, wNever, rd, rds, cl, cls, sv, ret, toS, items, rII, rIIC, rPlus, rMinus, rAddI, rTimes, rFdivW, rMod, rPowW, rNeg, rLt, rLe, rGt, rGe, rEqq, rNeq, rIsN, rNotN, rIxD, rSlD, cLen, cTuple, cList, cII, cMin, cMax, cAbs, cInt, List.getElem?_cons_zero, List.getElem?_cons_succ, List.set_cons_zero, List.set_cons_succ, List.replicate, List.cons_append, List.nil_append, Option.some.injEq, Option.map_some, exists_eq_left', exists_eq_left, exists_and_left, exists_const, ite_true, ite_false, if_true, if_false, reduceCtorEq, decide_eq_true_eq, Bool.not_eq_true', Bool.not_eq_true, Bool.false_eq_true, Bool.true_eq_false, false_and, and_false, exists_false, not_true_eq_false, not_false_eq_true, Bool.not_true, Bool.not_false, DV.c.injEq, D.int.injEq, D.bl.injEq, D.tup.injEq, D.lst.injEq, DV.f.injEq, S.val.injEq, S.own.injEq, List.cons.injEq, and_true, true_and, okD_int, okD_bl, eqD_int, eqD_bl, Prod.mk.injEq, and_assoc]
    refine ⟨rfl, ⟨ns, rfl, tm⟩, fun r hr => ?_⟩
    obtain ⟨d1, rfl, l1, o1⟩ := hr
    refine ⟨by simp, ?_⟩
    (try simp only [wSeq, wSet, wOp, wVar, wC, wUn, wChain, wAnd, wOr, wNot, wB, wAndT, wOrT, wNotT, wIf, wIfS, wRet, wDrop, wTup, wLst, wEmp, wSl, woNone, woSome, wCB, waNil, waCons, wgName, wgNil, wgCons, wgTup, wAug, wPar, wAsgG, wApp, wExt, wPop, wSetI, wNever, rd, rds, cl, cls, sv, ret, toS, items, rII, rIIC, rPlus, rMinus, rAddI, rTimes, rFdivW, rMod, rPowW, rNeg, rLt, rLe, rGt, rGe, rEqq, rNeq, rIsN, rNotN, rIxD, rSlD, cLen, cTuple, cList, cII, cMin, cMax, cAbs, cInt, List.getElem?_cons_zero, List.getElem?_cons_succ, List.set_cons_zero, List.set_cons_succ, List.replicate, List.cons_append, List.nil_append, Option.some.injEq, Option.map_some, exists_eq_left', exists_eq_left, exists_and_left, exists_const, ite_true, ite_false, if_true, if_false, reduceCtorEq, decide_eq_true_eq, Bool.not_eq_true', Bool.not_eq_true, Bool.false_eq_true, Bool.true_eq_false, false_and, and_false, exists_false, not_true_eq_false, not_false_eq_true, Bool.not_true, Bool.not_false, DV.c.injEq, D.int.injEq, D.bl.injEq, D.tup.injEq, D.lst.injEq, DV.f.injEq, S.val.injEq, S.own.injEq, List.cons.injEq, and_true, true_and, okD_int, okD_bl, eqD_int, eqD_bl, Prod.mk.injEq, and_assoc])
    refine ⟨rfl, trivial, fun r hr => ?_⟩
    obtain ⟨d2, rfl, l2, o2⟩ := hr
    refine ⟨by simp, ?_⟩
    (try simp only [wSeq, wSet, wOp, wVar, wC, wUn, wChain, wAnd, wOr, wNot, wB, wAndT, wOrT, wNotT, wIf, wIfS, wRet, wDrop, wTup, wLst, wEmp, wSl, woNone, woSome, wCB, waNil, waCons, wgName, wgNil, wgCons, wgTup, wAug, wPar, wAsgG, wApp, wExt, wPop, wSetI, wNever, rd, rds, cl, cls, sv, ret, toS, items, rII, rIIC, rPlus, rMinus, rAddI, rTimes, rFdivW, rMod, rPowW, rNeg, rLt, rLe, rGt, rGe, rEqq, rNeq, rIsN, rNotN, rIxD, rSlD, cLen, cTuple, cList, cII, cMin, cMax, cAbs, cInt, List.getElem?_cons_zero, List.getElem?_cons_succ, List.set_cons_zero, List.set_cons_succ, List.replicate, List.cons_append, List.nil_append, Option.some.injEq, Option.map_some, exists_eq_left', exists_eq_left, exists_and_left, exists_const, ite_true, ite_false, if_true, if_false, reduceCtorEq, decide_eq_true_eq, Bool.not_eq_true', Bool.not_eq_true, Bool.false_eq_true, Bool.true_eq_false, false_and, and_false, exists_false, not_true_eq_false, not_false_eq_true, Bool.not_true, Bool.not_false, DV.c.injEq, D.int.injEq, D.bl.injEq, D.tup.injEq, D.lst.injEq, DV.f.injEq, S.val.injEq, S.own.injEq, List.cons.injEq, and_true, true_and, okD_int, okD_bl, eqD_int, eqD_bl, Prod.mk.injEq, and_assoc])
    refine ⟨by omega, inv_right1 ns, ⟨_, rfl⟩, ?_, ?_⟩
    · rintro m d δ hm ⟨s, rfl⟩
      have hd : okVal d := all_app o1 o2 d (List.mem_of_getElem? hm)
      unfold w__law_right_9
      simp only [wSeq, wSet, wOp, wVar, wC, wUn, wChain, wAnd, wOr, wNot, wB, wAndT, wOrT, wNotT, wIf, wIfS, wRet, wDrop, wTup, wLst, wEmp, wSl, woNone, woSome, wCB, waNil, waCons, wgName, wgNil, wgCons, wgTup, wAug, wPar, wAsgG, wApp, wExt, wPop, wSetI, wNever, rd, rds, cl, cls, sv, ret, toS, items, rII, rIIC, rPlus, rMinus, rAddI, rTimes, rFdivW, rMod, rPowW, rNeg, rLt, rLe, rGt, rGe, rEqq, rNeq, rIsN, rNotN, rIxD, rSlD, cLen, cTuple, cList, cII, cMin, cMax, cAbs, cInt, List.getElem?_cons_zero, List.getElem?_cons_succ, List.set_cons_zero, List.set_cons_succ, List.replicate, List.cons_append, List.nil_append, Option.some.injEq, Option.map_some, exists_eq_left', exists_eq_left, exists_and_left, exists_const, ite_true, ite_false, if_true, if_false, reduceCtorEq, decide_eq_true_eq, Bool.not_eq_true', Bool.not_eq_true, Bool.false_eq_true, Bool.true_eq_false, false_and, and_false, exists_false, not_true_eq_false, not_false_eq_true, Bool.not_true, Bool.not_false, DV.c.injEq, D.int.injEq, D.bl.injEq, D.tup.injEq, D.lst.injEq, DV.f.injEq, S.val.injEq, S.own.injEq, List.cons.injEq, and_true, true_and, okD_int, okD_bl, eqD_int, eqD_bl, Prod.mk.injEq, and_assoc]
      simp only [wCall, wCallF, wSeq, wSet, wOp, wVar, wC, wUn, wChain, wAnd, wOr, wNot, wB, wAndT, wOrT, wNotT, wIf, wIfS, wRet, wDrop, wTup, wLst, wEmp, wSl, woNone, woSome, wCB, waNil, waCons, wgName, wgNil, wgCons, wgTup, wAug, wPar, wAsgG, wApp, wExt, wPop, wSetI, wNever, rd, rds, cl, cls, sv, ret, toS, items, rII, rIIC, rPlus, rMinus, rAddI, rTimes, rFdivW, rMod, rPowW, rNeg, rLt, rLe, rGt, rGe, rEqq, rNeq, rIsN, rNotN, rIxD, rSlD, cLen, cTuple, cList, cII, cMin, cMax, cAbs, cInt, List.getElem?_cons_zero, List.getElem?_cons_succ, List.set_cons_zero, List.set_cons_succ, List.replicate, List.cons_append, List.nil_append, Option.some.injEq, Option.map_some, exists_eq_left', exists_eq_left, exists_and_left, exists_const, ite_true, ite_false, if_true, if_false, reduceCtorEq, decide_eq_true_eq, Bool.not_eq_true', Bool.not_eq_true, Bool.false_eq_true, Bool.true_eq_false, false_and, and_false, exists_false, not_true_eq_false, not_false_eq_true, Bool.not_true, Bool.not_false, DV.c.injEq, D.int.injEq, D.bl.injEq, D.tup.injEq, D.lst.injEq, DV.f.injEq, S.val.injEq, S.own.injEq, List.cons.injEq, and_true, true_and, okD_int, okD_bl, eqD_int, eqD_bl, Prod.mk.injEq, and_assoc]
      refine call_one (x := .bl (isTermD d)) rfl hd (fun r q => q) ?_
      (try simp only [wSeq, wSet, wOp, wVar, wC, wUn, wChain, wAnd, wOr, wNot, wB, wAndT, wOrT, wNotT, wIf, wIfS, wRet, wDrop, wTup, wLst, wEmp, wSl, woNone, woSome, wCB, waNil, waCons, wgName, wgNil, wgCons, wgTup, wAug, wPar, wAsgG, wApp, wExt, wPop, wSetI, wNever, rd, rds, cl, cls, sv, ret, toS, items, rII, rIIC, rPlus, rMinus, rAddI, rTimes, rFdivW, rMod, rPowW, rNeg, rLt, rLe, rGt, rGe, rEqq, rNeq, rIsN, rNotN, rIxD, rSlD, cLen, cTuple, cList, cII, cMin, cMax, cAbs, cInt, List.getElem?_cons_zero, List.getElem?_cons_succ, List.set_cons_zero, List.set_cons_succ, List.replicate, List.cons_append, List.nil_append, Option.some.injEq, Option.map_some, exists_eq_left', exists_eq_left, exists_and_left, exists_const, ite_true, ite_false, if_true, if_false, reduceCtorEq, decide_eq_true_eq, Bool.not_eq_true', Bool.not_eq_true, Bool.false_eq_true, Bool.true_eq_false, false_and, and_false, exists_false, not_true_eq_false, not_false_eq_true, Bool.not_true, Bool.not_false, DV.c.injEq, D.int.injEq, D.bl.injEq, D.tup.injEq, D.lst.injEq, DV.f.injEq, S.val.injEq, S.own.injEq, List.cons.injEq, and_true, true_and, okD_int, okD_bl, eqD_int, eqD_bl, Prod.mk.injEq, and_assoc])
      refine call_one (x := .bl (isTermD d)) rfl hd (fun r q => q) ?_
      (try simp only [wSeq, wSet, wOp, wVar, wC, wUn, wChain, wAnd, wOr, wNot, wB, wAndT, wOrT, wNotT, wIf, wIfS, wRet, wDrop, wTup, wLst, wEmp, wSl, woNone, woSome, wCB, waNil, waCons, wgName, wgNil, wgCons, wgTup, wAug, wPar, wAsgG, wApp, wExt, wPop, wSetI, wNever, rd, rds, cl, cls, sv, ret, toS, items, rII, rIIC, rPlus, rMinus, rAddI, rTimes, rFdivW, rMod, rPowW, rNeg, rLt, rLe, rGt, rGe, rEqq, rNeq, rIsN, rNotN, rIxD, rSlD, cLen, cTuple, cList, cII, cMin, cMax, cAbs, cInt, List.getElem?_cons_zero, List.getElem?_cons_succ, List.set_cons_zero, List.set_cons_succ, List.replicate, List.cons_append, List.nil_append, Option.some.injEq, Option.map_some, exists_eq_left', exists_eq_left, exists_and_left, exists_const, ite_true, ite_false, if_true, if_false, reduceCtorEq, decide_eq_true_eq, Bool.not_eq_true', Bool.not_eq_true, Bool.false_eq_true, Bool.true_eq_false, false_and, and_false, exists_false, not_true_eq_false, not_false_eq_true, Bool.not_true, Bool.not_false, DV.c.injEq, D.int.injEq, D.bl.injEq, D.tup.injEq, D.lst.injEq, DV.f.injEq, S.val.injEq, S.own.injEq, List.cons.injEq, and_true, true_and, okD_int, okD_bl, eqD_int, eqD_bl, Prod.mk.injEq, and_assoc])
      rw [if_neg (by simp)]
      exact ⟨_, rfl⟩
    · rintro δ ⟨s, rfl⟩
      unfold w__law_right_10
      simp only [wSeq, wSet, wOp, wVar, wC, wUn, wChain, wAnd, wOr, wNot, wB, wAndT, wOrT, wNotT, wIf, wIfS, wRet, wDrop, wTup, wLst, wEmp, wSl, woNone, woSome, wCB, waNil, waCons, wgName, wgNil, wgCons, wgTup, wAug, wPar, wAsgG, wApp, wExt, wPop, wSetI, wNever, rd, rds, cl, cls, sv, ret, toS, items, rII, rIIC, rPlus, rMinus, rAddI, rTimes, rFdivW, rMod, rPowW, rNeg, rLt, rLe, rGt, rGe, rEqq, rNeq, rIsN, rNotN, rIxD, rSlD, cLen, cTuple, cList, cII, cMin, cMax, cAbs, cInt, List.getElem?_cons_zero, List.getElem?_cons_succ, List.set_cons_zero, List.set_cons_succ, List.replicate, List.cons_append, List.nil_append, Option.some.injEq, Option.map_some, exists_eq_left', exists_eq_left, exists_and_left, exists_const, ite_true, ite_false, if_true, if_false, reduceCtorEq, decide_eq_true_eq, Bool.not_eq_true', Bool.not_eq_true, Bool.false_eq_true, Bool.true_eq_false, false_and, and_false, exists_false, not_true_eq_false, not_false_eq_true, Bool.not_true, Bool.not_false, DV.c.injEq, D.int.injEq, D.bl.injEq, D.tup.injEq, D.lst.injEq, DV.f.injEq, S.val.injEq, S.own.injEq, List.cons.injEq, and_true, true_and, okD_int, okD_bl, eqD_int, eqD_bl, Prod.mk.injEq, and_assoc]
      simp only [wCall, wCallF, wSeq, wSet, wOp, wVar, wC, wUn, wChain, wAnd, wOr, wNot, wB, wAndT, wOrT, wNotT, wIf, wIfS, wRet, wDrop, wTup, wLst, wEmp, wSl, woNone, woSome, wCB, waNil, waCons, wgName, wgNil, wgCons, wgTup, wAug, wPar, wAsgG, wApp, wExt, wPop, wSetI, wNever, rd, rds, cl, cls, sv, ret, toS, items, rII, rIIC, rPlus, rMinus, rAddI, rTimes, rFdivW, rMod, rPowW, rNeg, rLt, rLe, rGt, rGe, rEqq, rNeq, rIsN, rNotN, rIxD, rSlD, cLen, cTuple, cList, cII, cMin, cMax, cAbs, cInt, List.getElem?_cons_zero, List.getElem?_cons_succ, List.set_cons_zero, List.set_cons_succ, List.replicate, List.cons_append, List.nil_append, Option.some.injEq, Option.map_some, exists_eq_left', exists_eq_left, exists_and_left, exists_const, ite_true, ite_false, if_true, if_false, reduceCtorEq, decide_eq_true_eq, Bool.not_eq_true', Bool.not_eq_true, Bool.false_eq_true, Bool.true_eq_false, false_and, and_false, exists_false, not_true_eq_false, not_false_eq_true, Bool.not_true, Bool.not_false, DV.c.injEq, D.int.injEq, D.bl.injEq, D.tup.injEq, D.lst.injEq, DV.f.injEq, S.val.injEq, S.own.injEq, List.cons.injEq, and_true, true_and, okD_int, okD_bl, eqD_int, eqD_bl, Prod.mk.injEq, and_assoc]
      refine ⟨rfl, ⟨ns, rfl, tm⟩, fun r hr => ?_⟩
      have hr : r = .f (endsD (unI (tI ns))) := hr
      rw [unI_tI] at hr
      subst hr
      refine ⟨by simp, ?_⟩
      (try simp only [wSeq, wSet, wOp, wVar, wC, wUn, wChain, wAnd, wOr, wNot, wB, wAndT, wOrT, wNotT, wIf, wIfS, wRet, wDrop, wTup, wLst, wEmp, wSl, woNone, woSome, wCB, waNil, waCons, wgName, wgNil, wgCons, wgTup, wAug, wPar, wAsgG, wApp, wExt, wPop, wSetI, wNever, rd, rds, cl, cls, sv, ret, toS, items, rII, rIIC, rPlus, rMinus, rAddI, rTimes, rFdivW, rMod, rPowW, rNeg, rLt, rLe, rGt, rGe, rEqq, rNeq, rIsN, rNotN, rIxD, rSlD, cLen, cTuple, cList, cII, cMin, cMax, cAbs, cInt, List.getElem?_cons_zero, List.getElem?_cons_succ, List.set_cons_zero, List.set_cons_succ, List.replicate, List.cons_append, List.nil_append, Option.some.injEq, Option.map_some, exists_eq_left', exists_eq_left, exists_and_left, exists_const, ite_true, ite_false, if_true, if_false, reduceCtorEq, decide_eq_true_eq, Bool.not_eq_true', Bool.not_eq_true, Bool.false_eq_true, Bool.true_eq_false, false_and, and_false, exists_false, not_true_eq_false, not_false_eq_true, Bool.not_true, Bool.not_false, DV.c.injEq, D.int.injEq, D.bl.injEq, D.tup.injEq, D.lst.injEq, DV.f.injEq, S.val.injEq, S.own.injEq, List.cons.injEq, and_true, true_and, okD_int, okD_bl, eqD_int, eqD_bl, Prod.mk.injEq, and_assoc])
      unfold w__law_right_8 wForR1
      simp only [wSeq, wSet, wOp, wVar, wC, wUn, wChain, wAnd, wOr, wNot, wB, wAndT, wOrT, wNotT, wIf, wIfS, wRet, wDrop, wTup, wLst, wEmp, wSl, woNone, woSome, wCB, waNil, waCons, wgName, wgNil, wgCons, wgTup, wAug, wPar, wAsgG, wApp, wExt, wPop, wSetI, wNever, rd, rds, cl, cls, sv, ret, toS, items, rII, rIIC, rPlus, rMinus, rAddI, rTimes, rFdivW, rMod, rPowW, rNeg, rLt, rLe, rGt, rGe, rEqq, rNeq, rIsN, rNotN, rIxD, rSlD, cLen, cTuple, cList, cII, cMin, cMax, cAbs, cInt, List.getElem?_cons_zero, List.getElem?_cons_succ, List.set_cons_zero, List.set_cons_succ, List.replicate, List.cons_append, List.nil_append, Option.some.injEq, Option.map_some, exists_eq_left', exists_eq_left, exists_and_left, exists_const, ite_true, ite_false, if_true, if_false, reduceCtorEq, decide_eq_true_eq, Bool.not_eq_true', Bool.not_eq_true, Bool.false_eq_true, Bool.true_eq_false, false_and, and_false, exists_false, not_true_eq_false, not_false_eq_true, Bool.not_true, Bool.not_false, DV.c.injEq, D.int.injEq, D.bl.injEq, D.tup.injEq, D.lst.injEq, DV.f.injEq, S.val.injEq, S.own.injEq, List.cons.injEq, and_true, true_and, okD_int, okD_bl, eqD_int, eqD_bl, Prod.mk.injEq, and_assoc]
      refine ⟨⟨by decide, by decide⟩, inv_right2 ns, ⟨_, _, _, _, _, rfl⟩, ?_, ?_⟩
      · rintro m δ hm ⟨s2, s4, s5, s6, s7, rfl⟩
        unfold w__law_right_6
        simp only [wSeq, wSet, wOp, wVar, wC, wUn, wChain, wAnd, wOr, wNot, wB, wAndT, wOrT, wNotT, wIf, wIfS, wRet, wDrop, wTup, wLst, wEmp, wSl, woNone, woSome, wCB, waNil, waCons, wgName, wgNil, wgCons, wgTup, wAug, wPar, wAsgG, wApp, wExt, wPop, wSetI, wNever, rd, rds, cl, cls, sv, ret, toS, items, rII, rIIC, rPlus, rMinus, rAddI, rTimes, rFdivW, rMod, rPowW, rNeg, rLt, rLe, rGt, rGe, rEqq, rNeq, rIsN, rNotN, rIxD, rSlD, cLen, cTuple, cList, cII, cMin, cMax, cAbs, cInt, List.getElem?_cons_zero, List.getElem?_cons_succ, List.set_cons_zero, List.set_cons_succ, List.replicate, List.cons_append, List.nil_append, Option.some.injEq, Option.map_some, exists_eq_left', exists_eq_left, exists_and_left, exists_const, ite_true, ite_false, if_true, if_false, reduceCtorEq, decide_eq_true_eq, Bool.not_eq_true', Bool.not_eq_true, Bool.false_eq_true, Bool.true_eq_false, false_and, and_false, exists_false, not_true_eq_false, not_false_eq_true, Bool.not_true, Bool.not_false, DV.c.injEq, D.int.injEq, D.bl.injEq, D.tup.injEq, D.lst.injEq, DV.f.injEq, S.val.injEq, S.own.injEq, List.cons.injEq, and_true, true_and, okD_int, okD_bl, eqD_int, eqD_bl, Prod.mk.injEq, and_assoc]
        simp only [wCall, wCallF, wSeq, wSet, wOp, wVar, wC, wUn, wChain, wAnd, wOr, wNot, wB, wAndT, wOrT, wNotT, wIf, wIfS, wRet, wDrop, wTup, wLst, wEmp, wSl, woNone, woSome, wCB, waNil, waCons, wgName, wgNil, wgCons, wgTup, wAug, wPar, wAsgG, wApp, wExt, wPop, wSetI, wNever, rd, rds, cl, cls, sv, ret, toS, items, rII, rIIC, rPlus, rMinus, rAddI, rTimes, rFdivW, rMod, rPowW, rNeg, rLt, rLe, rGt, rGe, rEqq, rNeq, rIsN, rNotN, rIxD, rSlD, cLen, cTuple, cList, cII, cMin, cMax, cAbs, cInt, List.getElem?_cons_zero, List.getElem?_cons_succ, List.set_cons_zero, List.set_cons_succ, List.replicate, List.cons_append, List.nil_append, Option.some.injEq, Option.map_some, exists_eq_left', exists_eq_left, exists_and_left, exists_const, ite_true, ite_false, if_true, if_false, reduceCtorEq, decide_eq_true_eq, Bool.not_eq_true', Bool.not_eq_true, Bool.false_eq_true, Bool.true_eq_false, false_and, and_false, exists_false, not_true_eq_false, not_false_eq_true, Bool.not_true, Bool.not_false, DV.c.injEq, D.int.injEq, D.bl.injEq, D.tup.injEq, D.lst.injEq, DV.f.injEq, S.val.injEq, S.own.injEq, List.cons.injEq, and_true, true_and, okD_int, okD_bl, eqD_int, eqD_bl, Prod.mk.injEq, and_assoc]
        refine roll_go (by rw [List.length_map]; omega) (by rw [List.length_map]; omega) fun p p0 p1 => ?_
        (try simp only [wSeq, wSet, wOp, wVar, wC, wUn, wChain, wAnd, wOr, wNot, wB, wAndT, wOrT, wNotT, wIf, wIfS, wRet, wDrop, wTup, wLst, wEmp, wSl, woNone, woSome, wCB, waNil, waCons, wgName, wgNil, wgCons, wgTup, wAug, wPar, wAsgG, wApp, wExt, wPop, wSetI, wNever, rd, rds, cl, cls, sv, ret, toS, items, rII, rIIC, rPlus, rMinus, rAddI, rTimes, rFdivW, rMod, rPowW, rNeg, rLt, rLe, rGt, rGe, rEqq, rNeq, rIsN, rNotN, rIxD, rSlD, cLen, cTuple, cList, cII, cMin, cMax, cAbs, cInt, List.getElem?_cons_zero, List.getElem?_cons_succ, List.set_cons_zero, List.set_cons_succ, List.replicate, List.cons_append, List.nil_append, Option.some.injEq, Option.map_some, exists_eq_left', exists_eq_left, exists_and_left, exists_const, ite_true, ite_false, if_true, if_false, reduceCtorEq, decide_eq_true_eq, Bool.not_eq_true', Bool.not_eq_true, Bool.false_eq_true, Bool.true_eq_false, false_and, and_false, exists_false, not_true_eq_false, not_false_eq_true, Bool.not_true, Bool.not_false, DV.c.injEq, D.int.injEq, D.bl.injEq, D.tup.injEq, D.lst.injEq, DV.f.injEq, S.val.injEq, S.own.injEq, List.cons.injEq, and_true, true_and, okD_int, okD_bl, eqD_int, eqD_bl, Prod.mk.injEq, and_assoc])
        rw [List.length_map] at p1
        obtain ⟨k, rfl⟩ : ∃ k : Nat, p = k := ⟨p.toNat, by omega⟩
        have hk : k < ns.length := by omega
        obtain ⟨n, hn, n0, nle, _⟩ := part_at tm.jd hk
        have tpart : Tm ((ns.drop k).take n) := tm.part hn hk
        have lp : ((ns.drop k).take n).length = n := by rw [List.length_take, List.length_drop]; omega
        have eat := endsD_at hk
        rw [sz_of hn] at eat
        unfold w__law_right_5
        simp only [wSeq, wSet, wOp, wVar, wC, wUn, wChain, wAnd, wOr, wNot, wB, wAndT, wOrT, wNotT, wIf, wIfS, wRet, wDrop, wTup, wLst, wEmp, wSl, woNone, woSome, wCB, waNil, waCons, wgName, wgNil, wgCons, wgTup, wAug, wPar, wAsgG, wApp, wExt, wPop, wSetI, wNever, rd, rds, cl, cls, sv, ret, toS, items, rII, rIIC, rPlus, rMinus, rAddI, rTimes, rFdivW, rMod, rPowW, rNeg, rLt, rLe, rGt, rGe, rEqq, rNeq, rIsN, rNotN, rIxD, rSlD, cLen, cTuple, cList, cII, cMin, cMax, cAbs, cInt, List.getElem?_cons_zero, List.getElem?_cons_succ, List.set_cons_zero, List.set_cons_succ, List.replicate, List.cons_append, List.nil_append, Option.some.injEq, Option.map_some, exists_eq_left', exists_eq_left, exists_and_left, exists_const, ite_true, ite_false, if_true, if_false, reduceCtorEq, decide_eq_true_eq, Bool.not_eq_true', Bool.not_eq_true, Bool.false_eq_true, Bool.true_eq_false, false_and, and_false, exists_false, not_true_eq_false, not_false_eq_true, Bool.not_true, Bool.not_false, DV.c.injEq, D.int.injEq, D.bl.injEq, D.tup.injEq, D.lst.injEq, DV.f.injEq, S.val.injEq, S.own.injEq, List.cons.injEq, and_true, true_and, okD_int, okD_bl, eqD_int, eqD_bl, Prod.mk.injEq, and_assoc]
        simp only [wCall, wCallF, wSeq, wSet, wOp, wVar, wC, wUn, wChain, wAnd, wOr, wNot, wB, wAndT, wOrT, wNotT, wIf, wIfS, wRet, wDrop, wTup, wLst, wEmp, wSl, woNone, woSome, wCB, waNil, waCons, wgName, wgNil, wgCons, wgTup, wAug, wPar, wAsgG, wApp, wExt, wPop, wSetI, wNever, rd, rds, cl, cls, sv, ret, toS, items, rII, rIIC, rPlus, rMinus, rAddI, rTimes, rFdivW, rMod, rPowW, rNeg, rLt, rLe, rGt, rGe, rEqq, rNeq, rIsN, rNotN, rIxD, rSlD, cLen, cTuple, cList, cII, cMin, cMax, cAbs, cInt, List.getElem?_cons_zero, List.getElem?_cons_succ, List.set_cons_zero, List.set_cons_succ, List.replicate, List.cons_append, List.nil_append, Option.some.injEq, Option.map_some, exists_eq_left', exists_eq_left, exists_and_left, exists_const, ite_true, ite_false, if_true, if_false, reduceCtorEq, decide_eq_true_eq, Bool.not_eq_true', Bool.not_eq_true, Bool.false_eq_true, Bool.true_eq_false, false_and, and_false, exists_false, not_true_eq_false, not_false_eq_true, Bool.not_true, Bool.not_false, DV.c.injEq, D.int.injEq, D.bl.injEq, D.tup.injEq, D.lst.injEq, DV.f.injEq, S.val.injEq, S.own.injEq, List.cons.injEq, and_true, true_and, okD_int, okD_bl, eqD_int, eqD_bl, Prod.mk.injEq, and_assoc]
        refine call_one (x := tI ((ns.drop k).take n)) rfl ⟨ns, k, rfl, rfl, tm, hk⟩ (fun r q => part_of_val hn q) ?_
        (try simp only [wSeq, wSet, wOp, wVar, wC, wUn, wChain, wAnd, wOr, wNot, wB, wAndT, wOrT, wNotT, wIf, wIfS, wRet, wDrop, wTup, wLst, wEmp, wSl, woNone, woSome, wCB, waNil, waCons, wgName, wgNil, wgCons, wgTup, wAug, wPar, wAsgG, wApp, wExt, wPop, wSetI, wNever, rd, rds, cl, cls, sv, ret, toS, items, rII, rIIC, rPlus, rMinus, rAddI, rTimes, rFdivW, rMod, rPowW, rNeg, rLt, rLe, rGt, rGe, rEqq, rNeq, rIsN, rNotN, rIxD, rSlD, cLen, cTuple, cList, cII, cMin, cMax, cAbs, cInt, List.getElem?_cons_zero, List.getElem?_cons_succ, List.set_cons_zero, List.set_cons_succ, List.replicate, List.cons_append, List.nil_append, Option.some.injEq, Option.map_some, exists_eq_left', exists_eq_left, exists_and_left, exists_const, ite_true, ite_false, if_true, if_false, reduceCtorEq, decide_eq_true_eq, Bool.not_eq_true', Bool.not_eq_true, Bool.false_eq_true, Bool.true_eq_false, false_and, and_false, exists_false, not_true_eq_false, not_false_eq_true, Bool.not_true, Bool.not_false, DV.c.injEq, D.int.injEq, D.bl.injEq, D.tup.injEq, D.lst.injEq, DV.f.injEq, S.val.injEq, S.own.injEq, List.cons.injEq, and_true, true_and, okD_int, okD_bl, eqD_int, eqD_bl, Prod.mk.injEq, and_assoc])
        unfold w__law_right_4
        simp only [wSeq, wSet, wOp, wVar, wC, wUn, wChain, wAnd, wOr, wNot, wB, wAndT, wOrT, wNotT, wIf, wIfS, wRet, wDrop, wTup, wLst, wEmp, wSl, woNone, woSome, wCB, waNil, waCons, wgName, wgNil, wgCons, wgTup, wAug, wPar, wAsgG, wApp, wExt, wPop, wSetI, wNever, rd, rds, cl, cls, sv, ret, toS, items, rII, rIIC, rPlus, rMinus, rAddI, rTimes, rFdivW, rMod, rPowW, rNeg, rLt, rLe, rGt, rGe, rEqq, rNeq, rIsN, rNotN, rIxD, rSlD, cLen, cTuple, cList, cII, cMin, cMax, cAbs, cInt, List.getElem?_cons_zero, List.getElem?_cons_succ, List.set_cons_zero, List.set_cons_succ, List.replicate, List.cons_append, List.nil_append, Option.some.injEq, Option.map_some, exists_eq_left', exists_eq_left, exists_and_left, exists_const, ite_true, ite_false, if_true, if_false, reduceCtorEq, decide_eq_true_eq, Bool.not_eq_true', Bool.not_eq_true, Bool.false_eq_true, Bool.true_eq_false, false_and, and_false, exists_false, not_true_eq_false, not_false_eq_true, Bool.not_true, Bool.not_false, DV.c.injEq, D.int.injEq, D.bl.injEq, D.tup.injEq, D.lst.injEq, DV.f.injEq, S.val.injEq, S.own.injEq, List.cons.injEq, and_true, true_and, okD_int, okD_bl, eqD_int, eqD_bl, Prod.mk.injEq, and_assoc]
        simp only [wCall, wCallF, wSeq, wSet, wOp, wVar, wC, wUn, wChain, wAnd, wOr, wNot, wB, wAndT, wOrT, wNotT, wIf, wIfS, wRet, wDrop, wTup, wLst, wEmp, wSl, woNone, woSome, wCB, waNil, waCons, wgName, wgNil, wgCons, wgTup, wAug, wPar, wAsgG, wApp, wExt, wPop, wSetI, wNever, rd, rds, cl, cls, sv, ret, toS, items, rII, rIIC, rPlus, rMinus, rAddI, rTimes, rFdivW, rMod, rPowW, rNeg, rLt, rLe, rGt, rGe, rEqq, rNeq, rIsN, rNotN, rIxD, rSlD, cLen, cTuple, cList, cII, cMin, cMax, cAbs, cInt, List.getElem?_cons_zero, List.getElem?_cons_succ, List.set_cons_zero, List.set_cons_succ, List.replicate, List.cons_append, List.nil_append, Option.some.injEq, Option.map_some, exists_eq_left', exists_eq_left, exists_and_left, exists_const, ite_true, ite_false, if_true, if_false, reduceCtorEq, decide_eq_true_eq, Bool.not_eq_true', Bool.not_eq_true, Bool.false_eq_true, Bool.true_eq_false, false_and, and_false, exists_false, not_true_eq_false, not_false_eq_true, Bool.not_true, Bool.not_false, DV.c.injEq, D.int.injEq, D.bl.injEq, D.tup.injEq, D.lst.injEq, DV.f.injEq, S.val.injEq, S.own.injEq, List.cons.injEq, and_true, true_and, okD_int, okD_bl, eqD_int, eqD_bl, Prod.mk.injEq, and_assoc]
        refine call_one (x := .int ((k + n : Nat) : Int)) rfl ⟨ns, k, rfl, rfl, tm, hk⟩ (fun r q => part_end_val hn q) ?_
        (try simp only [wSeq, wSet, wOp, wVar, wC, wUn, wChain, wAnd, wOr, wNot, wB, wAndT, wOrT, wNotT, wIf, wIfS, wRet, wDrop, wTup, wLst, wEmp, wSl, woNone, woSome, wCB, waNil, waCons, wgName, wgNil, wgCons, wgTup, wAug, wPar, wAsgG, wApp, wExt, wPop, wSetI, wNever, rd, rds, cl, cls, sv, ret, toS, items, rII, rIIC, rPlus, rMinus, rAddI, rTimes, rFdivW, rMod, rPowW, rNeg, rLt, rLe, rGt, rGe, rEqq, rNeq, rIsN, rNotN, rIxD, rSlD, cLen, cTuple, cList, cII, cMin, cMax, cAbs, cInt, List.getElem?_cons_zero, List.getElem?_cons_succ, List.set_cons_zero, List.set_cons_succ, List.replicate, List.cons_append, List.nil_append, Option.some.injEq, Option.map_some, exists_eq_left', exists_eq_left, exists_and_left, exists_const, ite_true, ite_false, if_true, if_false, reduceCtorEq, decide_eq_true_eq, Bool.not_eq_true', Bool.not_eq_true, Bool.false_eq_true, Bool.true_eq_false, false_and, and_false, exists_false, not_true_eq_false, not_false_eq_true, Bool.not_true, Bool.not_false, DV.c.injEq, D.int.injEq, D.bl.injEq, D.tup.injEq, D.lst.injEq, DV.f.injEq, S.val.injEq, S.own.injEq, List.cons.injEq, and_true, true_and, okD_int, okD_bl, eqD_int, eqD_bl, Prod.mk.injEq, and_assoc])
        simp only [eat]
        (try simp only [wSeq, wSet, wOp, wVar, wC, wUn, wChain, wAnd, wOr, wNot, wB, wAndT, wOrT, wNotT, wIf, wIfS, wRet, wDrop, wTup, wLst, wEmp, wSl, woNone, woSome, wCB, waNil, waCons, wgName, wgNil, wgCons, wgTup, wAug, wPar, wAsgG, wApp, wExt, wPop, wSetI, wNever, rd, rds, cl, cls, sv, ret, toS, items, rII, rIIC, rPlus, rMinus, rAddI, rTimes, rFdivW, rMod, rPowW, rNeg, rLt, rLe, rGt, rGe, rEqq, rNeq, rIsN, rNotN, rIxD, rSlD, cLen, cTuple, cList, cII, cMin, cMax, cAbs, cInt, List.getElem?_cons_zero, List.getElem?_cons_succ, List.set_cons_zero, List.set_cons_succ, List.replicate, List.cons_append, List.nil_append, Option.some.injEq, Option.map_some, exists_eq_left', exists_eq_left, exists_and_left, exists_const, ite_true, ite_false, if_true, if_false, reduceCtorEq, decide_eq_true_eq, Bool.not_eq_true', Bool.not_eq_true, Bool.false_eq_true, Bool.true_eq_false, false_and, and_false, exists_false, not_true_eq_false, not_false_eq_true, Bool.not_true, Bool.not_false, DV.c.injEq, D.int.injEq, D.bl.injEq, D.tup.injEq, D.lst.injEq, DV.f.injEq, S.val.injEq, S.own.injEq, List.cons.injEq, and_true, true_and, okD_int, okD_bl, eqD_int, eqD_bl, Prod.mk.injEq, and_assoc])
        rw [if_neg (by simp)]
        have ecut : cutD (ns.map D.int) (some (k : Int)) (some ((k + n : Nat) : Int)) = ((ns.drop k).take n).map D.int := by
          rw [cutD_map, HT.sIx_nat, HT.sIx_nat]
          congr 2
          · omega
          · congr 1; omega
        rw [ecut]
        refine ⟨okD_ints _, okD_ints _, ?_⟩
        rw [eqD_ints]
        rw [if_neg (by simp)]
        refine call_one (x := .bl true) rfl (okVal_ints _) (fun r q => by rw [← term_of tpart]; exact q) ?_
        (try simp only [wSeq, wSet, wOp, wVar, wC, wUn, wChain, wAnd, wOr, wNot, wB, wAndT, wOrT, wNotT, wIf, wIfS, wRet, wDrop, wTup, wLst, wEmp, wSl, woNone, woSome, wCB, waNil, waCons, wgName, wgNil, wgCons, wgTup, wAug, wPar, wAsgG, wApp, wExt, wPop, wSetI, wNever, rd, rds, cl, cls, sv, ret, toS, items, rII, rIIC, rPlus, rMinus, rAddI, rTimes, rFdivW, rMod, rPowW, rNeg, rLt, rLe, rGt, rGe, rEqq, rNeq, rIsN, rNotN, rIxD, rSlD, cLen, cTuple, cList, cII, cMin, cMax, cAbs, cInt, List.getElem?_cons_zero, List.getElem?_cons_succ, List.set_cons_zero, List.set_cons_succ, List.replicate, List.cons_append, List.nil_append, Option.some.injEq, Option.map_some, exists_eq_left', exists_eq_left, exists_and_left, exists_const, ite_true, ite_false, if_true, if_false, reduceCtorEq, decide_eq_true_eq, Bool.not_eq_true', Bool.not_eq_true, Bool.false_eq_true, Bool.true_eq_false, false_and, and_false, exists_false, not_true_eq_false, not_false_eq_true, Bool.not_true, Bool.not_false, DV.c.injEq, D.int.injEq, D.bl.injEq, D.tup.injEq, D.lst.injEq, DV.f.injEq, S.val.injEq, S.own.injEq, List.cons.injEq, and_true, true_and, okD_int, okD_bl, eqD_int, eqD_bl, Prod.mk.injEq, and_assoc])
        unfold w__law_right_3
        simp only [wSeq, wSet, wOp, wVar, wC, wUn, wChain, wAnd, wOr, wNot, wB, wAndT, wOrT, wNotT, wIf, wIfS, wRet, wDrop, wTup, wLst, wEmp, wSl, woNone, woSome, wCB, waNil, waCons, wgName, wgNil, wgCons, wgTup, wAug, wPar, wAsgG, wApp, wExt, wPop, wSetI, wNever, rd, rds, cl, cls, sv, ret, toS, items, rII, rIIC, rPlus, rMinus, rAddI, rTimes, rFdivW, rMod, rPowW, rNeg, rLt, rLe, rGt, rGe, rEqq, rNeq, rIsN, rNotN, rIxD, rSlD, cLen, cTuple, cList, cII, cMin, cMax, cAbs, cInt, List.getElem?_cons_zero, List.getElem?_cons_succ, List.set_cons_zero, List.set_cons_succ, List.replicate, List.cons_append, List.nil_append, Option.some.injEq, Option.map_some, exists_eq_left', exists_eq_left, exists_and_left, exists_const, ite_true, ite_false, if_true, if_false, reduceCtorEq, decide_eq_true_eq, Bool.not_eq_true', Bool.not_eq_true, Bool.false_eq_true, Bool.true_eq_false, false_and, and_false, exists_false, not_true_eq_false, not_false_eq_true, Bool.not_true, Bool.not_false, DV.c.injEq, D.int.injEq, D.bl.injEq, D.tup.injEq, D.lst.injEq, DV.f.injEq, S.val.injEq, S.own.injEq, List.cons.injEq, and_true, true_and, okD_int, okD_bl, eqD_int, eqD_bl, Prod.mk.injEq, and_assoc]
        simp only [wCall, wCallF, wSeq, wSet, wOp, wVar, wC, wUn, wChain, wAnd, wOr, wNot, wB, wAndT, wOrT, wNotT, wIf, wIfS, wRet, wDrop, wTup, wLst, wEmp, wSl, woNone, woSome, wCB, waNil, waCons, wgName, wgNil, wgCons, wgTup, wAug, wPar, wAsgG, wApp, wExt, wPop, wSetI, wNever, rd, rds, cl, cls, sv, ret, toS, items, rII, rIIC, rPlus, rMinus, rAddI, rTimes, rFdivW, rMod, rPowW, rNeg, rLt, rLe, rGt, rGe, rEqq, rNeq, rIsN, rNotN, rIxD, rSlD, cLen, cTuple, cList, cII, cMin, cMax, cAbs, cInt, List.getElem?_cons_zero, List.getElem?_cons_succ, List.set_cons_zero, List.set_cons_succ, List.replicate, List.cons_append, List.nil_append, Option.some.injEq, Option.map_some, exists_eq_left', exists_eq_left, exists_and_left, exists_const, ite_true, ite_false, if_true, if_false, reduceCtorEq, decide_eq_true_eq, Bool.not_eq_true', Bool.not_eq_true, Bool.false_eq_true, Bool.true_eq_false, false_and, and_false, exists_false, not_true_eq_false, not_false_eq_true, Bool.not_true, Bool.not_false, DV.c.injEq, D.int.injEq, D.bl.injEq, D.tup.injEq, D.lst.injEq, DV.f.injEq, S.val.injEq, S.own.injEq, List.cons.injEq, and_true, true_and, okD_int, okD_bl, eqD_int, eqD_bl, Prod.mk.injEq, and_assoc]
        rw [List.length_map, lp]
        refine roll_go (by omega) (by omega) fun j j0 j1 => ?_
        (try simp only [wSeq, wSet, wOp, wVar, wC, wUn, wChain, wAnd, wOr, wNot, wB, wAndT, wOrT, wNotT, wIf, wIfS, wRet, wDrop, wTup, wLst, wEmp, wSl, woNone, woSome, wCB, waNil, waCons, wgName, wgNil, wgCons, wgTup, wAug, wPar, wAsgG, wApp, wExt, wPop, wSetI, wNever, rd, rds, cl, cls, sv, ret, toS, items, rII, rIIC, rPlus, rMinus, rAddI, rTimes, rFdivW, rMod, rPowW, rNeg, rLt, rLe, rGt, rGe, rEqq, rNeq, rIsN, rNotN, rIxD, rSlD, cLen, cTuple, cList, cII, cMin, cMax, cAbs, cInt, List.getElem?_cons_zero, List.getElem?_cons_succ, List.set_cons_zero, List.set_cons_succ, List.replicate, List.cons_append, List.nil_append, Option.some.injEq, Option.map_some, exists_eq_left', exists_eq_left, exists_and_left, exists_const, ite_true, ite_false, if_true, if_false, reduceCtorEq, decide_eq_true_eq, Bool.not_eq_true', Bool.not_eq_true, Bool.false_eq_true, Bool.true_eq_false, false_and, and_false, exists_false, not_true_eq_false, not_false_eq_true, Bool.not_true, Bool.not_false, DV.c.injEq, D.int.injEq, D.bl.injEq, D.tup.injEq, D.lst.injEq, DV.f.injEq, S.val.injEq, S.own.injEq, List.cons.injEq, and_true, true_and, okD_int, okD_bl, eqD_int, eqD_bl, Prod.mk.injEq, and_assoc])
        obtain ⟨q, hq⟩ : ∃ q : Nat, (k : Int) + (n : Int) - 1 - j = q := ⟨((k : Int) + (n : Int) - 1 - j).toNat, by omega⟩
        rw [hq]
        obtain ⟨mm, g1, g2, g3, g4, g5⟩ := inner_part tm hk hn (q := q) (by omega) (by omega)
        unfold w__law_right_2 wChainI3
        simp only [wSeq, wSet, wOp, wVar, wC, wUn, wChain, wAnd, wOr, wNot, wB, wAndT, wOrT, wNotT, wIf, wIfS, wRet, wDrop, wTup, wLst, wEmp, wSl, woNone, woSome, wCB, waNil, waCons, wgName, wgNil, wgCons, wgTup, wAug, wPar, wAsgG, wApp, wExt, wPop, wSetI, wNever, rd, rds, cl, cls, sv, ret, toS, items, rII, rIIC, rPlus, rMinus, rAddI, rTimes, rFdivW, rMod, rPowW, rNeg, rLt, rLe, rGt, rGe, rEqq, rNeq, rIsN, rNotN, rIxD, rSlD, cLen, cTuple, cList, cII, cMin, cMax, cAbs, cInt, List.getElem?_cons_zero, List.getElem?_cons_succ, List.set_cons_zero, List.set_cons_succ, List.replicate, List.cons_append, List.nil_append, Option.some.injEq, Option.map_some, exists_eq_left', exists_eq_left, exists_and_left, exists_const, ite_true, ite_false, if_true, if_false, reduceCtorEq, decide_eq_true_eq, Bool.not_eq_true', Bool.not_eq_true, Bool.false_eq_true, Bool.true_eq_false, false_and, and_false, exists_false, not_true_eq_false, not_false_eq_true, Bool.not_true, Bool.not_false, DV.c.injEq, D.int.injEq, D.bl.injEq, D.tup.injEq, D.lst.injEq, DV.f.injEq, S.val.injEq, S.own.injEq, List.cons.injEq, and_true, true_and, okD_int, okD_bl, eqD_int, eqD_bl, Prod.mk.injEq, and_assoc]
        rw [if_pos (by omega)]
        simp only [wCall, wCallF, wSeq, wSet, wOp, wVar, wC, wUn, wChain, wAnd, wOr, wNot, wB, wAndT, wOrT, wNotT, wIf, wIfS, wRet, wDrop, wTup, wLst, wEmp, wSl, woNone, woSome, wCB, waNil, waCons, wgName, wgNil, wgCons, wgTup, wAug, wPar, wAsgG, wApp, wExt, wPop, wSetI, wNever, rd, rds, cl, cls, sv, ret, toS, items, rII, rIIC, rPlus, rMinus, rAddI, rTimes, rFdivW, rMod, rPowW, rNeg, rLt, rLe, rGt, rGe, rEqq, rNeq, rIsN, rNotN, rIxD, rSlD, cLen, cTuple, cList, cII, cMin, cMax, cAbs, cInt, List.getElem?_cons_zero, List.getElem?_cons_succ, List.set_cons_zero, List.set_cons_succ, List.replicate, List.cons_append, List.nil_append, Option.some.injEq, Option.map_some, exists_eq_left', exists_eq_left, exists_and_left, exists_const, ite_true, ite_false, if_true, if_false, reduceCtorEq, decide_eq_true_eq, Bool.not_eq_true', Bool.not_eq_true, Bool.false_eq_true, Bool.true_eq_false, false_and, and_false, exists_false, not_true_eq_false, not_false_eq_true, Bool.not_true, Bool.not_false, DV.c.injEq, D.int.injEq, D.bl.injEq, D.tup.injEq, D.lst.injEq, DV.f.injEq, S.val.injEq, S.own.injEq, List.cons.injEq, and_true, true_and, okD_int, okD_bl, eqD_int, eqD_bl, Prod.mk.injEq, and_assoc]
        refine call_one (x := .int ((q + mm : Nat) : Int)) rfl ⟨ns, q, rfl, rfl, tm, by omega⟩ (fun r q => part_end_val g1 q) ?_
        (try simp only [wSeq, wSet, wOp, wVar, wC, wUn, wChain, wAnd, wOr, wNot, wB, wAndT, wOrT, wNotT, wIf, wIfS, wRet, wDrop, wTup, wLst, wEmp, wSl, woNone, woSome, wCB, waNil, waCons, wgName, wgNil, wgCons, wgTup, wAug, wPar, wAsgG, wApp, wExt, wPop, wSetI, wNever, rd, rds, cl, cls, sv, ret, toS, items, rII, rIIC, rPlus, rMinus, rAddI, rTimes, rFdivW, rMod, rPowW, rNeg, rLt, rLe, rGt, rGe, rEqq, rNeq, rIsN, rNotN, rIxD, rSlD, cLen, cTuple, cList, cII, cMin, cMax, cAbs, cInt, List.getElem?_cons_zero, List.getElem?_cons_succ, List.set_cons_zero, List.set_cons_succ, List.replicate, List.cons_append, List.nil_append, Option.some.injEq, Option.map_some, exists_eq_left', exists_eq_left, exists_and_left, exists_const, ite_true, ite_false, if_true, if_false, reduceCtorEq, decide_eq_true_eq, Bool.not_eq_true', Bool.not_eq_true, Bool.false_eq_true, Bool.true_eq_false, false_and, and_false, exists_false, not_true_eq_false, not_false_eq_true, Bool.not_true, Bool.not_false, DV.c.injEq, D.int.injEq, D.bl.injEq, D.tup.injEq, D.lst.injEq, DV.f.injEq, S.val.injEq, S.own.injEq, List.cons.injEq, and_true, true_and, okD_int, okD_bl, eqD_int, eqD_bl, Prod.mk.injEq, and_assoc])
        rw [if_pos (by omega)]
        simp only [eat]
        (try simp only [wSeq, wSet, wOp, wVar, wC, wUn, wChain, wAnd, wOr, wNot, wB, wAndT, wOrT, wNotT, wIf, wIfS, wRet, wDrop, wTup, wLst, wEmp, wSl, woNone, woSome, wCB, waNil, waCons, wgName, wgNil, wgCons, wgTup, wAug, wPar, wAsgG, wApp, wExt, wPop, wSetI, wNever, rd, rds, cl, cls, sv, ret, toS, items, rII, rIIC, rPlus, rMinus, rAddI, rTimes, rFdivW, rMod, rPowW, rNeg, rLt, rLe, rGt, rGe, rEqq, rNeq, rIsN, rNotN, rIxD, rSlD, cLen, cTuple, cList, cII, cMin, cMax, cAbs, cInt, List.getElem?_cons_zero, List.getElem?_cons_succ, List.set_cons_zero, List.set_cons_succ, List.replicate, List.cons_append, List.nil_append, Option.some.injEq, Option.map_some, exists_eq_left', exists_eq_left, exists_and_left, exists_const, ite_true, ite_false, if_true, if_false, reduceCtorEq, decide_eq_true_eq, Bool.not_eq_true', Bool.not_eq_true, Bool.false_eq_true, Bool.true_eq_false, false_and, and_false, exists_false, not_true_eq_false, not_false_eq_true, Bool.not_true, Bool.not_false, DV.c.injEq, D.int.injEq, D.bl.injEq, D.tup.injEq, D.lst.injEq, DV.f.injEq, S.val.injEq, S.own.injEq, List.cons.injEq, and_true, true_and, okD_int, okD_bl, eqD_int, eqD_bl, Prod.mk.injEq, and_assoc])
        rw [if_neg (by simp; omega)]
        unfold w__law_right_1
        simp only [wSeq, wSet, wOp, wVar, wC, wUn, wChain, wAnd, wOr, wNot, wB, wAndT, wOrT, wNotT, wIf, wIfS, wRet, wDrop, wTup, wLst, wEmp, wSl, woNone, woSome, wCB, waNil, waCons, wgName, wgNil, wgCons, wgTup, wAug, wPar, wAsgG, wApp, wExt, wPop, wSetI, wNever, rd, rds, cl, cls, sv, ret, toS, items, rII, rIIC, rPlus, rMinus, rAddI, rTimes, rFdivW, rMod, rPowW, rNeg, rLt, rLe, rGt, rGe, rEqq, rNeq, rIsN, rNotN, rIxD, rSlD, cLen, cTuple, cList, cII, cMin, cMax, cAbs, cInt, List.getElem?_cons_zero, List.getElem?_cons_succ, List.set_cons_zero, List.set_cons_succ, List.replicate, List.cons_append, List.nil_append, Option.some.injEq, Option.map_some, exists_eq_left', exists_eq_left, exists_and_left, exists_const, ite_true, ite_false, if_true, if_false, reduceCtorEq, decide_eq_true_eq, Bool.not_eq_true', Bool.not_eq_true, Bool.false_eq_true, Bool.true_eq_false, false_and, and_false, exists_false, not_true_eq_false, not_false_eq_true, Bool.not_true, Bool.not_false, DV.c.injEq, D.int.injEq, D.bl.injEq, D.tup.injEq, D.lst.injEq, DV.f.injEq, S.val.injEq, S.own.injEq, List.cons.injEq, and_true, true_and, okD_int, okD_bl, eqD_int, eqD_bl, Prod.mk.injEq, and_assoc]
        simp only [wCall, wCallF, wSeq, wSet, wOp, wVar, wC, wUn, wChain, wAnd, wOr, wNot, wB, wAndT, wOrT, wNotT, wIf, wIfS, wRet, wDrop, wTup, wLst, wEmp, wSl, woNone, woSome, wCB, waNil, waCons, wgName, wgNil, wgCons, wgTup, wAug, wPar, wAsgG, wApp, wExt, wPop, wSetI, wNever, rd, rds, cl, cls, sv, ret, toS, items, rII, rIIC, rPlus, rMinus, rAddI, rTimes, rFdivW, rMod, rPowW, rNeg, rLt, rLe, rGt, rGe, rEqq, rNeq, rIsN, rNotN, rIxD, rSlD, cLen, cTuple, cList, cII, cMin, cMax, cAbs, cInt, List.getElem?_cons_zero, List.getElem?_cons_succ, List.set_cons_zero, List.set_cons_succ, List.replicate, List.cons_append, List.nil_append, Option.some.injEq, Option.map_some, exists_eq_left', exists_eq_left, exists_and_left, exists_const, ite_true, ite_false, if_true, if_false, reduceCtorEq, decide_eq_true_eq, Bool.not_eq_true', Bool.not_eq_true, Bool.false_eq_true, Bool.true_eq_false, false_and, and_false, exists_false, not_true_eq_false, not_false_eq_true, Bool.not_true, Bool.not_false, DV.c.injEq, D.int.injEq, D.bl.injEq, D.tup.injEq, D.lst.injEq, DV.f.injEq, S.val.injEq, S.own.injEq, List.cons.injEq, and_true, true_and, okD_int, okD_bl, eqD_int, eqD_bl, Prod.mk.injEq, and_assoc]
        have e3 : (q : Int) - (k : Int) = ((q - k : Nat) : Int) := by omega
        rw [e3]
        refine call_one (x := tI ((((ns.drop k).take n).drop (q - k)).take mm)) rfl ⟨_, q - k, rfl, rfl, tpart, by rw [lp]; omega⟩ (fun r q => part_of_val g4 q) ?_
        (try simp only [wSeq, wSet, wOp, wVar, wC, wUn, wChain, wAnd, wOr, wNot, wB, wAndT, wOrT, wNotT, wIf, wIfS, wRet, wDrop, wTup, wLst, wEmp, wSl, woNone, woSome, wCB, waNil, waCons, wgName, wgNil, wgCons, wgTup, wAug, wPar, wAsgG, wApp, wExt, wPop, wSetI, wNever, rd, rds, cl, cls, sv, ret, toS, items, rII, rIIC, rPlus, rMinus, rAddI, rTimes, rFdivW, rMod, rPowW, rNeg, rLt, rLe, rGt, rGe, rEqq, rNeq, rIsN, rNotN, rIxD, rSlD, cLen, cTuple, cList, cII, cMin, cMax, cAbs, cInt, List.getElem?_cons_zero, List.getElem?_cons_succ, List.set_cons_zero, List.set_cons_succ, List.replicate, List.cons_append, List.nil_append, Option.some.injEq, Option.map_some, exists_eq_left', exists_eq_left, exists_and_left, exists_const, ite_true, ite_false, if_true, if_false, reduceCtorEq, decide_eq_true_eq, Bool.not_eq_true', Bool.not_eq_true, Bool.false_eq_true, Bool.true_eq_false, false_and, and_false, exists_false, not_true_eq_false, not_false_eq_true, Bool.not_true, Bool.not_false, DV.c.injEq, D.int.injEq, D.bl.injEq, D.tup.injEq, D.lst.injEq, DV.f.injEq, S.val.injEq, S.own.injEq, List.cons.injEq, and_true, true_and, okD_int, okD_bl, eqD_int, eqD_bl, Prod.mk.injEq, and_assoc])
        refine call_one (x := tI ((ns.drop q).take mm)) rfl ⟨ns, q, rfl, rfl, tm, by omega⟩ (fun r q => part_of_val g1 q) ?_
        (try simp only [wSeq, wSet, wOp, wVar, wC, wUn, wChain, wAnd, wOr, wNot, wB, wAndT, wOrT, wNotT, wIf, wIfS, wRet, wDrop, wTup, wLst, wEmp, wSl, woNone, woSome, wCB, waNil, waCons, wgName, wgNil, wgCons, wgTup, wAug, wPar, wAsgG, wApp, wExt, wPop, wSetI, wNever, rd, rds, cl, cls, sv, ret, toS, items, rII, rIIC, rPlus, rMinus, rAddI, rTimes, rFdivW, rMod, rPowW, rNeg, rLt, rLe, rGt, rGe, rEqq, rNeq, rIsN, rNotN, rIxD, rSlD, cLen, cTuple, cList, cII, cMin, cMax, cAbs, cInt, List.getElem?_cons_zero, List.getElem?_cons_succ, List.set_cons_zero, List.set_cons_succ, List.replicate, List.cons_append, List.nil_append, Option.some.injEq, Option.map_some, exists_eq_left', exists_eq_left, exists_and_left, exists_const, ite_true, ite_false, if_true, if_false, reduceCtorEq, decide_eq_true_eq, Bool.not_eq_true', Bool.not_eq_true, Bool.false_eq_true, Bool.true_eq_false, false_and, and_false, exists_false, not_true_eq_false, not_false_eq_true, Bool.not_true, Bool.not_false, DV.c.injEq, D.int.injEq, D.bl.injEq, D.tup.injEq, D.lst.injEq, DV.f.injEq, S.val.injEq, S.own.injEq, List.cons.injEq, and_true, true_and, okD_int, okD_bl, eqD_int, eqD_bl, Prod.mk.injEq, and_assoc])
        refine ⟨okD_ints _, okD_ints _, ?_⟩
        rw [eqD_ints, g5, if_neg (by simp)]
        exact ⟨_, _, _, _, _, rfl⟩
      · rintro δ ⟨s2, s4, s5, s6, s7, rfl⟩
        unfold w__law_right_7
        simp only [wSeq, wSet, wOp, wVar, wC, wUn, wChain, wAnd, wOr, wNot, wB, wAndT, wOrT, wNotT, wIf, wIfS, wRet, wDrop, wTup, wLst, wEmp, wSl, woNone, woSome, wCB, waNil, waCons, wgName, wgNil, wgCons, wgTup, wAug, wPar, wAsgG, wApp, wExt, wPop, wSetI, wNever, rd, rds, cl, cls, sv, ret, toS, items, rII, rIIC, rPlus, rMinus, rAddI, rTimes, rFdivW, rMod, rPowW, rNeg, rLt, rLe, rGt, rGe, rEqq, rNeq, rIsN, rNotN, rIxD, rSlD, cLen, cTuple, cList, cII, cMin, cMax, cAbs, cInt, List.getElem?_cons_zero, List.getElem?_cons_succ, List.set_cons_zero, List.set_cons_succ, List.replicate, List.cons_append, List.nil_append, Option.some.injEq, Option.map_some, exists_eq_left', exists_eq_left, exists_and_left, exists_const, ite_true, ite_false, if_true, if_false, reduceCtorEq, decide_eq_true_eq, Bool.not_eq_true', Bool.not_eq_true, Bool.false_eq_true, Bool.true_eq_false, false_and, and_false, exists_false, not_true_eq_false, not_false_eq_true, Bool.not_true, Bool.not_false, DV.c.injEq, D.int.injEq, D.bl.injEq, D.tup.injEq, D.lst.injEq, DV.f.injEq, S.val.injEq, S.own.injEq, List.cons.injEq, and_true, true_and, okD_int, okD_bl, eqD_int, eqD_bl, Prod.mk.injEq, and_assoc]
        simp only [wCall, wCallF, wSeq, wSet, wOp, wVar, wC, wUn, wChain, wAnd, wOr, wNot, wB, wAndT, wOrT, wNotT, wIf, wIfS, wRet, wDrop, wTup, wLst, wEmp, wSl, woNone, woSome, wCB, waNil, waCons, wgName, wgNil, wgCons, wgTup, wAug, wPar, wAsgG, wApp, wExt, wPop, wSetI, wNever, rd, rds, cl, cls, sv, ret, toS, items, rII, rIIC, rPlus, rMinus, rAddI, rTimes, rFdivW, rMod, rPowW, rNeg, rLt, rLe, rGt, rGe, rEqq, rNeq, rIsN, rNotN, rIxD, rSlD, cLen, cTuple, cList, cII, cMin, cMax, cAbs, cInt, List.getElem?_cons_zero, List.getElem?_cons_succ, List.set_cons_zero, List.set_cons_succ, List.replicate, List.cons_append, List.nil_append, Option.some.injEq, Option.map_some, exists_eq_left', exists_eq_left, exists_and_left, exists_const, ite_true, ite_false, if_true, if_false, reduceCtorEq, decide_eq_true_eq, Bool.not_eq_true', Bool.not_eq_true, Bool.false_eq_true, Bool.true_eq_false, false_and, and_false, exists_false, not_true_eq_false, not_false_eq_true, Bool.not_true, Bool.not_false, DV.c.injEq, D.int.injEq, D.bl.injEq, D.tup.injEq, D.lst.injEq, DV.f.injEq, S.val.injEq, S.own.injEq, List.cons.injEq, and_true, true_and, okD_int, okD_bl, eqD_int, eqD_bl, Prod.mk.injEq, and_assoc]
        have e0 : scn 1 (ns.drop 0) = some ns.length := scn_whole tm.jd
        refine call_one (x := tI ns) rfl ⟨ns, 0, rfl, rfl, tm, tp⟩ (fun r q => ?_) ?_
        · have := part_of_val (k := 0) e0 q
          rw [this]
          simp
        · (try simp only [wSeq, wSet, wOp, wVar, wC, wUn, wChain, wAnd, wOr, wNot, wB, wAndT, wOrT, wNotT, wIf, wIfS, wRet, wDrop, wTup, wLst, wEmp, wSl, woNone, woSome, wCB, waNil, waCons, wgName, wgNil, wgCons, wgTup, wAug, wPar, wAsgG, wApp, wExt, wPop, wSetI, wNever, rd, rds, cl, cls, sv, ret, toS, items, rII, rIIC, rPlus, rMinus, rAddI, rTimes, rFdivW, rMod, rPowW, rNeg, rLt, rLe, rGt, rGe, rEqq, rNeq, rIsN, rNotN, rIxD, rSlD, cLen, cTuple, cList, cII, cMin, cMax, cAbs, cInt, List.getElem?_cons_zero, List.getElem?_cons_succ, List.set_cons_zero, List.set_cons_succ, List.replicate, List.cons_append, List.nil_append, Option.some.injEq, Option.map_some, exists_eq_left', exists_eq_left, exists_and_left, exists_const, ite_true, ite_false, if_true, if_false, reduceCtorEq, decide_eq_true_eq, Bool.not_eq_true', Bool.not_eq_true, Bool.false_eq_true, Bool.true_eq_false, false_and, and_false, exists_false, not_true_eq_false, not_false_eq_true, Bool.not_true, Bool.not_false, DV.c.injEq, D.int.injEq, D.bl.injEq, D.tup.injEq, D.lst.injEq, DV.f.injEq, S.val.injEq, S.own.injEq, List.cons.injEq, and_true, true_and, okD_int, okD_bl, eqD_int, eqD_bl, Prod.mk.injEq, and_assoc])
          refine ⟨okD_ints _, okD_ints _, ?_⟩
          show _ = _
          rw [eqD_ints]
          simp
  · exact hp.elim
end Dl
namespace Dl
open PySem L2 Km
abbrev twice : List Int := [0, -1, 0, 1, 1, 0, -1, 1, -1, 1]
theorem tm_twice : Tm twice := ⟨by decide, by decide, by decide⟩
def inv_law (ns : List Int) (_ : Nat) (δ : List S) : Prop := ∃ s : S, δ = [.val (.frl (ns.map .int)), s, .no, .no]
abbrev toldD : D := .lst [.bl true, .bl false, .bl true, .int 5, tI [0, -1, 1, -1, 1]]
theorem ok_told : okD toldD := ⟨by decide +kernel, by decide +kernel⟩
theorem eq_told : eqD toldD toldD = true := by decide +kernel
theorem ifF {b : Bool} {A B : Prop} (h : b = true) (q : B) : if b = false then A else B := by
  rw [if_neg (by rw [h]; simp)]
  exact q
theorem call_on {pre : List S → Prop} {post : List S → DV → Prop} {ss : List S} {k : DV → Prop} {x : D} (hp : pre ss) (h : ∀ r, post ss r → r = .c x) (hk : k (.c x)) : pre ss ∧ ∀ r, post ss r → r ≠ .j ∧ k r :=
  ⟨hp, fun r q => by rw [h r q]; exact ⟨by simp, hk⟩⟩
theorem goal_law : Goal w_law ["script", "at", "twice", "told"] 1 pre_law post_law := by
  intro xs hl hp
  unfold pre_law at hp
  split at hp
  · rename_i ds
    obtain ⟨ns, rfl, hn⟩ := hp
    unfold w_law wForR1
    simp only [List.length_cons, List.length_nil]
    simp only [wCall, wCallF, wSeq, wSet, wOp, wVar, wC, wUn, wChain, wAnd, wOr, wNot, wB, wAndT, wOrT, wNotT, wIf, wIfS, wRet, wDrop, wTup, wLst, wEmp, wSl, woNone, woSome, wCB, waNil, waCons, wgName, wgNil, wgCons, wgTup, wAug, wPar, wAsgG, wApp, wExt, wPop, wSetI, wNever, rd, rds, cl, cls, sv, ret, toS, items, rII, rIIC, rPlus, rMinus, rAddI, rTimes, rFdivW, rMod, rPowW, rNeg, rLt, rLe, rGt, rGe, rEqq, rNeq, rIsN, rNotN, rIxD, rSlD, cLen, cTuple, cList, cII, cMin, cMax, cAbs, cInt, List.getElem?_cons_zero, List.getElem?_cons_succ, List.set_cons_zero, List.set_cons_succ, List.replicate, List.cons_append, List.nil_append, Option.some.injEq, Option.map_some, exists_eq_left', exists_eq_left, exists_and_left, exists_const, ite_true, ite_false, if_true, if_false, reduceCtorEq, decide_eq_true_eq, Bool.not_eq_true', Bool.not_eq_true, Bool.false_eq_true, Bool.true_eq_false, false_and, and_false, exists_false, not_true_eq_false, not_false_eq_true, Bool.not_true, Bool.not_false, DV.c.injEq, D.int.injEq, D.bl.injEq, D.tup.injEq, D.lst.injEq, DV.f.injEq, S.val.injEq, S.own.injEq, List.cons.injEq, and_true, true_and, okD_int, okD_bl, eqD_int, eqD_bl, Prod.mk.injEq, and_assoc]
    rw [List.length_map]
    refine ⟨⟨by split <;> split <;> omega, by split <;> split <;> omega⟩, inv_law ns, ⟨_, rfl⟩, ?_, ?_⟩
    · rintro m δ hm ⟨s, rfl⟩
      have hm4 : (m : Int) ≤ 3 := by split at hm <;> split at hm <;> omega
      unfold w_law_4
      simp only [wCall, wCallF, wSeq, wSet, wOp, wVar, wC, wUn, wChain, wAnd, wOr, wNot, wB, wAndT, wOrT, wNotT, wIf, wIfS, wRet, wDrop, wTup, wLst, wEmp, wSl, woNone, woSome, wCB, waNil, waCons, wgName, wgNil, wgCons, wgTup, wAug, wPar, wAsgG, wApp, wExt, wPop, wSetI, wNever, rd, rds, cl, cls, sv, ret, toS, items, rII, rIIC, rPlus, rMinus, rAddI, rTimes, rFdivW, rMod, rPowW, rNeg, rLt, rLe, rGt, rGe, rEqq, rNeq, rIsN, rNotN, rIxD, rSlD, cLen, cTuple, cList, cII, cMin, cMax, cAbs, cInt, List.getElem?_cons_zero, List.getElem?_cons_succ, List.set_cons_zero, List.set_cons_succ, List.replicate, List.cons_append, List.nil_append, Option.some.injEq, Option.map_some, exists_eq_left', exists_eq_left, exists_and_left, exists_const, ite_true, ite_false, if_true, if_false, reduceCtorEq, decide_eq_true_eq, Bool.not_eq_true', Bool.not_eq_true, Bool.false_eq_true, Bool.true_eq_false, false_and, and_false, exists_false, not_true_eq_false, not_false_eq_true, Bool.not_true, Bool.not_false, DV.c.injEq, D.int.injEq, D.bl.injEq, D.tup.injEq, D.lst.injEq, DV.f.injEq, S.val.injEq, S.own.injEq, List.cons.injEq, and_true, true_and, okD_int, okD_bl, eqD_int, eqD_bl, Prod.mk.injEq, and_assoc]
      refine ⟨rfl, ⟨ns, rfl, hn, by omega, by omega⟩, fun r hr => ?_⟩
      obtain ⟨l, mm, c, h0, rfl⟩ := hr
      refine ⟨by simp, l, mm, c, rfl, h0, (fun s hs => nomatch hs), rfl, trivial, fun r hr => ?_⟩
      have hr : r = .c (.bl true) := hr
      subst hr
      refine ⟨by simp, ?_⟩
      (try simp only [wSeq, wSet, wOp, wVar, wC, wUn, wChain, wAnd, wOr, wNot, wB, wAndT, wOrT, wNotT, wIf, wIfS, wRet, wDrop, wTup, wLst, wEmp, wSl, woNone, woSome, wCB, waNil, waCons, wgName, wgNil, wgCons, wgTup, wAug, wPar, wAsgG, wApp, wExt, wPop, wSetI, wNever, rd, rds, cl, cls, sv, ret, toS, items, rII, rIIC, rPlus, rMinus, rAddI, rTimes, rFdivW, rMod, rPowW, rNeg, rLt, rLe, rGt, rGe, rEqq, rNeq, rIsN, rNotN, rIxD, rSlD, cLen, cTuple, cList, cII, cMin, cMax, cAbs, cInt, List.getElem?_cons_zero, List.getElem?_cons_succ, List.set_cons_zero, List.set_cons_succ, List.replicate, List.cons_append, List.nil_append, Option.some.injEq, Option.map_some, exists_eq_left', exists_eq_left, exists_and_left, exists_const, ite_true, ite_false, if_true, if_false, reduceCtorEq, decide_eq_true_eq, Bool.not_eq_true', Bool.not_eq_true, Bool.false_eq_true, Bool.true_eq_false, false_and, and_false, exists_false, not_true_eq_false, not_false_eq_true, Bool.not_true, Bool.not_false, DV.c.injEq, D.int.injEq, D.bl.injEq, D.tup.injEq, D.lst.injEq, DV.f.injEq, S.val.injEq, S.own.injEq, List.cons.injEq, and_true, true_and, okD_int, okD_bl, eqD_int, eqD_bl, Prod.mk.injEq, and_assoc])
      exact ⟨_, rfl⟩
    · rintro δ ⟨s, rfl⟩
      unfold w_law_5
      simp only [wCall, wCallF, wSeq, wSet, wOp, wVar, wC, wUn, wChain, wAnd, wOr, wNot, wB, wAndT, wOrT, wNotT, wIf, wIfS, wRet, wDrop, wTup, wLst, wEmp, wSl, woNone, woSome, wCB, waNil, waCons, wgName, wgNil, wgCons, wgTup, wAug, wPar, wAsgG, wApp, wExt, wPop, wSetI, wNever, rd, rds, cl, cls, sv, ret, toS, items, rII, rIIC, rPlus, rMinus, rAddI, rTimes, rFdivW, rMod, rPowW, rNeg, rLt, rLe, rGt, rGe, rEqq, rNeq, rIsN, rNotN, rIxD, rSlD, cLen, cTuple, cList, cII, cMin, cMax, cAbs, cInt, List.getElem?_cons_zero, List.getElem?_cons_succ, List.set_cons_zero, List.set_cons_succ, List.replicate, List.cons_append, List.nil_append, Option.some.injEq, Option.map_some, exists_eq_left', exists_eq_left, exists_and_left, exists_const, ite_true, ite_false, if_true, if_false, reduceCtorEq, decide_eq_true_eq, Bool.not_eq_true', Bool.not_eq_true, Bool.false_eq_true, Bool.true_eq_false, false_and, and_false, exists_false, not_true_eq_false, not_false_eq_true, Bool.not_true, Bool.not_false, DV.c.injEq, D.int.injEq, D.bl.injEq, D.tup.injEq, D.lst.injEq, DV.f.injEq, S.val.injEq, S.own.injEq, List.cons.injEq, and_true, true_and, okD_int, okD_bl, eqD_int, eqD_bl, Prod.mk.injEq, and_assoc]
      (repeat (refine And.intro ?_ ?_; · (first | rfl | decide | omega | (simp; done) | (simp; omega))))
      unfold w_law_3
      simp only [wCall, wCallF, wSeq, wSet, wOp, wVar, wC, wUn, wChain, wAnd, wOr, wNot, wB, wAndT, wOrT, wNotT, wIf, wIfS, wRet, wDrop, wTup, wLst, wEmp, wSl, woNone, woSome, wCB, waNil, waCons, wgName, wgNil, wgCons, wgTup, wAug, wPar, wAsgG, wApp, wExt, wPop, wSetI, wNever, rd, rds, cl, cls, sv, ret, toS, items, rII, rIIC, rPlus, rMinus, rAddI, rTimes, rFdivW, rMod, rPowW, rNeg, rLt, rLe, rGt, rGe, rEqq, rNeq, rIsN, rNotN, rIxD, rSlD, cLen, cTuple, cList, cII, cMin, cMax, cAbs, cInt, List.getElem?_cons_zero, List.getElem?_cons_succ, List.set_cons_zero, List.set_cons_succ, List.replicate, List.cons_append, List.nil_append, Option.some.injEq, Option.map_some, exists_eq_left', exists_eq_left, exists_and_left, exists_const, ite_true, ite_false, if_true, if_false, reduceCtorEq, decide_eq_true_eq, Bool.not_eq_true', Bool.not_eq_true, Bool.false_eq_true, Bool.true_eq_false, false_and, and_false, exists_false, not_true_eq_false, not_false_eq_true, Bool.not_true, Bool.not_false, DV.c.injEq, D.int.injEq, D.bl.injEq, D.tup.injEq, D.lst.injEq, DV.f.injEq, S.val.injEq, S.own.injEq, List.cons.injEq, and_true, true_and, okD_int, okD_bl, eqD_int, eqD_bl, Prod.mk.injEq, and_assoc]
      have e1 : (.tup [.int 0, .int (-1), .int 0, .int 1, .int 1, .int 0, .int (-1), .int 1, .int (-1), .int 1] : D) = tI twice := rfl
      (repeat (refine And.intro ?_ ?_; · (first | rfl | decide | omega | (simp; done) | (simp; omega))))
      refine call_on (x := .bl true) (okVal_ints twice) (fun r q => by rw [← term_of tm_twice]; exact q) ?_
      simp only [wCall, wCallF, wSeq, wSet, wOp, wVar, wC, wUn, wChain, wAnd, wOr, wNot, wB, wAndT, wOrT, wNotT, wIf, wIfS, wRet, wDrop, wTup, wLst, wEmp, wSl, woNone, woSome, wCB, waNil, waCons, wgName, wgNil, wgCons, wgTup, wAug, wPar, wAsgG, wApp, wExt, wPop, wSetI, wNever, rd, rds, cl, cls, sv, ret, toS, items, rII, rIIC, rPlus, rMinus, rAddI, rTimes, rFdivW, rMod, rPowW, rNeg, rLt, rLe, rGt, rGe, rEqq, rNeq, rIsN, rNotN, rIxD, rSlD, cLen, cTuple, cList, cII, cMin, cMax, cAbs, cInt, List.getElem?_cons_zero, List.getElem?_cons_succ, List.set_cons_zero, List.set_cons_succ, List.replicate, List.cons_append, List.nil_append, Option.some.injEq, Option.map_some, exists_eq_left', exists_eq_left, exists_and_left, exists_const, ite_true, ite_false, if_true, if_false, reduceCtorEq, decide_eq_true_eq, Bool.not_eq_true', Bool.not_eq_true, Bool.false_eq_true, Bool.true_eq_false, false_and, and_false, exists_false, not_true_eq_false, not_false_eq_true, Bool.not_true, Bool.not_false, DV.c.injEq, D.int.injEq, D.bl.injEq, D.tup.injEq, D.lst.injEq, DV.f.injEq, S.val.injEq, S.own.injEq, List.cons.injEq, and_true, true_and, okD_int, okD_bl, eqD_int, eqD_bl, Prod.mk.injEq, and_assoc]
      (repeat (refine And.intro ?_ ?_; · (first | rfl | decide | omega | (simp; done) | (simp; omega))))
      refine call_on (x := .bl false) (okVal_ints [0, 1]) (fun r q => q) ?_
      simp only [wCall, wCallF, wSeq, wSet, wOp, wVar, wC, wUn, wChain, wAnd, wOr, wNot, wB, wAndT, wOrT, wNotT, wIf, wIfS, wRet, wDrop, wTup, wLst, wEmp, wSl, woNone, woSome, wCB, waNil, waCons, wgName, wgNil, wgCons, wgTup, wAug, wPar, wAsgG, wApp, wExt, wPop, wSetI, wNever, rd, rds, cl, cls, sv, ret, toS, items, rII, rIIC, rPlus, rMinus, rAddI, rTimes, rFdivW, rMod, rPowW, rNeg, rLt, rLe, rGt, rGe, rEqq, rNeq, rIsN, rNotN, rIxD, rSlD, cLen, cTuple, cList, cII, cMin, cMax, cAbs, cInt, List.getElem?_cons_zero, List.getElem?_cons_succ, List.set_cons_zero, List.set_cons_succ, List.replicate, List.cons_append, List.nil_append, Option.some.injEq, Option.map_some, exists_eq_left', exists_eq_left, exists_and_left, exists_const, ite_true, ite_false, if_true, if_false, reduceCtorEq, decide_eq_true_eq, Bool.not_eq_true', Bool.not_eq_true, Bool.false_eq_true, Bool.true_eq_false, false_and, and_false, exists_false, not_true_eq_false, not_false_eq_true, Bool.not_true, Bool.not_false, DV.c.injEq, D.int.injEq, D.bl.injEq, D.tup.injEq, D.lst.injEq, DV.f.injEq, S.val.injEq, S.own.injEq, List.cons.injEq, and_true, true_and, okD_int, okD_bl, eqD_int, eqD_bl, Prod.mk.injEq, and_assoc]
      (repeat (refine And.intro ?_ ?_; · (first | rfl | decide | omega | (simp; done) | (simp; omega))))
      refine call_on (x := .bl true) (okVal_ints [0, -1, 1, 2]) (fun r q => q) ?_
      simp only [wCall, wCallF, wSeq, wSet, wOp, wVar, wC, wUn, wChain, wAnd, wOr, wNot, wB, wAndT, wOrT, wNotT, wIf, wIfS, wRet, wDrop, wTup, wLst, wEmp, wSl, woNone, woSome, wCB, waNil, waCons, wgName, wgNil, wgCons, wgTup, wAug, wPar, wAsgG, wApp, wExt, wPop, wSetI, wNever, rd, rds, cl, cls, sv, ret, toS, items, rII, rIIC, rPlus, rMinus, rAddI, rTimes, rFdivW, rMod, rPowW, rNeg, rLt, rLe, rGt, rGe, rEqq, rNeq, rIsN, rNotN, rIxD, rSlD, cLen, cTuple, cList, cII, cMin, cMax, cAbs, cInt, List.getElem?_cons_zero, List.getElem?_cons_succ, List.set_cons_zero, List.set_cons_succ, List.replicate, List.cons_append, List.nil_append, Option.some.injEq, Option.map_some, exists_eq_left', exists_eq_left, exists_and_left, exists_const, ite_true, ite_false, if_true, if_false, reduceCtorEq, decide_eq_true_eq, Bool.not_eq_true', Bool.not_eq_true, Bool.false_eq_true, Bool.true_eq_false, false_and, and_false, exists_false, not_true_eq_false, not_false_eq_true, Bool.not_true, Bool.not_false, DV.c.injEq, D.int.injEq, D.bl.injEq, D.tup.injEq, D.lst.injEq, DV.f.injEq, S.val.injEq, S.own.injEq, List.cons.injEq, and_true, true_and, okD_int, okD_bl, eqD_int, eqD_bl, Prod.mk.injEq, and_assoc]
      (repeat (refine And.intro ?_ ?_; · (first | rfl | decide | omega | (simp; done) | (simp; omega))))
      refine call_on (x := .int 5) ⟨twice, 1, rfl, rfl, tm_twice, by decide⟩ (fun r q => q) ?_
      simp only [wCall, wCallF, wSeq, wSet, wOp, wVar, wC, wUn, wChain, wAnd, wOr, wNot, wB, wAndT, wOrT, wNotT, wIf, wIfS, wRet, wDrop, wTup, wLst, wEmp, wSl, woNone, woSome, wCB, waNil, waCons, wgName, wgNil, wgCons, wgTup, wAug, wPar, wAsgG, wApp, wExt, wPop, wSetI, wNever, rd, rds, cl, cls, sv, ret, toS, items, rII, rIIC, rPlus, rMinus, rAddI, rTimes, rFdivW, rMod, rPowW, rNeg, rLt, rLe, rGt, rGe, rEqq, rNeq, rIsN, rNotN, rIxD, rSlD, cLen, cTuple, cList, cII, cMin, cMax, cAbs, cInt, List.getElem?_cons_zero, List.getElem?_cons_succ, List.set_cons_zero, List.set_cons_succ, List.replicate, List.cons_append, List.nil_append, Option.some.injEq, Option.map_some, exists_eq_left', exists_eq_left, exists_and_left, exists_const, ite_true, ite_false, if_true, if_false, reduceCtorEq, decide_eq_true_eq, Bool.not_eq_true', Bool.not_eq_true, Bool.false_eq_true, Bool.true_eq_false, false_and, and_false, exists_false, not_true_eq_false, not_false_eq_true, Bool.not_true, Bool.not_false, DV.c.injEq, D.int.injEq, D.bl.injEq, D.tup.injEq, D.lst.injEq, DV.f.injEq, S.val.injEq, S.own.injEq, List.cons.injEq, and_true, true_and, okD_int, okD_bl, eqD_int, eqD_bl, Prod.mk.injEq, and_assoc]
      (repeat (refine And.intro ?_ ?_; · (first | rfl | decide | omega | (simp; done) | (simp; omega))))
      refine call_on (x := tI [0, -1, 1, -1, 1]) ⟨twice, 5, rfl, rfl, tm_twice, by decide⟩ (fun r q => q) ?_
      simp only [wCall, wCallF, wSeq, wSet, wOp, wVar, wC, wUn, wChain, wAnd, wOr, wNot, wB, wAndT, wOrT, wNotT, wIf, wIfS, wRet, wDrop, wTup, wLst, wEmp, wSl, woNone, woSome, wCB, waNil, waCons, wgName, wgNil, wgCons, wgTup, wAug, wPar, wAsgG, wApp, wExt, wPop, wSetI, wNever, rd, rds, cl, cls, sv, ret, toS, items, rII, rIIC, rPlus, rMinus, rAddI, rTimes, rFdivW, rMod, rPowW, rNeg, rLt, rLe, rGt, rGe, rEqq, rNeq, rIsN, rNotN, rIxD, rSlD, cLen, cTuple, cList, cII, cMin, cMax, cAbs, cInt, List.getElem?_cons_zero, List.getElem?_cons_succ, List.set_cons_zero, List.set_cons_succ, List.replicate, List.cons_append, List.nil_append, Option.some.injEq, Option.map_some, exists_eq_left', exists_eq_left, exists_and_left, exists_const, ite_true, ite_false, if_true, if_false, reduceCtorEq, decide_eq_true_eq, Bool.not_eq_true', Bool.not_eq_true, Bool.false_eq_true, Bool.true_eq_false, false_and, and_false, exists_false, not_true_eq_false, not_false_eq_true, Bool.not_true, Bool.not_false, DV.c.injEq, D.int.injEq, D.bl.injEq, D.tup.injEq, D.lst.injEq, DV.f.injEq, S.val.injEq, S.own.injEq, List.cons.injEq, and_true, true_and, okD_int, okD_bl, eqD_int, eqD_bl, Prod.mk.injEq, and_assoc]
      (repeat (refine And.intro ?_ ?_; · (first | rfl | decide | omega | (simp; done) | (simp; omega))))
      unfold w_law_2
      simp only [wCall, wCallF, wSeq, wSet, wOp, wVar, wC, wUn, wChain, wAnd, wOr, wNot, wB, wAndT, wOrT, wNotT, wIf, wIfS, wRet, wDrop, wTup, wLst, wEmp, wSl, woNone, woSome, wCB, waNil, waCons, wgName, wgNil, wgCons, wgTup, wAug, wPar, wAsgG, wApp, wExt, wPop, wSetI, wNever, rd, rds, cl, cls, sv, ret, toS, items, rII, rIIC, rPlus, rMinus, rAddI, rTimes, rFdivW, rMod, rPowW, rNeg, rLt, rLe, rGt, rGe, rEqq, rNeq, rIsN, rNotN, rIxD, rSlD, cLen, cTuple, cList, cII, cMin, cMax, cAbs, cInt, List.getElem?_cons_zero, List.getElem?_cons_succ, List.set_cons_zero, List.set_cons_succ, List.replicate, List.cons_append, List.nil_append, Option.some.injEq, Option.map_some, exists_eq_left', exists_eq_left, exists_and_left, exists_const, ite_true, ite_false, if_true, if_false, reduceCtorEq, decide_eq_true_eq, Bool.not_eq_true', Bool.not_eq_true, Bool.false_eq_true, Bool.true_eq_false, false_and, and_false, exists_false, not_true_eq_false, not_false_eq_true, Bool.not_true, Bool.not_false, DV.c.injEq, D.int.injEq, D.bl.injEq, D.tup.injEq, D.lst.injEq, DV.f.injEq, S.val.injEq, S.own.injEq, List.cons.injEq, and_true, true_and, okD_int, okD_bl, eqD_int, eqD_bl, Prod.mk.injEq, and_assoc]
      refine ⟨by simp, by simp, ok_told, ok_told, ?_⟩
      refine ifF eq_told ?_
      (repeat (refine And.intro ?_ ?_; · (first | rfl | decide | omega | (simp; done) | (simp; omega))))
      refine call_on (x := .bl false) (okVal_ints [1, 0, 1]) (fun r q => q) ?_
      simp only [wCall, wCallF, wSeq, wSet, wOp, wVar, wC, wUn, wChain, wAnd, wOr, wNot, wB, wAndT, wOrT, wNotT, wIf, wIfS, wRet, wDrop, wTup, wLst, wEmp, wSl, woNone, woSome, wCB, waNil, waCons, wgName, wgNil, wgCons, wgTup, wAug, wPar, wAsgG, wApp, wExt, wPop, wSetI, wNever, rd, rds, cl, cls, sv, ret, toS, items, rII, rIIC, rPlus, rMinus, rAddI, rTimes, rFdivW, rMod, rPowW, rNeg, rLt, rLe, rGt, rGe, rEqq, rNeq, rIsN, rNotN, rIxD, rSlD, cLen, cTuple, cList, cII, cMin, cMax, cAbs, cInt, List.getElem?_cons_zero, List.getElem?_cons_succ, List.set_cons_zero, List.set_cons_succ, List.replicate, List.cons_append, List.nil_append, Option.some.injEq, Option.map_some, exists_eq_left', exists_eq_left, exists_and_left, exists_const, ite_true, ite_false, if_true, if_false, reduceCtorEq, decide_eq_true_eq, Bool.not_eq_true', Bool.not_eq_true, Bool.false_eq_true, Bool.true_eq_false, false_and, and_false, exists_false, not_true_eq_false, not_false_eq_true, Bool.not_true, Bool.not_false, DV.c.injEq, D.int.injEq, D.bl.injEq, D.tup.injEq, D.lst.injEq, DV.f.injEq, S.val.injEq, S.own.injEq, List.cons.injEq, and_true, true_and, okD_int, okD_bl, eqD_int, eqD_bl, Prod.mk.injEq, and_assoc]
      (repeat (refine And.intro ?_ ?_; · (first | rfl | decide | omega | (simp; done) | (simp; omega))))
      refine call_on (x := .bl false) (okVal_ints [-1, 1, 0, 2]) (fun r q => q) ?_
      simp only [wCall, wCallF, wSeq, wSet, wOp, wVar, wC, wUn, wChain, wAnd, wOr, wNot, wB, wAndT, wOrT, wNotT, wIf, wIfS, wRet, wDrop, wTup, wLst, wEmp, wSl, woNone, woSome, wCB, waNil, waCons, wgName, wgNil, wgCons, wgTup, wAug, wPar, wAsgG, wApp, wExt, wPop, wSetI, wNever, rd, rds, cl, cls, sv, ret, toS, items, rII, rIIC, rPlus, rMinus, rAddI, rTimes, rFdivW, rMod, rPowW, rNeg, rLt, rLe, rGt, rGe, rEqq, rNeq, rIsN, rNotN, rIxD, rSlD, cLen, cTuple, cList, cII, cMin, cMax, cAbs, cInt, List.getElem?_cons_zero, List.getElem?_cons_succ, List.set_cons_zero, List.set_cons_succ, List.replicate, List.cons_append, List.nil_append, Option.some.injEq, Option.map_some, exists_eq_left', exists_eq_left, exists_and_left, exists_const, ite_true, ite_false, if_true, if_false, reduceCtorEq, decide_eq_true_eq, Bool.not_eq_true', Bool.not_eq_true, Bool.false_eq_true, Bool.true_eq_false, false_and, and_false, exists_false, not_true_eq_false, not_false_eq_true, Bool.not_true, Bool.not_false, DV.c.injEq, D.int.injEq, D.bl.injEq, D.tup.injEq, D.lst.injEq, DV.f.injEq, S.val.injEq, S.own.injEq, List.cons.injEq, and_true, true_and, okD_int, okD_bl, eqD_int, eqD_bl, Prod.mk.injEq, and_assoc]
      unfold w_law_1
      simp only [wCall, wCallF, wSeq, wSet, wOp, wVar, wC, wUn, wChain, wAnd, wOr, wNot, wB, wAndT, wOrT, wNotT, wIf, wIfS, wRet, wDrop, wTup, wLst, wEmp, wSl, woNone, woSome, wCB, waNil, waCons, wgName, wgNil, wgCons, wgTup, wAug, wPar, wAsgG, wApp, wExt, wPop, wSetI, wNever, rd, rds, cl, cls, sv, ret, toS, items, rII, rIIC, rPlus, rMinus, rAddI, rTimes, rFdivW, rMod, rPowW, rNeg, rLt, rLe, rGt, rGe, rEqq, rNeq, rIsN, rNotN, rIxD, rSlD, cLen, cTuple, cList, cII, cMin, cMax, cAbs, cInt, List.getElem?_cons_zero, List.getElem?_cons_succ, List.set_cons_zero, List.set_cons_succ, List.replicate, List.cons_append, List.nil_append, Option.some.injEq, Option.map_some, exists_eq_left', exists_eq_left, exists_and_left, exists_const, ite_true, ite_false, if_true, if_false, reduceCtorEq, decide_eq_true_eq, Bool.not_eq_true', Bool.not_eq_true, Bool.false_eq_true, Bool.true_eq_false, false_and, and_false, exists_false, not_true_eq_false, not_false_eq_true, Bool.not_true, Bool.not_false, DV.c.injEq, D.int.injEq, D.bl.injEq, D.tup.injEq, D.lst.injEq, DV.f.injEq, S.val.injEq, S.own.injEq, List.cons.injEq, and_true, true_and, okD_int, okD_bl, eqD_int, eqD_bl, Prod.mk.injEq, and_assoc]
      refine ⟨by simp, by simp, okD_ints [400, 1000], okD_ints [400, 1000], ?_⟩
      show _ = _
      rw [show (eqD (.tup [.int c_MAX_PARTS, .int c_MAX_VARIABLE]) (.tup [.int 400, .int 1000])) = true from eqD_ints [400, 1000] [400, 1000]]
  · exact hp.elim
end Dl
namespace Dl
open PySem PySem.Spec PyProof.Rows L2 Km
def topS (i : Nat) : Stmt := PySem.Challenge.pw_oncework_k00_whole_terms_and_their_parts.main.body.getD i (.Pass ⟨0, 0, 0, 0⟩)
abbrev s_is_whole : Stmt := topS 6
abbrev s_is_whole_within : Stmt := topS 7
abbrev s_end_behind : Stmt := topS 8
abbrev s_is_term : Stmt := topS 12
abbrev s_check_term : Stmt := topS 13
abbrev s_check_place : Stmt := topS 14
abbrev s_part_end : Stmt := topS 15
abbrev s_part_of : Stmt := topS 16
abbrev s__law_dice : Stmt := topS 18
abbrev s__law_roll : Stmt := topS 19
abbrev s__law_ends : Stmt := topS 20
abbrev s__law_term_drawn : Stmt := topS 21
abbrev s__law_is_term : Stmt := topS 22
abbrev s__law_near_values : Stmt := topS 23
abbrev s__law_long_values : Stmt := topS 24
abbrev s__law_right : Stmt := topS 25
abbrev s_law : Stmt := topS 26
def nmL : List Str := "is_whole" :: "is_whole_within" :: "end_behind" :: "is_term" :: "check_term" :: "check_place" :: "part_end" :: "part_of" :: "_law_dice" :: "_law_roll" :: "_law_ends" :: "_law_term_drawn" :: "_law_is_term" :: "_law_near_values" :: "_law_long_values" :: "_law_right" :: "law" :: []
def stL : List Stmt := s_is_whole :: s_is_whole_within :: s_end_behind :: s_is_term :: s_check_term :: s_check_place :: s_part_end :: s_part_of :: s__law_dice :: s__law_roll :: s__law_ends :: s__law_term_drawn :: s__law_is_term :: s__law_near_values :: s__law_long_values :: s__law_right :: s_law :: []
abbrev nm (i : Nat) : Str := nmL.getD i ""
abbrev st (i : Nat) : Stmt := stL.getD i (.Pass ⟨0, 0, 0, 0⟩)
abbrev FnP (K : PySem.W.Frag) (x : Str) (st : Stmt) (f : Addr) (fd : FuncData) : Prop := FunD K x x (defArgs st) (defBody st) (defScope st) [] [] f fd
abbrev frees : List Str := ["int", "isinstance", "len", "enumerate", "max", "tuple", "abs", "range", "min", "bool", "list"]
structure Tx (K : PySem.W.Frag) (mg : Str → Option Value) (fs : Nat → Addr) (fds : Nat → FuncData) : Prop where
  def_ : ∀ i, i < 17 → FnP K (nm i) (st i) (fs i) (fds i)
  glo : ∀ i, i < 17 → mg (nm i) = some (.ref (fs i))
  free : ∀ x, x ∈ frees → mg x = none
  c_WHOLE_END : ∃ t, mg "WHOLE_END" = some (.int c_WHOLE_END t)
  c_MAX_PARTS : ∃ t, mg "MAX_PARTS" = some (.int c_MAX_PARTS t)
  c_MAX_VARIABLE : ∃ t, mg "MAX_VARIABLE" = some (.int c_MAX_VARIABLE t)
theorem sc_is_whole : FnScope ["value"] ["value"] (defScope s_is_whole) := ⟨rfl, rfl, rfl, by decide +kernel, rfl, by decide +kernel, by decide +kernel⟩
theorem sc_is_whole_within : FnScope ["value", "least", "most"] ["value", "least", "most"] (defScope s_is_whole_within) := ⟨rfl, rfl, rfl, by decide +kernel, rfl, by decide +kernel, by decide +kernel⟩
theorem sc_end_behind : FnScope ["parts", "place", "wanted", "at", "part"] ["parts", "place"] (defScope s_end_behind) := ⟨rfl, rfl, rfl, by decide +kernel, rfl, by decide +kernel, by decide +kernel⟩
theorem sc_is_term : FnScope ["value", "wanted", "part"] ["value"] (defScope s_is_term) := ⟨rfl, rfl, rfl, by decide +kernel, rfl, by decide +kernel, by decide +kernel⟩
theorem sc_check_term : FnScope ["term"] ["term"] (defScope s_check_term) := ⟨rfl, rfl, rfl, by decide +kernel, rfl, by decide +kernel, by decide +kernel⟩
theorem sc_check_place : FnScope ["term", "place"] ["term", "place"] (defScope s_check_place) := ⟨rfl, rfl, rfl, by decide +kernel, rfl, by decide +kernel, by decide +kernel⟩
theorem sc_part_end : FnScope ["term", "place"] ["term", "place"] (defScope s_part_end) := ⟨rfl, rfl, rfl, by decide +kernel, rfl, by decide +kernel, by decide +kernel⟩
theorem sc_part_of : FnScope ["term", "place"] ["term", "place"] (defScope s_part_of) := ⟨rfl, rfl, rfl, by decide +kernel, rfl, by decide +kernel, by decide +kernel⟩
theorem sc__law_dice : FnScope ["script", "at", "cell", "great", "left", "mixed"] ["script", "at"] (defScope s__law_dice) := ⟨rfl, rfl, rfl, by decide +kernel, rfl, by decide +kernel, by decide +kernel⟩
theorem sc__law_roll : FnScope ["dice", "total", "size", "drawn", "one", "two"] ["dice", "total"] (defScope s__law_roll) := ⟨rfl, rfl, rfl, by decide +kernel, rfl, by decide +kernel, by decide +kernel⟩
theorem sc__law_ends : FnScope ["term", "found", "at"] ["term"] (defScope s__law_ends) := ⟨rfl, rfl, rfl, by decide +kernel, rfl, by decide +kernel, by decide +kernel⟩
theorem sc__law_term_drawn : FnScope ["dice", "size", "open_count", "found", "todo", "left", "depth", "known", "inner"] ["dice", "size", "open_count"] (defScope s__law_term_drawn) := ⟨rfl, rfl, rfl, by decide +kernel, rfl, by decide +kernel, by decide +kernel⟩
theorem sc__law_is_term : FnScope ["value", "due", "code"] ["value"] (defScope s__law_is_term) := ⟨rfl, rfl, rfl, by decide +kernel, rfl, by decide +kernel, by decide +kernel⟩
theorem sc__law_near_values : FnScope ["dice", "term", "at", "found", "code"] ["dice", "term"] (defScope s__law_near_values) := ⟨rfl, rfl, rfl, by decide +kernel, rfl, by decide +kernel, by decide +kernel⟩
theorem sc__law_long_values : FnScope ["dice", "more", "found"] ["dice"] (defScope s__law_long_values) := ⟨rfl, rfl, rfl, by decide +kernel, rfl, by decide +kernel, by decide +kernel⟩
theorem sc__law_right : FnScope ["dice", "term", "value", "ends", "turn", "place", "part", "inner"] ["dice"] (defScope s__law_right) := ⟨rfl, rfl, rfl, by decide +kernel, rfl, by decide +kernel, by decide +kernel⟩
theorem sc_law : FnScope ["script", "at", "twice", "told"] ["script"] (defScope s_law) := ⟨rfl, rfl, rfl, by decide +kernel, rfl, by decide +kernel, by decide +kernel⟩
section
variable {P : Program} {w : World} {K : PySem.W.Frag} {mg : Str → Option Value} {base : Heap} {fs : Nat → Addr} {fds : Nat → FuncData}
theorem b_is_whole (T : Tx K mg fs fds) : Binds K (fds 0) ["value"] [] := (T.def_ 0 (by decide)).bindsN fun _ _ _ _ _ _ us hl => match us, hl with | [_], _ => rfl
theorem b_is_whole_within (T : Tx K mg fs fds) : Binds K (fds 1) ["value", "least", "most"] [] := (T.def_ 1 (by decide)).bindsN fun _ _ _ _ _ _ us hl => match us, hl with | [_, _, _], _ => rfl
theorem b_end_behind (T : Tx K mg fs fds) : Binds K (fds 2) ["parts", "place"] [] := (T.def_ 2 (by decide)).bindsN fun _ _ _ _ _ _ us hl => match us, hl with | [_, _], _ => rfl
theorem b_is_term (T : Tx K mg fs fds) : Binds K (fds 3) ["value"] [] := (T.def_ 3 (by decide)).bindsN fun _ _ _ _ _ _ us hl => match us, hl with | [_], _ => rfl
theorem b_check_term (T : Tx K mg fs fds) : Binds K (fds 4) ["term"] [] := (T.def_ 4 (by decide)).bindsN fun _ _ _ _ _ _ us hl => match us, hl with | [_], _ => rfl
theorem b_check_place (T : Tx K mg fs fds) : Binds K (fds 5) ["term", "place"] [] := (T.def_ 5 (by decide)).bindsN fun _ _ _ _ _ _ us hl => match us, hl with | [_, _], _ => rfl
theorem b_part_end (T : Tx K mg fs fds) : Binds K (fds 6) ["term", "place"] [] := (T.def_ 6 (by decide)).bindsN fun _ _ _ _ _ _ us hl => match us, hl with | [_, _], _ => rfl
theorem b_part_of (T : Tx K mg fs fds) : Binds K (fds 7) ["term", "place"] [] := (T.def_ 7 (by decide)).bindsN fun _ _ _ _ _ _ us hl => match us, hl with | [_, _], _ => rfl
theorem b__law_dice (T : Tx K mg fs fds) : Binds K (fds 8) ["script", "at"] [] := (T.def_ 8 (by decide)).bindsN fun _ _ _ _ _ _ us hl => match us, hl with | [_, _], _ => rfl
theorem b__law_roll (T : Tx K mg fs fds) : Binds K (fds 9) ["dice", "total"] [] := (T.def_ 9 (by decide)).bindsN fun _ _ _ _ _ _ us hl => match us, hl with | [_, _], _ => rfl
theorem b__law_ends (T : Tx K mg fs fds) : Binds K (fds 10) ["term"] [] := (T.def_ 10 (by decide)).bindsN fun _ _ _ _ _ _ us hl => match us, hl with | [_], _ => rfl
theorem b__law_term_drawn (T : Tx K mg fs fds) : Binds K (fds 11) ["dice", "size", "open_count"] [] := (T.def_ 11 (by decide)).bindsN fun _ _ _ _ _ _ us hl => match us, hl with | [_, _, _], _ => rfl
theorem b__law_is_term (T : Tx K mg fs fds) : Binds K (fds 12) ["value"] [] := (T.def_ 12 (by decide)).bindsN fun _ _ _ _ _ _ us hl => match us, hl with | [_], _ => rfl
theorem b__law_near_values (T : Tx K mg fs fds) : Binds K (fds 13) ["dice", "term"] [] := (T.def_ 13 (by decide)).bindsN fun _ _ _ _ _ _ us hl => match us, hl with | [_, _], _ => rfl
theorem b__law_long_values (T : Tx K mg fs fds) : Binds K (fds 14) ["dice"] [] := (T.def_ 14 (by decide)).bindsN fun _ _ _ _ _ _ us hl => match us, hl with | [_], _ => rfl
theorem b__law_right (T : Tx K mg fs fds) : Binds K (fds 15) ["dice"] [] := (T.def_ 15 (by decide)).bindsN fun _ _ _ _ _ _ us hl => match us, hl with | [_], _ => rfl
theorem b_law (T : Tx K mg fs fds) : Binds K (fds 16) ["script"] [] := (T.def_ 16 (by decide)).bindsN fun _ _ _ _ _ _ us hl => match us, hl with | [_], _ => rfl
theorem ok_is_whole (T : Tx K mg fs fds) : FnOk P w K mg base CX0 1 (fs 0) (fds 0) ["value"] (SpD K 1 pre_is_whole post_is_whole) :=
  fn_d (N := ["value"]) (wb := w_is_whole) (T.def_ 0 (by decide)) sc_is_whole rfl (by decide) (fun cdv A outer s H E hr => dss_cons (ds_if ((dw_or (dt_not (dt_val (de_callB call_isi dc_isi (by rfl) (T.free "isinstance" (by decide)) (by decide +kernel) (da_cons (de_var 0) (da_cons (de_ty (by rfl) (T.free "int" (by decide)) (by decide +kernel)) (da_nil)))))) (dw_or (dt_cmp op_isA dop_isB (de_var 0) (de_bl)) (dw_or1 (dt_cmp op_isA dop_isB (de_var 0) (de_bl))))).pt) (dss_one (ds_ret (de_bl))) (dss_nil)) (dss_one (ds_ret (de_chain op_lt op_lt dop_lt dop_lt (de_neg (de_globE (by rfl) T.c_WHOLE_END)) (de_var 0) (de_globE (by rfl) T.c_WHOLE_END))))) goal_is_whole
theorem ok_end_behind (T : Tx K mg fs fds) : FnOk P w K mg base CX0 1 (fs 2) (fds 2) ["parts", "place"] (SpD K 2 pre_end_behind post_end_behind) :=
  fn_d (N := ["parts", "place", "wanted", "at", "part"]) (wb := w_end_behind) (T.def_ 2 (by decide)) sc_end_behind rfl (by decide) (fun cdv A outer s H E hr => dss_cons (ds_set (i := 2) sc_end_behind.nd rfl (.inl rfl) (de_int)) (dss_cons (ds_forW PassesOwn.never rfl (dif_enum (by rfl) (T.free "enumerate" (by decide)) (da_cons (de_slice (de_var 0) (do_some (de_var 1)) (do_none)) (da_nil))) (dg_tup (n := 2) rfl (dgs_cons (dg_name (i := 3) sc_end_behind.nd rfl (.inl rfl)) (dgs_cons (dg_name (i := 4) sc_end_behind.nd rfl (.inl rfl)) (dgs_nil)))) (dss_one (ds_if (dt_cmp op_gt dop_gt (de_var 4) (de_int)) (dss_cons (ds_augI (i := 2) sc_end_behind.nd rfl (.inl rfl) ip_sub (de_int)) (dss_one (ds_if (dt_eq hr.units (de_var 2) (de_int)) (dss_one (ds_ret (de_add (de_add (de_var 1) (de_var 3)) (de_int)))) (dss_nil)))) (dss_one (ds_if (dt_eq hr.units (de_var 4) (de_int)) (dss_one (ds_augI (i := 2) sc_end_behind.nd rfl (.inl rfl) ip_add (de_int))) (dss_nil)))))) (dss_one (ds_ret (de_callB call_len_seq dc_len (by rfl) (T.free "len" (by decide)) (by decide +kernel) (da_cons (de_var 0) (da_nil))))))) goal_end_behind
theorem ok_is_term (T : Tx K mg fs fds) : FnOk P w K mg base CX0 1 (fs 3) (fds 3) ["value"] (SpD K 1 pre_is_term post_is_term) :=
  fn_d (N := ["value", "wanted", "part"]) (wb := w_is_term) (T.def_ 3 (by decide)) sc_is_term rfl (by decide) (fun cdv A outer s H E hr => dss_cons (ds_if ((dw_or (dt_not (dt_val (de_callB call_isi dc_isi (by rfl) (T.free "isinstance" (by decide)) (by decide +kernel) (da_cons (de_var 0) (da_cons (de_ty (by rfl) (T.free "tuple" (by decide)) (by decide +kernel)) (da_nil)))))) (dw_or1 (dt_cmp op_gt dop_gt (de_callB call_len_seq dc_len (by rfl) (T.free "len" (by decide)) (by decide +kernel) (da_cons (de_var 0) (da_nil))) (de_globE (by rfl) T.c_MAX_PARTS)))).pt) (dss_one (ds_ret (de_bl))) (dss_nil)) (dss_cons (ds_set (i := 1) sc_is_term.nd rfl (.inl rfl) (de_int)) (dss_cons (ds_for PassesOwn.never rfl (de_var 0) (dg_name (i := 2) sc_is_term.nd rfl (.inl rfl)) (dss_cons (ds_if ((dw_or (dt_eq hr.units (de_var 1) (de_int)) (dw_or (dt_not (dt_val (de_callB call_isi dc_isi (by rfl) (T.free "isinstance" (by decide)) (by decide +kernel) (da_cons (de_var 2) (da_cons (de_ty (by rfl) (T.free "int" (by decide)) (by decide +kernel)) (da_nil)))))) (dw_or (dt_cmp op_isA dop_isB (de_var 2) (de_bl)) (dw_or1 (dt_cmp op_isA dop_isB (de_var 2) (de_bl)))))).pt) (dss_one (ds_ret (de_bl))) (dss_nil)) (dss_one (ds_if (dt_cmp op_gt dop_gt (de_var 2) (de_int)) (dss_one (ds_augI (i := 1) sc_is_term.nd rfl (.inl rfl) ip_sub (de_int))) (dss_one (ds_if (dt_eq hr.units (de_var 2) (de_int)) (dss_one (ds_augI (i := 1) sc_is_term.nd rfl (.inl rfl) ip_add (de_int))) (dss_one (ds_if (dt_cmp op_lt dop_lt (de_var 2) (de_neg (de_int))) (dss_one (ds_ret (de_bl))) (dss_nil))))))))) (dss_one (ds_ret (de_and (de_eq hr.units (de_var 1) (de_int)) (de_one (de_cmp op_le dop_le (de_callB (cr_maxT rfl) dc_max1 (by rfl) (T.free "max" (by decide)) (by decide +kernel) (da_cons (de_var 0) (da_nil))) (de_globE (by rfl) T.c_MAX_VARIABLE))))))))) goal_is_term
theorem ok__law_dice (T : Tx K mg fs fds) : FnOk P w K mg base CX0 1 (fs 8) (fds 8) ["script", "at"] (SpD K 2 pre__law_dice post__law_dice) :=
  fn_d (N := ["script", "at", "cell", "great", "left", "mixed"]) (wb := w__law_dice) (T.def_ 8 (by decide)) sc__law_dice rfl (by decide) (fun cdv A outer s H E hr => dss_cons (ds_set (i := 2) sc__law_dice.nd rfl (.inl rfl) (de_add (de_mul (de_int) (de_var 1)) (de_int))) (dss_cons (ds_if (dt_cmp op_lt dop_lt (de_var 1) (de_callB call_len_seq dc_len (by rfl) (T.free "len" (by decide)) (by decide +kernel) (da_cons (de_var 0) (da_nil)))) (dss_one (ds_set (i := 2) sc__law_dice.nd rfl (.inl rfl) (de_item (de_var 0) (de_var 1)))) (dss_nil)) (dss_cons (ds_set (i := 3) sc__law_dice.nd rfl (.inl rfl) (de_mod (de_callTy call_int1 dc_int (by rfl) (T.free "int" (by decide)) (by decide +kernel) (da_cons (de_callB call_abs dc_abs (by rfl) (T.free "abs" (by decide)) (by decide +kernel) (da_cons (de_var 2) (da_nil))) (da_nil))) (de_powW (de_powW (de_int) (de_int)) (de_int)))) (dss_cons (ds_set (i := 4) sc__law_dice.nd rfl (.inl rfl) (de_fdivW (de_var 3) (de_powW (de_int) (de_int)))) (dss_cons (ds_set (i := 5) sc__law_dice.nd rfl (.inl rfl) (de_add (de_add (de_add (de_mul (de_mod (de_var 3) (de_int)) (de_int)) (de_mul (de_int) (de_var 1))) (de_mul (de_int) (de_callTy call_int1 dc_int (by rfl) (T.free "int" (by decide)) (by decide +kernel) (da_cons (de_cmp op_lt dop_lt (de_var 2) (de_int)) (da_nil))))) (de_int))) (dss_one (ds_ret (de_lst (da_cons (de_var 4) (da_cons (de_mod (de_var 5) (de_int)) (da_cons (de_int) (da_nil)))))))))))) goal__law_dice
theorem at0 {x y z : V} : atI [x, y, z] 0 = some x := rfl
theorem at1 {x y z : V} : atI [x, y, z] 1 = some y := rfl
theorem at2 {x y z : V} : atI [x, y, z] 2 = some z := rfl
theorem ok__law_roll (T : Tx K mg fs fds) : FnOk P w K mg base CX0 1 (fs 9) (fds 9) ["dice", "total"] (SpD K 2 pre__law_roll post__law_roll) := by
  have mi : mg "int" = none := T.free "int" (by decide)
  refine (T.def_ 9 (by decide)).ok sc__law_roll (fun vs H Q E h => ?_) (fun cdv A outer s H vs Q E hr h => ?_)
  · obtain ⟨J, B, xs, hl, ha, _⟩ := h
    rw [ha.len, hl]
    rfl
  · obtain ⟨J, B, xs, hl, ha, hs, ow, hp, q⟩ := h
    unfold pre__law_roll at hp
    split at hp
    case h_2 => exact hp.elim
    rename_i n
    obtain ⟨v, r, rfl, ⟨a, rfl, rfl⟩, v2, r2, rfl, h2, h3⟩ := ha
    cases (show r2 = [] from h3)
    have h2 : Rep K B (.int n) v2 := h2
    rw [Rep] at h2
    subst h2
    obtain ⟨hB, l, m, c, h0, hH⟩ := ow a rfl
    refine ⟨_, PSs.nox (pss_cons (ps_set (i := 2) sc__law_roll.nd rfl (.inl rfl) (pe_callTy call_int1 (by rfl) mi boot_int (pa_cons (pv 1) pa_nil)))
      (pss_cons (ps_if (pt_cmpR op_gt (pe_ix ix_list (pv 0) pe_int (fun _ _ => rfl)) pe_int (nomark _))
          (pss_cons (ps_set (i := 3) sc__law_roll.nd rfl (.inl rfl) (pe_op op_mod (pe_ix ix_list (pv 0) pe_int (fun _ _ => rfl)) (pv 2)))
          (pss_cons (ps_asg (pe_op op_fdivW (pe_ix ix_list (pv 0) pe_int (fun _ _ => rfl)) (pv 2)) (pg_sub (pv 0) pe_int set_list))
          (pss_one (ps_ret (pe_callTy call_int1 (by rfl) mi boot_int (pa_cons (pv 3) pa_nil)))))) pss_nil)
      (pss_cons (ps_asg (pe_op op_add (pe_ix ix_list (pv 0) pe_int (fun _ _ => rfl)) pe_int) (pg_sub (pv 0) pe_int set_list))
      (pss_cons (ps_set (i := 4) sc__law_roll.nd rfl (.inl rfl) (pe_op op_mod (pe_op op_add (pe_ix ix_list (pv 0) pe_int (fun _ _ => rfl)) (pe_op op_mul pe_int (pe_ix ix_list (pv 0) pe_int (fun _ _ => rfl)))) pe_int))
      (pss_cons (ps_set (i := 5) sc__law_roll.nd rfl (.inl rfl) (pe_op op_add (pe_op op_mul (pe_op op_mod (pe_op op_mul (pv 4) (pv 4)) pe_int) (pv 4)) (pe_op op_mul pe_int (pe_ix ix_list (pv 0) pe_int (fun _ _ => rfl)))))
      (pss_cons (ps_set (i := 5) sc__law_roll.nd rfl (.inl rfl) (pe_op op_mod (pv 5) pe_int))
      (pss_one (ps_ret (pe_callTy call_int1 (by rfl) mi boot_int (pa_cons (pe_op op_mod (pe_op op_fdiv (pv 5) pe_int) (pv 2)) pa_nil)))))))))), ?_⟩
    refine ⟨_, rfl, .inl ⟨n, rfl, ?_⟩⟩
    refine ⟨_, rfl, a, _, 0, _, rfl, rfl, SqL.of hH, at0, l, 0, rfl, rfl, _, rfl, ?_⟩
    by_cases hl : 0 < l
    · rw [decide_eq_true hl]
      refine iteT ?_
      refine ⟨_, rfl, a, _, 0, _, rfl, rfl, SqL.of hH, at0, _, rfl, l, n, rfl, rfl, hp.1, ?_⟩
      refine ⟨_, rfl, a, _, 0, _, rfl, rfl, SqL.of hH, at0, _, rfl, l, n, rfl, rfl, wide_div hp.1 (b := 30) (by omega) (by omega) (by omega), ?_⟩
      refine ⟨_, rfl, a, _, 0, 0, rfl, rfl, hH, rfl, ?_⟩
      refine ⟨_, rfl, .inl ⟨_, rfl, ?_⟩⟩
      refine q (.c (.int (l % n))) _ B _ ⟨_, Int.emod_nonneg _ (by omega), Int.emod_lt_of_pos _ hp.1, rfl⟩ (.dice hs hB) (.dice hB (Int.ediv_nonneg h0 (by omega))) ?_
      show Rep _ _ _ _
      rw [Rep]
    · rw [decide_eq_false hl]
      refine iteF ?_
      refine ⟨_, rfl, a, _, 2, _, rfl, rfl, SqL.of hH, at2, c, 1, rfl, rfl, ?_⟩
      refine ⟨_, rfl, a, _, 2, 2, rfl, rfl, hH, rfl, ?_⟩
      have hH2 : upd H a (.lst [.int l, .int m, .int (c + 1)]) a = some (.lst [.int l, .int m, .int (c + 1)]) := upd_same
      refine ⟨_, rfl, a, _, 1, _, rfl, rfl, SqL.of hH2, at1, ?_⟩
      refine ⟨_, rfl, a, _, 2, _, rfl, rfl, SqL.of hH2, at2, 1000403, c + 1, rfl, rfl, .inl ⟨by decide, by decide⟩, m, _, rfl, rfl, _, _, rfl, rfl, (by decide : (0 : Int) < 2305843009213693951), ?_⟩
      have b1 : ∀ x : Int, 0 ≤ x % 2305843009213693951 ∧ x % 2305843009213693951 < 2305843009213693951 := fun x => ⟨Int.emod_nonneg _ (by decide), Int.emod_lt_of_pos _ (by decide)⟩
      refine ⟨_, rfl, _, rfl, _, _, rfl, rfl, .inl ⟨by have := (b1 (m + 1000403 * (c + 1))).1; omega, by have := (b1 (m + 1000403 * (c + 1))).2; omega⟩, _, _, rfl, rfl, (by decide : (0 : Int) < 2305843009213693921), ?_⟩
      refine ⟨_, rfl, _, _, rfl, rfl, .inr ⟨by have := (b1 (m + 1000403 * (c + 1))).1; omega, by have := (b1 (m + 1000403 * (c + 1))).2; omega⟩, ?_⟩
      refine ⟨_, rfl, a, _, 2, _, rfl, rfl, SqL.of hH2, at2, 9521, c + 1, rfl, rfl, .inl ⟨by decide, by decide⟩, _, _, rfl, rfl, ?_⟩
      refine ⟨_, rfl, _, _, rfl, rfl, (by decide : (0 : Int) < 2305843009213693907), ?_⟩
      refine ⟨_, rfl, _, _, rfl, rfl, ⟨by decide, by decide⟩, ?_⟩
      refine ⟨_, rfl, _, _, rfl, rfl, hp.1, ?_⟩
      refine .inl ⟨_, rfl, ?_⟩
      have fin : ∀ z : Int, Q (.int (z % n)) (upd H a (.lst [.int l, .int m, .int (c + 1)])) := fun z => by
        refine q (.c (.int (z % n))) _ B _ ⟨z % n, Int.emod_nonneg _ (by omega), Int.emod_lt_of_pos _ hp.1, rfl⟩ (.dice hs hB) (.dice hB h0) ?_
        show Rep _ _ _ _
        rw [Rep]
      exact fin _
theorem ok__law_ends (T : Tx K mg fs fds) : FnOk P w K mg base CX0 1 (fs 10) (fds 10) ["term"] (SpD K 1 pre__law_ends post__law_ends) :=
  fn_d (N := ["term", "found", "at"]) (wb := w__law_ends) (T.def_ 10 (by decide)) sc__law_ends rfl (by decide) (fun cdv A outer s H E hr => dss_cons (ds_set (i := 1) sc__law_ends.nd rfl (.inl rfl) (de_mul (de_lst (da_cons (de_int) (da_nil))) (de_callB call_len_seq dc_len (by rfl) (T.free "len" (by decide)) (by decide +kernel) (da_cons (de_var 0) (da_nil))))) (dss_cons (ds_forRd PassesOwn.never rfl (by rfl) (T.free "range" (by decide)) (da_cons (de_sub (de_callB call_len_seq dc_len (by rfl) (T.free "len" (by decide)) (by decide +kernel) (da_cons (de_var 0) (da_nil))) (de_int)) (da_cons (de_neg (de_int)) (da_cons (de_neg (de_int)) (da_nil)))) (dg_name (i := 2) sc__law_ends.nd rfl (.inl rfl)) (dss_one (ds_if (dt_cmp op_gt dop_gt (de_item (de_var 0) (de_var 2)) (de_int)) (dss_one (ds_setI (i := 1) rfl (.inl rfl) (de_add (de_var 2) (de_int)) (de_var 2))) (dss_one (ds_if (dt_cmp op_lt dop_lt (de_item (de_var 0) (de_var 2)) (de_int)) (dss_one (ds_setI (i := 1) rfl (.inl rfl) (de_item (de_var 1) (de_add (de_var 2) (de_int))) (de_var 2))) (dss_one (ds_setI (i := 1) rfl (.inl rfl) (de_item (de_var 1) (de_item (de_var 1) (de_add (de_var 2) (de_int)))) (de_var 2)))))))) (dss_one (ds_ret (de_var 1))))) goal__law_ends
theorem ok__law_is_term (T : Tx K mg fs fds) : FnOk P w K mg base CX0 1 (fs 12) (fds 12) ["value"] (SpD K 1 pre__law_is_term post__law_is_term) :=
  fn_d (N := ["value", "due", "code"]) (wb := w__law_is_term) (T.def_ 12 (by decide)) sc__law_is_term rfl (by decide) (fun cdv A outer s H E hr => dss_cons (ds_if ((dw_or (dt_not (dt_val (de_callB call_isi dc_isi (by rfl) (T.free "isinstance" (by decide)) (by decide +kernel) (da_cons (de_var 0) (da_cons (de_ty (by rfl) (T.free "tuple" (by decide)) (by decide +kernel)) (da_nil)))))) (dw_or1 (dt_not (dt_chain op_le op_le dop_le dop_le (de_int) (de_callB call_len_seq dc_len (by rfl) (T.free "len" (by decide)) (by decide +kernel) (da_cons (de_var 0) (da_nil))) (de_int))))).pt) (dss_one (ds_ret (de_bl))) (dss_nil)) (dss_cons (ds_set (i := 1) sc__law_is_term.nd rfl (.inl rfl) (de_int)) (dss_cons (ds_for PassesOwn.never rfl (de_var 0) (dg_name (i := 2) sc__law_is_term.nd rfl (.inl rfl)) (dss_cons (ds_if ((dw_or (dt_not (dt_val (de_callB call_isi dc_isi (by rfl) (T.free "isinstance" (by decide)) (by decide +kernel) (da_cons (de_var 2) (da_cons (de_ty (by rfl) (T.free "int" (by decide)) (by decide +kernel)) (da_nil)))))) (dw_or (dt_val (de_callB call_isi dc_isi (by rfl) (T.free "isinstance" (by decide)) (by decide +kernel) (da_cons (de_var 2) (da_cons (de_ty (by rfl) (T.free "bool" (by decide)) (by decide +kernel)) (da_nil))))) (dw_or (dt_not (dt_chain op_le op_le dop_le dop_le (de_neg (de_int)) (de_var 2) (de_int))) (dw_or1 (dt_eq hr.units (de_var 1) (de_int)))))).pt) (dss_one (ds_ret (de_bl))) (dss_nil)) (dss_cons (ds_if (dt_eq hr.units (de_var 2) (de_int)) (dss_one (ds_set (i := 1) sc__law_is_term.nd rfl (.inl rfl) (de_add (de_var 1) (de_int)))) (dss_nil)) (dss_one (ds_if (dt_cmp op_gt dop_gt (de_var 2) (de_int)) (dss_one (ds_set (i := 1) sc__law_is_term.nd rfl (.inl rfl) (de_sub (de_var 1) (de_int)))) (dss_nil)))))) (dss_one (ds_ret (de_eq hr.units (de_var 1) (de_int))))))) goal__law_is_term
theorem ok_is_whole_within (T : Tx K mg fs fds) : FnOk P w K mg base CX0 2 (fs 1) (fds 1) ["value", "least", "most"] (SpD K 3 pre_is_whole_within post_is_whole_within) :=
  fn_d (N := ["value", "least", "most"]) (wb := w_is_whole_within) (T.def_ 1 (by decide)) sc_is_whole_within rfl (by decide) (fun cdv A outer s H E hr => dss_one (ds_ret (de_and (de_call (ok_is_whole T) (hr.mono (by decide)) (by rfl) (T.glo 0 (by decide)) (T.def_ 0 (by decide)).kp (b_is_whole T) pass0 (da_cons (de_var 0) (da_nil))) (de_one (de_chain op_le op_le dop_le dop_le (de_var 1) (de_var 0) (de_var 2)))))) goal_is_whole_within
theorem ok_check_term (T : Tx K mg fs fds) : FnOk P w K mg base CX0 2 (fs 4) (fds 4) ["term"] (SpD K 1 pre_check_term post_check_term) :=
  fn_d (N := ["term"]) (wb := w_check_term) (T.def_ 4 (by decide)) sc_check_term rfl (by decide) (fun cdv A outer s H E hr => dss_one (ds_if (dt_not (dt_val (de_call (ok_is_term T) (hr.mono (by decide)) (by rfl) (T.glo 3 (by decide)) (T.def_ 3 (by decide)).kp (b_is_term T) pass0 (da_cons (de_var 0) (da_nil))))) (dss_one (ds_never)) (dss_nil))) goal_check_term
theorem ok__law_term_drawn (T : Tx K mg fs fds) : FnOk P w K mg base CX0 2 (fs 11) (fds 11) ["dice", "size", "open_count"] (SpD K 3 pre__law_term_drawn post__law_term_drawn) :=
  fn_d (N := ["dice", "size", "open_count", "found", "todo", "left", "depth", "known", "inner"]) (wb := w__law_term_drawn) (T.def_ 11 (by decide)) sc__law_term_drawn rfl (by decide) (fun cdv A outer s H E hr => dss_cons (ds_par (i := 3) (j := 4) rfl sc__law_term_drawn.nd rfl rfl (by decide) rfl rfl (da_cons (de_lst (da_nil)) (da_cons (de_lst (da_cons (de_tup (da_cons (de_var 1) (da_cons (de_int) (da_nil)))) (da_nil))) (da_nil)))) (dss_cons (ds_while PassesOwn.never (dt_ne hr.units (de_var 4) (de_lst (da_nil))) (dss_cons (ds_pop (i := 4) rfl (.inl rfl) (dg_tup (n := 2) rfl (dgs_cons (dg_name (i := 5) sc__law_term_drawn.nd rfl (.inl rfl)) (dgs_cons (dg_name (i := 6) sc__law_term_drawn.nd rfl (.inl rfl)) (dgs_nil))))) (dss_cons (ds_set (i := 7) sc__law_term_drawn.nd rfl (.inl rfl) (de_add (de_var 6) (de_var 2))) (dss_one (ds_if ((dw_and (dt_cmp op_le dop_le (de_var 5) (de_int)) (dw_and1 (dt_cmp op_gt dop_gt (de_var 7) (de_int)))).pt) (dss_one (ds_append (i := 3) rfl (.inl rfl) (de_add (de_int) (de_callB (call_min2 rfl) dc_min (by rfl) (T.free "min" (by decide)) (by decide +kernel) (da_cons (de_call (ok__law_roll T) (hr.mono (by decide)) (by rfl) (T.glo 9 (by decide)) (T.def_ 9 (by decide)).kp (b__law_roll T) pass0 (da_cons (de_var 0) (da_cons (de_var 7) (da_nil)))) (da_cons (de_call (ok__law_roll T) (hr.mono (by decide)) (by rfl) (T.glo 9 (by decide)) (T.def_ 9 (by decide)).kp (b__law_roll T) pass0 (da_cons (de_var 0) (da_cons (de_var 7) (da_nil)))) (da_nil))))))) (dss_one (ds_if ((dw_or (dt_cmp op_le dop_le (de_var 5) (de_int)) (dw_or1 ((dw_and (dt_eq hr.units (de_var 7) (de_int)) (dw_and1 (dt_cmp op_lt dop_lt (de_var 5) (de_int)))).pt))).pt) (dss_cons (ds_append (i := 3) rfl (.inl rfl) (de_neg (de_int))) (dss_one (ds_append (i := 4) rfl (.inl rfl) (de_tup (da_cons (de_sub (de_var 5) (de_int)) (da_cons (de_add (de_var 6) (de_int)) (da_nil))))))) (dss_one (ds_if ((dw_and (dt_cmp op_ge dop_ge (de_var 5) (de_int)) (dw_and1 (dt_cmp op_lt dop_lt (de_call (ok__law_roll T) (hr.mono (by decide)) (by rfl) (T.glo 9 (by decide)) (T.def_ 9 (by decide)).kp (b__law_roll T) pass0 (da_cons (de_var 0) (da_cons (de_int) (da_nil)))) (de_int)))).pt) (dss_cons (ds_set (i := 8) sc__law_term_drawn.nd rfl (.inl rfl) (de_add (de_int) (de_call (ok__law_roll T) (hr.mono (by decide)) (by rfl) (T.glo 9 (by decide)) (T.def_ 9 (by decide)).kp (b__law_roll T) pass0 (da_cons (de_var 0) (da_cons (de_sub (de_var 5) (de_int)) (da_nil)))))) (dss_cons (ds_extend (i := 3) rfl (.inl rfl) (de_lst (da_cons (de_int) (da_cons (de_neg (de_int)) (da_nil))))) (dss_one (ds_extend (i := 4) rfl (.inl rfl) (de_lst (da_cons (de_tup (da_cons (de_sub (de_sub (de_var 5) (de_int)) (de_var 8)) (da_cons (de_var 6) (da_nil)))) (da_cons (de_tup (da_cons (de_var 8) (da_cons (de_add (de_var 6) (de_int)) (da_nil)))) (da_nil)))))))) (dss_one (ds_if (dt_eq hr.units (de_call (ok__law_roll T) (hr.mono (by decide)) (by rfl) (T.glo 9 (by decide)) (T.def_ 9 (by decide)).kp (b__law_roll T) pass0 (da_cons (de_var 0) (da_cons (de_int) (da_nil)))) (de_int)) (dss_cons (ds_append (i := 3) rfl (.inl rfl) (de_neg (de_int))) (dss_one (ds_append (i := 4) rfl (.inl rfl) (de_tup (da_cons (de_sub (de_var 5) (de_int)) (da_cons (de_add (de_var 6) (de_int)) (da_nil))))))) (dss_cons (ds_set (i := 8) sc__law_term_drawn.nd rfl (.inl rfl) (de_add (de_int) (de_call (ok__law_roll T) (hr.mono (by decide)) (by rfl) (T.glo 9 (by decide)) (T.def_ 9 (by decide)).kp (b__law_roll T) pass0 (da_cons (de_var 0) (da_cons (de_sub (de_var 5) (de_int)) (da_nil)))))) (dss_cons (ds_append (i := 3) rfl (.inl rfl) (de_int)) (dss_one (ds_extend (i := 4) rfl (.inl rfl) (de_lst (da_cons (de_tup (da_cons (de_sub (de_sub (de_var 5) (de_int)) (de_var 8)) (da_cons (de_var 6) (da_nil)))) (da_cons (de_tup (da_cons (de_var 8) (da_cons (de_var 6) (da_nil)))) (da_nil))))))))))))))))))) (dss_one (ds_ret (de_callTy call_tuple_of dc_tuple (by rfl) (T.free "tuple" (by decide)) (by decide +kernel) (da_cons (de_var 3) (da_nil))))))) goal__law_term_drawn
theorem ok__law_near_values (T : Tx K mg fs fds) : FnOk P w K mg base CX0 2 (fs 13) (fds 13) ["dice", "term"] (SpD K 2 pre__law_near_values post__law_near_values) :=
  fn_d (N := ["dice", "term", "at", "found", "code"]) (wb := w__law_near_values) (T.def_ 13 (by decide)) sc__law_near_values rfl (by decide) (fun cdv A outer s H E hr => dss_cons (ds_par (i := 2) (j := 3) rfl sc__law_near_values.nd rfl rfl (by decide) rfl rfl (da_cons (de_call (ok__law_roll T) (hr.mono (by decide)) (by rfl) (T.glo 9 (by decide)) (T.def_ 9 (by decide)).kp (b__law_roll T) pass0 (da_cons (de_var 0) (da_cons (de_callB call_len_seq dc_len (by rfl) (T.free "len" (by decide)) (by decide +kernel) (da_cons (de_var 1) (da_nil))) (da_nil)))) (da_cons (de_lst (da_cons (de_var 1) (da_cons (de_callTy call_list_of dc_list (by rfl) (T.free "list" (by decide)) (by decide +kernel) (da_cons (de_var 1) (da_nil))) (da_cons (de_tup (da_cons (de_var 1) (da_nil))) (da_cons (de_slice (de_var 1) (do_some (de_int)) (do_none)) (da_cons (de_slice (de_var 1) (do_none) (do_some (de_neg (de_int)))) (da_cons (de_add (de_var 1) (de_tup (da_cons (de_int) (da_nil)))) (da_cons (de_add (de_tup (da_cons (de_int) (da_nil))) (de_var 1)) (da_nil))))))))) (da_nil)))) (dss_cons (ds_for PassesOwn.never rfl (de_tup (da_cons (de_neg (de_int)) (da_cons (de_neg (de_int)) (da_cons (de_int) (da_cons (de_int) (da_cons (de_int) (da_cons (de_int) (da_cons (de_bl) (da_cons (de_bl) (da_cons (de_non) (da_cons (de_str) (da_cons (de_powW (de_int) (de_int)) (da_cons (de_tup (da_cons (de_int) (da_nil))) (da_cons (de_add (de_int) (de_call (ok__law_roll T) (hr.mono (by decide)) (by rfl) (T.glo 9 (by decide)) (T.def_ 9 (by decide)).kp (b__law_roll T) pass0 (da_cons (de_var 0) (da_cons (de_int) (da_nil))))) (da_nil))))))))))))))) (dg_name (i := 4) sc__law_near_values.nd rfl (.inl rfl)) (dss_one (ds_append (i := 3) rfl (.inl rfl) (de_add (de_add (de_slice (de_var 1) (do_none) (do_some (de_var 2))) (de_tup (da_cons (de_var 4) (da_nil)))) (de_slice (de_var 1) (do_some (de_add (de_var 2) (de_int))) (do_none)))))) (dss_cons (ds_set (i := 3) sc__law_near_values.nd rfl (.inl rfl) (de_add (de_var 3) (de_lst (da_cons (de_add (de_slice (de_var 1) (do_none) (do_some (de_var 2))) (de_slice (de_var 1) (do_some (de_add (de_var 2) (de_int))) (do_none))) (da_cons (de_add (de_add (de_slice (de_var 1) (do_none) (do_some (de_var 2))) (de_tup (da_cons (de_int) (da_nil)))) (de_slice (de_var 1) (do_some (de_var 2)) (do_none))) (da_cons (de_add (de_tup (da_cons (de_neg (de_int)) (da_nil))) (de_var 1)) (da_cons (de_add (de_var 1) (de_var 1)) (da_nil)))))))) (dss_cons (ds_append (i := 3) rfl (.inl rfl) (de_add (de_add (de_tup (da_cons (de_int) (da_nil))) (de_var 1)) (de_var 1))) (dss_one (ds_ret (de_add (de_var 3) (de_lst (da_cons (de_tup (da_nil)) (da_cons (de_non) (da_cons (de_int) (da_cons (de_str) (da_cons (de_emp) (da_cons (de_lst (da_nil)) (da_cons (de_tup (da_cons (de_int) (da_nil))) (da_cons (de_tup (da_cons (de_neg (de_int)) (da_nil))) (da_cons (de_tup (da_cons (de_int) (da_nil))) (da_cons (de_tup (da_cons (de_int) (da_cons (de_int) (da_nil)))) (da_nil))))))))))))))))))) goal__law_near_values
theorem ok__law_long_values (T : Tx K mg fs fds) : FnOk P w K mg base CX0 2 (fs 14) (fds 14) ["dice"] (SpD K 1 pre__law_long_values post__law_long_values) :=
  fn_d (N := ["dice", "more", "found"]) (wb := w__law_long_values) (T.def_ 14 (by decide)) sc__law_long_values rfl (by decide) (fun cdv A outer s H E hr => dss_cons (ds_set (i := 1) sc__law_long_values.nd rfl (.inl rfl) (de_add (de_int) (de_call (ok__law_roll T) (hr.mono (by decide)) (by rfl) (T.glo 9 (by decide)) (T.def_ 9 (by decide)).kp (b__law_roll T) pass0 (da_cons (de_var 0) (da_cons (de_int) (da_nil)))))) (dss_cons (ds_set (i := 2) sc__law_long_values.nd rfl (.inl rfl) (de_lst (da_cons (de_add (de_mul (de_tup (da_cons (de_neg (de_int)) (da_nil))) (de_var 1)) (de_tup (da_cons (de_int) (da_nil)))) (da_cons (de_add (de_mul (de_tup (da_cons (de_int) (da_nil))) (de_fdivW (de_var 1) (de_int))) (de_mul (de_tup (da_cons (de_int) (da_nil))) (de_add (de_fdivW (de_var 1) (de_int)) (de_int)))) (da_nil))))) (dss_cons (ds_append (i := 2) rfl (.inl rfl) (de_add (de_mul (de_tup (da_cons (de_int) (da_cons (de_neg (de_int)) (da_nil)))) (de_fdivW (de_var 1) (de_int))) (de_mul (de_tup (da_cons (de_int) (da_nil))) (de_add (de_fdivW (de_var 1) (de_int)) (de_int))))) (dss_one (ds_ret (de_add (de_var 2) (de_lst (da_cons (de_add (de_mul (de_tup (da_cons (de_int) (da_cons (de_int) (da_nil)))) (de_int)) (de_tup (da_cons (de_int) (da_nil)))) (da_cons (de_add (de_mul (de_tup (da_cons (de_int) (da_cons (de_int) (da_nil)))) (de_int)) (de_tup (da_cons (de_int) (da_nil)))) (da_cons (de_add (de_mul (de_tup (da_cons (de_int) (da_cons (de_neg (de_int)) (da_cons (de_int) (da_nil))))) (de_int)) (de_tup (da_cons (de_int) (da_nil)))) (da_cons (de_add (de_mul (de_tup (da_cons (de_int) (da_cons (de_neg (de_int)) (da_cons (de_int) (da_nil))))) (de_int)) (de_tup (da_cons (de_neg (de_int)) (da_cons (de_int) (da_nil))))) (da_nil)))))))))))) goal__law_long_values
theorem ok_check_place (T : Tx K mg fs fds) : FnOk P w K mg base CX0 3 (fs 5) (fds 5) ["term", "place"] (SpD K 2 pre_check_place post_check_place) :=
  fn_d (N := ["term", "place"]) (wb := w_check_place) (T.def_ 5 (by decide)) sc_check_place rfl (by decide) (fun cdv A outer s H E hr => dss_one (ds_if (dt_not (dt_val (de_call (ok_is_whole_within T) (hr.mono (by decide)) (by rfl) (T.glo 1 (by decide)) (T.def_ 1 (by decide)).kp (b_is_whole_within T) pass0 (da_cons (de_var 1) (da_cons (de_int) (da_cons (de_sub (de_callB call_len_seq dc_len (by rfl) (T.free "len" (by decide)) (by decide +kernel) (da_cons (de_var 0) (da_nil))) (de_int)) (da_nil))))))) (dss_one (ds_never)) (dss_nil))) goal_check_place
theorem ok_part_end (T : Tx K mg fs fds) : FnOk P w K mg base CX0 4 (fs 6) (fds 6) ["term", "place"] (SpD K 2 pre_part_end post_part_end) :=
  fn_d (N := ["term", "place"]) (wb := w_part_end) (T.def_ 6 (by decide)) sc_part_end rfl (by decide) (fun cdv A outer s H E hr => dss_cons (ds_drop (de_call (ok_check_term T) (hr.mono (by decide)) (by rfl) (T.glo 4 (by decide)) (T.def_ 4 (by decide)).kp (b_check_term T) pass0 (da_cons (de_var 0) (da_nil)))) (dss_cons (ds_drop (de_call (ok_check_place T) (hr.mono (by decide)) (by rfl) (T.glo 5 (by decide)) (T.def_ 5 (by decide)).kp (b_check_place T) pass0 (da_cons (de_var 0) (da_cons (de_var 1) (da_nil))))) (dss_one (ds_ret (de_call (ok_end_behind T) (hr.mono (by decide)) (by rfl) (T.glo 2 (by decide)) (T.def_ 2 (by decide)).kp (b_end_behind T) pass0 (da_cons (de_var 0) (da_cons (de_var 1) (da_nil)))))))) goal_part_end
theorem ok_part_of (T : Tx K mg fs fds) : FnOk P w K mg base CX0 4 (fs 7) (fds 7) ["term", "place"] (SpD K 2 pre_part_of post_part_of) :=
  fn_d (N := ["term", "place"]) (wb := w_part_of) (T.def_ 7 (by decide)) sc_part_of rfl (by decide) (fun cdv A outer s H E hr => dss_cons (ds_drop (de_call (ok_check_term T) (hr.mono (by decide)) (by rfl) (T.glo 4 (by decide)) (T.def_ 4 (by decide)).kp (b_check_term T) pass0 (da_cons (de_var 0) (da_nil)))) (dss_cons (ds_drop (de_call (ok_check_place T) (hr.mono (by decide)) (by rfl) (T.glo 5 (by decide)) (T.def_ 5 (by decide)).kp (b_check_place T) pass0 (da_cons (de_var 0) (da_cons (de_var 1) (da_nil))))) (dss_one (ds_ret (de_slice (de_var 0) (do_some (de_var 1)) (do_some (de_call (ok_end_behind T) (hr.mono (by decide)) (by rfl) (T.glo 2 (by decide)) (T.def_ 2 (by decide)).kp (b_end_behind T) pass0 (da_cons (de_var 0) (da_cons (de_var 1) (da_nil)))))))))) goal_part_of
theorem ok__law_right (T : Tx K mg fs fds) : FnOk P w K mg base CX0 5 (fs 15) (fds 15) ["dice"] (SpD K 1 pre__law_right post__law_right) :=
  fn_d (N := ["dice", "term", "value", "ends", "turn", "place", "part", "inner"]) (wb := w__law_right) (T.def_ 15 (by decide)) sc__law_right rfl (by decide) (fun cdv A outer s H E hr => dss_cons (ds_set (i := 1) sc__law_right.nd rfl (.inl rfl) (de_call (ok__law_term_drawn T) (hr.mono (by decide)) (by rfl) (T.glo 11 (by decide)) (T.def_ 11 (by decide)).kp (b__law_term_drawn T) pass0 (da_cons (de_var 0) (da_cons (de_add (de_int) (de_call (ok__law_roll T) (hr.mono (by decide)) (by rfl) (T.glo 9 (by decide)) (T.def_ 9 (by decide)).kp (b__law_roll T) pass0 (da_cons (de_var 0) (da_cons (de_int) (da_nil))))) (da_cons (de_add (de_int) (de_call (ok__law_roll T) (hr.mono (by decide)) (by rfl) (T.glo 9 (by decide)) (T.def_ 9 (by decide)).kp (b__law_roll T) pass0 (da_cons (de_var 0) (da_cons (de_int) (da_nil))))) (da_nil)))))) (dss_cons (ds_for PassesOwn.never rfl (de_add (de_call (ok__law_near_values T) (hr.mono (by decide)) (by rfl) (T.glo 13 (by decide)) (T.def_ 13 (by decide)).kp (b__law_near_values T) pass0 (da_cons (de_var 0) (da_cons (de_var 1) (da_nil)))) (de_call (ok__law_long_values T) (hr.mono (by decide)) (by rfl) (T.glo 14 (by decide)) (T.def_ 14 (by decide)).kp (b__law_long_values T) pass0 (da_cons (de_var 0) (da_nil)))) (dg_name (i := 2) sc__law_right.nd rfl (.inl rfl)) (dss_one (ds_if (dt_ne hr.units (de_call (ok_is_term T) (hr.mono (by decide)) (by rfl) (T.glo 3 (by decide)) (T.def_ 3 (by decide)).kp (b_is_term T) pass0 (da_cons (de_var 2) (da_nil))) (de_call (ok__law_is_term T) (hr.mono (by decide)) (by rfl) (T.glo 12 (by decide)) (T.def_ 12 (by decide)).kp (b__law_is_term T) pass0 (da_cons (de_var 2) (da_nil)))) (dss_one (ds_ret (de_bl))) (dss_nil)))) (dss_cons (ds_set (i := 3) sc__law_right.nd rfl (.inl rfl) (de_call (ok__law_ends T) (hr.mono (by decide)) (by rfl) (T.glo 10 (by decide)) (T.def_ 10 (by decide)).kp (b__law_ends T) pass0 (da_cons (de_var 1) (da_nil)))) (dss_cons (ds_forR1 PassesOwn.never rfl (by rfl) (T.free "range" (by decide)) (da_cons (de_int) (da_nil)) (dg_name (i := 4) sc__law_right.nd rfl (.inl rfl)) (dss_cons (ds_set (i := 5) sc__law_right.nd rfl (.inl rfl) (de_call (ok__law_roll T) (hr.mono (by decide)) (by rfl) (T.glo 9 (by decide)) (T.def_ 9 (by decide)).kp (b__law_roll T) pass0 (da_cons (de_var 0) (da_cons (de_callB call_len_seq dc_len (by rfl) (T.free "len" (by decide)) (by decide +kernel) (da_cons (de_var 1) (da_nil))) (da_nil))))) (dss_cons (ds_set (i := 6) sc__law_right.nd rfl (.inl rfl) (de_call (ok_part_of T) (hr.mono (by decide)) (by rfl) (T.glo 7 (by decide)) (T.def_ 7 (by decide)).kp (b_part_of T) pass0 (da_cons (de_var 1) (da_cons (de_var 5) (da_nil))))) (dss_cons (ds_if ((dw_or (dt_ne hr.units (de_call (ok_part_end T) (hr.mono (by decide)) (by rfl) (T.glo 6 (by decide)) (T.def_ 6 (by decide)).kp (b_part_end T) pass0 (da_cons (de_var 1) (da_cons (de_var 5) (da_nil)))) (de_item (de_var 3) (de_var 5))) (dw_or (dt_ne hr.units (de_var 6) (de_slice (de_var 1) (do_some (de_var 5)) (do_some (de_item (de_var 3) (de_var 5))))) (dw_or1 (dt_not (dt_val (de_call (ok_is_term T) (hr.mono (by decide)) (by rfl) (T.glo 3 (by decide)) (T.def_ 3 (by decide)).kp (b_is_term T) pass0 (da_cons (de_var 6) (da_nil)))))))).pt) (dss_one (ds_ret (de_bl))) (dss_nil)) (dss_cons (ds_set (i := 7) sc__law_right.nd rfl (.inl rfl) (de_sub (de_sub (de_add (de_var 5) (de_callB call_len_seq dc_len (by rfl) (T.free "len" (by decide)) (by decide +kernel) (da_cons (de_var 6) (da_nil)))) (de_int)) (de_call (ok__law_roll T) (hr.mono (by decide)) (by rfl) (T.glo 9 (by decide)) (T.def_ 9 (by decide)).kp (b__law_roll T) pass0 (da_cons (de_var 0) (da_cons (de_callB call_len_seq dc_len (by rfl) (T.free "len" (by decide)) (by decide +kernel) (da_cons (de_var 6) (da_nil))) (da_nil)))))) (dss_cons (ds_if (dt_not (dt_chainI3 op_le op_lt op_le (de_var 5) (de_var 7) (de_call (ok_part_end T) (hr.mono (by decide)) (by rfl) (T.glo 6 (by decide)) (T.def_ 6 (by decide)).kp (b_part_end T) pass0 (da_cons (de_var 1) (da_cons (de_var 7) (da_nil)))) (de_item (de_var 3) (de_var 5)))) (dss_one (ds_ret (de_bl))) (dss_nil)) (dss_one (ds_if (dt_ne hr.units (de_call (ok_part_of T) (hr.mono (by decide)) (by rfl) (T.glo 7 (by decide)) (T.def_ 7 (by decide)).kp (b_part_of T) pass0 (da_cons (de_var 6) (da_cons (de_sub (de_var 7) (de_var 5)) (da_nil)))) (de_call (ok_part_of T) (hr.mono (by decide)) (by rfl) (T.glo 7 (by decide)) (T.def_ 7 (by decide)).kp (b_part_of T) pass0 (da_cons (de_var 1) (da_cons (de_var 7) (da_nil))))) (dss_one (ds_ret (de_bl))) (dss_nil))))))))) (dss_one (ds_ret (de_eq hr.units (de_call (ok_part_of T) (hr.mono (by decide)) (by rfl) (T.glo 7 (by decide)) (T.def_ 7 (by decide)).kp (b_part_of T) pass0 (da_cons (de_var 1) (da_cons (de_int) (da_nil)))) (de_var 1)))))))) goal__law_right
theorem ok_law (T : Tx K mg fs fds) : FnOk P w K mg base CX0 6 (fs 16) (fds 16) ["script"] (SpD K 1 pre_law post_law) :=
  fn_d (N := ["script", "at", "twice", "told"]) (wb := w_law) (T.def_ 16 (by decide)) sc_law rfl (by decide) (fun cdv A outer s H E hr => dss_cons (ds_forR1 PassesOwn.never rfl (by rfl) (T.free "range" (by decide)) (da_cons (de_callB (call_max2 rfl) dc_max (by rfl) (T.free "max" (by decide)) (by decide +kernel) (da_cons (de_int) (da_cons (de_callB (call_min2 rfl) dc_min (by rfl) (T.free "min" (by decide)) (by decide +kernel) (da_cons (de_int) (da_cons (de_callB call_len_seq dc_len (by rfl) (T.free "len" (by decide)) (by decide +kernel) (da_cons (de_var 0) (da_nil))) (da_nil)))) (da_nil)))) (da_nil)) (dg_name (i := 1) sc_law.nd rfl (.inl rfl)) (dss_one (ds_if (dt_not (dt_val (de_callF (ok__law_right T) (hr.mono (by decide)) (by rfl) (T.glo 15 (by decide)) (T.def_ 15 (by decide)).kp (b__law_right T) pass0 (da_cons (de_call (ok__law_dice T) (hr.mono (by decide)) (by rfl) (T.glo 8 (by decide)) (T.def_ 8 (by decide)).kp (b__law_dice T) pass0 (da_cons (de_var 0) (da_cons (de_var 1) (da_nil)))) (da_nil))))) (dss_one (ds_ret (de_bl))) (dss_nil)))) (dss_cons (ds_set (i := 2) sc_law.nd rfl (.inl rfl) (de_tup (da_cons (de_int) (da_cons (de_neg (de_int)) (da_cons (de_int) (da_cons (de_int) (da_cons (de_int) (da_cons (de_int) (da_cons (de_neg (de_int)) (da_cons (de_int) (da_cons (de_neg (de_int)) (da_cons (de_int) (da_nil))))))))))))) (dss_cons (ds_set (i := 3) sc_law.nd rfl (.inl rfl) (de_lst (da_cons (de_call (ok_is_term T) (hr.mono (by decide)) (by rfl) (T.glo 3 (by decide)) (T.def_ 3 (by decide)).kp (b_is_term T) pass0 (da_cons (de_var 2) (da_nil))) (da_cons (de_call (ok_is_term T) (hr.mono (by decide)) (by rfl) (T.glo 3 (by decide)) (T.def_ 3 (by decide)).kp (b_is_term T) pass0 (da_cons (de_tup (da_cons (de_int) (da_cons (de_int) (da_nil)))) (da_nil))) (da_cons (de_call (ok_is_term T) (hr.mono (by decide)) (by rfl) (T.glo 3 (by decide)) (T.def_ 3 (by decide)).kp (b_is_term T) pass0 (da_cons (de_tup (da_cons (de_int) (da_cons (de_neg (de_int)) (da_cons (de_int) (da_cons (de_int) (da_nil)))))) (da_nil))) (da_cons (de_call (ok_part_end T) (hr.mono (by decide)) (by rfl) (T.glo 6 (by decide)) (T.def_ 6 (by decide)).kp (b_part_end T) pass0 (da_cons (de_var 2) (da_cons (de_int) (da_nil)))) (da_cons (de_call (ok_part_of T) (hr.mono (by decide)) (by rfl) (T.glo 7 (by decide)) (T.def_ 7 (by decide)).kp (b_part_of T) pass0 (da_cons (de_var 2) (da_cons (de_int) (da_nil)))) (da_nil)))))))) (dss_cons (ds_if ((dw_or (dt_ne hr.units (de_var 3) (de_lst (da_cons (de_bl) (da_cons (de_bl) (da_cons (de_bl) (da_cons (de_int) (da_cons (de_tup (da_cons (de_int) (da_cons (de_neg (de_int)) (da_cons (de_int) (da_cons (de_neg (de_int)) (da_cons (de_int) (da_nil))))))) (da_nil)))))))) (dw_or (dt_val (de_call (ok_is_term T) (hr.mono (by decide)) (by rfl) (T.glo 3 (by decide)) (T.def_ 3 (by decide)).kp (b_is_term T) pass0 (da_cons (de_tup (da_cons (de_int) (da_cons (de_int) (da_cons (de_int) (da_nil))))) (da_nil)))) (dw_or1 (dt_val (de_call (ok_is_term T) (hr.mono (by decide)) (by rfl) (T.glo 3 (by decide)) (T.def_ 3 (by decide)).kp (b_is_term T) pass0 (da_cons (de_tup (da_cons (de_neg (de_int)) (da_cons (de_int) (da_cons (de_int) (da_cons (de_int) (da_nil)))))) (da_nil))))))).pt) (dss_one (ds_ret (de_bl))) (dss_nil)) (dss_one (ds_ret (de_eq hr.units (de_tup (da_cons (de_globE (by rfl) T.c_MAX_PARTS) (da_cons (de_globE (by rfl) T.c_MAX_VARIABLE) (da_nil)))) (de_tup (da_cons (de_int) (da_cons (de_int) (da_nil))))))))))) goal_law
end

end Dl
namespace Dl
open PySem PySem.Spec PyProof.Rows L2 Km
theorem law_in {K : PySem.W.Frag} {H : Hp} {a : Addr} {ns : List Int} (hl : ns.length ≤ 63) (hS : SqL K H a (ns.map V.int)) : SpD K 1 pre_law post_law [.ref a] H (fun v _ => v = .bl true) (fun _ _ _ => False) := by
  refine ⟨none, H, [.val (.frl (ns.map .int))], rfl, ⟨_, _, rfl, ?_, rfl⟩, Same.refl H, fun _ z => (nomatch z), ⟨ns, rfl, hl⟩, fun r v B' H' po _ _ rr => ?_⟩
  · show Rep _ _ _ _
    rw [Rep]
    exact ⟨a, _, rfl, hS, reps_ints ns⟩
  · have po : r = .c (.bl true) := po
    subst po
    exact rv_bl rr
/-! ### the head: facts by names, the run of the top -/
def d_is_whole : He.DefD := ⟨("is_whole", none), "is_whole", "is_whole", defArgs s_is_whole, defBody s_is_whole, defScope s_is_whole, [], []⟩
def d_is_whole_within : He.DefD := ⟨("is_whole_within", none), "is_whole_within", "is_whole_within", defArgs s_is_whole_within, defBody s_is_whole_within, defScope s_is_whole_within, [], []⟩
def d_end_behind : He.DefD := ⟨("end_behind", none), "end_behind", "end_behind", defArgs s_end_behind, defBody s_end_behind, defScope s_end_behind, [], []⟩
def d_is_term : He.DefD := ⟨("is_term", none), "is_term", "is_term", defArgs s_is_term, defBody s_is_term, defScope s_is_term, [], []⟩
def d_check_term : He.DefD := ⟨("check_term", none), "check_term", "check_term", defArgs s_check_term, defBody s_check_term, defScope s_check_term, [], []⟩
def d_check_place : He.DefD := ⟨("check_place", none), "check_place", "check_place", defArgs s_check_place, defBody s_check_place, defScope s_check_place, [], []⟩
def d_part_end : He.DefD := ⟨("part_end", none), "part_end", "part_end", defArgs s_part_end, defBody s_part_end, defScope s_part_end, [], []⟩
def d_part_of : He.DefD := ⟨("part_of", none), "part_of", "part_of", defArgs s_part_of, defBody s_part_of, defScope s_part_of, [], []⟩
def d__law_dice : He.DefD := ⟨("_law_dice", none), "_law_dice", "_law_dice", defArgs s__law_dice, defBody s__law_dice, defScope s__law_dice, [], []⟩
def d__law_roll : He.DefD := ⟨("_law_roll", none), "_law_roll", "_law_roll", defArgs s__law_roll, defBody s__law_roll, defScope s__law_roll, [], []⟩
def d__law_ends : He.DefD := ⟨("_law_ends", none), "_law_ends", "_law_ends", defArgs s__law_ends, defBody s__law_ends, defScope s__law_ends, [], []⟩
def d__law_term_drawn : He.DefD := ⟨("_law_term_drawn", none), "_law_term_drawn", "_law_term_drawn", defArgs s__law_term_drawn, defBody s__law_term_drawn, defScope s__law_term_drawn, [], []⟩
def d__law_is_term : He.DefD := ⟨("_law_is_term", none), "_law_is_term", "_law_is_term", defArgs s__law_is_term, defBody s__law_is_term, defScope s__law_is_term, [], []⟩
def d__law_near_values : He.DefD := ⟨("_law_near_values", none), "_law_near_values", "_law_near_values", defArgs s__law_near_values, defBody s__law_near_values, defScope s__law_near_values, [], []⟩
def d__law_long_values : He.DefD := ⟨("_law_long_values", none), "_law_long_values", "_law_long_values", defArgs s__law_long_values, defBody s__law_long_values, defScope s__law_long_values, [], []⟩
def d__law_right : He.DefD := ⟨("_law_right", none), "_law_right", "_law_right", defArgs s__law_right, defBody s__law_right, defScope s__law_right, [], []⟩
def d_law : He.DefD := ⟨("law", none), "law", "law", defArgs s_law, defBody s_law, defScope s_law, [], []⟩
def fn : List He.DefD := [d_is_whole, d_is_whole_within, d_end_behind, d_is_term, d_check_term, d_check_place, d_part_end, d_part_of, d__law_dice, d__law_roll, d__law_ends, d__law_term_drawn, d__law_is_term, d__law_near_values, d__law_long_values, d__law_right, d_law]
def fa : List He.Fa := [.glo "is_whole", .glo "is_whole_within", .glo "end_behind", .glo "is_term", .glo "check_term", .glo "check_place", .glo "part_end", .glo "part_of", .glo "_law_dice", .glo "_law_roll", .glo "_law_ends", .glo "_law_term_drawn", .glo "_law_is_term", .glo "_law_near_values", .glo "_law_long_values", .glo "_law_right", .glo "law", .free "int", .free "isinstance", .free "len", .free "enumerate", .free "max", .free "tuple", .free "abs", .free "range", .free "min", .free "bool", .free "list", .int "WHOLE_END" c_WHOLE_END, .int "MAX_PARTS" c_MAX_PARTS, .int "MAX_VARIABLE" c_MAX_VARIABLE]
abbrev R : PySem.W.OpenRow := PySem.W.OpenLaw.row PySem.Challenge.rw_oncework_k00_whole_terms_and_their_parts
abbrev hk : PySem.W.Hook := He.hookD 4 fa fn
def ob (s : PySem.W.SharedT) : He.AlD := He.obsDG 4 fa fn (HandSHeadRun.getT s)
theorem ob_eq (s : PySem.W.SharedT) : ob s = hk.obs s.abs := He.obsDG_eq (HandSHeadRun.getT_eq s)
def loose : List PySem.Str := ["WorkError", "InvalidTerm", "InvalidPlace", "WHOLE_END", "MAX_PARTS", "MAX_VARIABLE", "is_whole", "is_whole_within", "end_behind", "is_term", "check_term", "check_place", "part_end", "part_of", "_law_dice", "_law_roll", "_law_ends", "_law_term_drawn", "_law_is_term", "_law_near_values", "_law_long_values", "_law_right"]
theorem run (w : World) : HandSHeadRun.RunEq R (PySem.W.view R.prog [26]) hk ob 3000 ["WorkError", "InvalidTerm", "InvalidPlace", "WHOLE_END", "MAX_PARTS", "MAX_VARIABLE", "is_whole", "is_whole_within", "end_behind", "is_term", "check_term", "check_place", "part_end", "part_of", "_law_dice", "_law_roll", "_law_ends", "_law_term_drawn", "_law_is_term", "_law_near_values", "_law_long_values", "_law_right"] w := by
  intro os
  kernel_rfl
theorem tx {K : PySem.W.Frag} {h : Heap} {mg : Str → Option Value} (X : K.In h) (G : h.Ns mainGlobals mg) (c : He.SaysD fa fn K) : ∃ fds : Nat → FuncData, Tx K mg (fun i => He.ga K (nm i)) fds := by
  have E : ∀ i, i < 17 → ∃ fd, FnP K (nm i) (st i) (He.ga K (nm i)) fd := fun i h => match i, h with
    | 0, _ => c.def_ 0 (d := d_is_whole) rfl
    | 1, _ => c.def_ 1 (d := d_is_whole_within) rfl
    | 2, _ => c.def_ 2 (d := d_end_behind) rfl
    | 3, _ => c.def_ 3 (d := d_is_term) rfl
    | 4, _ => c.def_ 4 (d := d_check_term) rfl
    | 5, _ => c.def_ 5 (d := d_check_place) rfl
    | 6, _ => c.def_ 6 (d := d_part_end) rfl
    | 7, _ => c.def_ 7 (d := d_part_of) rfl
    | 8, _ => c.def_ 8 (d := d__law_dice) rfl
    | 9, _ => c.def_ 9 (d := d__law_roll) rfl
    | 10, _ => c.def_ 10 (d := d__law_ends) rfl
    | 11, _ => c.def_ 11 (d := d__law_term_drawn) rfl
    | 12, _ => c.def_ 12 (d := d__law_is_term) rfl
    | 13, _ => c.def_ 13 (d := d__law_near_values) rfl
    | 14, _ => c.def_ 14 (d := d__law_long_values) rfl
    | 15, _ => c.def_ 15 (d := d__law_right) rfl
    | 16, _ => c.def_ 16 (d := d_law) rfl
    | n + 17, h => absurd h (by omega)
  refine ⟨fun i => if h : i < 17 then Classical.choose (E i h) else Classical.choose (E 0 (by decide)), fun i h => ?_, fun i h => ?_, fun x hx => ?_, ?_, ?_, ?_⟩
  · rw [dif_pos h]
    exact Classical.choose_spec (E i h)
  · match i, h with
    | 0, _ => exact He.glo_ok X G (c.fact 0 (f := .glo "is_whole") rfl)
    | 1, _ => exact He.glo_ok X G (c.fact 1 (f := .glo "is_whole_within") rfl)
    | 2, _ => exact He.glo_ok X G (c.fact 2 (f := .glo "end_behind") rfl)
    | 3, _ => exact He.glo_ok X G (c.fact 3 (f := .glo "is_term") rfl)
    | 4, _ => exact He.glo_ok X G (c.fact 4 (f := .glo "check_term") rfl)
    | 5, _ => exact He.glo_ok X G (c.fact 5 (f := .glo "check_place") rfl)
    | 6, _ => exact He.glo_ok X G (c.fact 6 (f := .glo "part_end") rfl)
    | 7, _ => exact He.glo_ok X G (c.fact 7 (f := .glo "part_of") rfl)
    | 8, _ => exact He.glo_ok X G (c.fact 8 (f := .glo "_law_dice") rfl)
    | 9, _ => exact He.glo_ok X G (c.fact 9 (f := .glo "_law_roll") rfl)
    | 10, _ => exact He.glo_ok X G (c.fact 10 (f := .glo "_law_ends") rfl)
    | 11, _ => exact He.glo_ok X G (c.fact 11 (f := .glo "_law_term_drawn") rfl)
    | 12, _ => exact He.glo_ok X G (c.fact 12 (f := .glo "_law_is_term") rfl)
    | 13, _ => exact He.glo_ok X G (c.fact 13 (f := .glo "_law_near_values") rfl)
    | 14, _ => exact He.glo_ok X G (c.fact 14 (f := .glo "_law_long_values") rfl)
    | 15, _ => exact He.glo_ok X G (c.fact 15 (f := .glo "_law_right") rfl)
    | 16, _ => exact He.glo_ok X G (c.fact 16 (f := .glo "law") rfl)
    | n + 17, h => exact absurd h (by omega)
  · have a : ∀ x, x ∈ frees → (He.Fa.free x).ok K = true := fun x hx => by
      obtain ⟨i, hi⟩ := List.mem_iff_getElem?.mp hx
      have hlt : i < 11 := (List.getElem?_eq_some_iff.mp hi).1
      match i, hlt, hi with
      | 0, _, hi => cases hi; exact c.fact 17 (f := .free "int") rfl
      | 1, _, hi => cases hi; exact c.fact 18 (f := .free "isinstance") rfl
      | 2, _, hi => cases hi; exact c.fact 19 (f := .free "len") rfl
      | 3, _, hi => cases hi; exact c.fact 20 (f := .free "enumerate") rfl
      | 4, _, hi => cases hi; exact c.fact 21 (f := .free "max") rfl
      | 5, _, hi => cases hi; exact c.fact 22 (f := .free "tuple") rfl
      | 6, _, hi => cases hi; exact c.fact 23 (f := .free "abs") rfl
      | 7, _, hi => cases hi; exact c.fact 24 (f := .free "range") rfl
      | 8, _, hi => cases hi; exact c.fact 25 (f := .free "min") rfl
      | 9, _, hi => cases hi; exact c.fact 26 (f := .free "bool") rfl
      | 10, _, hi => cases hi; exact c.fact 27 (f := .free "list") rfl
      | n + 11, h, _ => exact absurd h (by omega)
    exact He.free_ok X G (a x hx)
  · exact He.int_ok X G (c.fact 28 (f := .int "WHOLE_END" c_WHOLE_END) rfl)
  · exact He.int_ok X G (c.fact 29 (f := .int "MAX_PARTS" c_MAX_PARTS) rfl)
  · exact He.int_ok X G (c.fact 30 (f := .int "MAX_VARIABLE" c_MAX_VARIABLE) rfl)
end Dl
open PySem PySem.W PySem.Calls PyProof.Rows
set_option maxRecDepth 100000 in
set_option maxHeartbeats 8000000 in
theorem PySem.Challenge.cw_oncework_k00_whole_terms_and_their_parts_holds : PySem.Challenge.rw_oncework_k00_whole_terms_and_their_parts.Holds := by
  w_on; o_law
  refine HandSHeadRun.head_any (r := OpenLaw.row PySem.Challenge.rw_oncework_k00_whole_terms_and_their_parts) (q := view (OpenLaw.row PySem.Challenge.rw_oncework_k00_whole_terms_and_their_parts).prog [26]) (H := Dl.hk) (ob := Dl.ob) (M := 3000) (loose := ["WorkError", "InvalidTerm", "InvalidPlace", "WHOLE_END", "MAX_PARTS", "MAX_VARIABLE", "is_whole", "is_whole_within", "end_behind", "is_term", "check_term", "check_place", "part_end", "part_of", "_law_dice", "_law_roll", "_law_ends", "_law_term_drawn", "_law_is_term", "_law_near_values", "_law_long_values", "_law_right"]) (d := HandSHeadRun.topDef (OpenLaw.row PySem.Challenge.rw_oncework_k00_whole_terms_and_their_parts).prog 26) (kwd := []) Dl.ob_eq
    (by kernel_rfl) (fun s => by kernel_rfl) Dl.run (by kernel_rfl) (by kernel_rfl) (by kernel_rfl) (by rfl) (by first | assumption | decide +kernel) (by decide +kernel) ⟨rfl, rfl, rfl, rfl, rfl, by decide +kernel⟩ ?hw ?hc
  case hw => w_witness2
  case hc =>
    refine L2.walk_ofE (l := PySem.Challenge.rw_oncework_k00_whole_terms_and_their_parts) (n := 63) (k := 6) (x := "script") (CX := L2.CX0) rfl (by decide) (by kernel_rfl) ⟨rfl, by decide, by decide⟩ ?F (fun _ _ _ _ z => z)
    intro w mg fa h Y G hmg0
    obtain ⟨K, KX, c⟩ := Y
    have hmg : mg ("law" : PySem.Str) = some (.ref fa) := by
      have e : (HandSHeadRun.topDef (OpenLaw.row PySem.Challenge.rw_oncework_k00_whole_terms_and_their_parts).prog 26).name = ("law" : PySem.Str) := by kernel_rfl
      rw [← e]
      exact hmg0
    obtain ⟨fds, T⟩ := Dl.tx KX G c
    have e := hmg.symm.trans (T.glo 16 (by decide))
    cases e
    have b := L2.FunD.bindsA (ps := ["script"]) (T.def_ 16 (by decide)) fun _ _ _ _ _ _ us hl => match us, hl with | [_], _ => rfl
    refine ⟨K, fds 16, Dl.SpD K 1 Dl.pre_law Dl.post_law, KX, fun s v => b s [v] rfl, fun H a ns hl _ hS => ?_, fun base KB GB => ?_⟩
    · exact Dl.law_in hl hS
    · exact Dl.ok_law T
